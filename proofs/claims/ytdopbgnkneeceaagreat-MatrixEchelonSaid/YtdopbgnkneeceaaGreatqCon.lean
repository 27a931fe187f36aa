/- The contracts of the arithmetic of integers, in the form that a region's plan asks for. -/
import Derived.Test.YtdopbgnkneeceaaGreatqRace
set_option linter.unusedSectionVars false
set_option linter.unusedVariables false
set_option linter.unusedSimpArgs false
set_option maxRecDepth 100000
namespace Go.Proofs.YtdopbgnkneeceaaGreat
open Go.RowKit
section
variable {w : World} {va vb : Value} {x y : Int} {i j : Nat}
theorem kOf(z:Int)(h0 : -9223372036854775808≤z)(h1:z≤9223372036854775807)(hv:(Am (.int .i64 z)).p va w):Calls Tryz.prog 77 #[va] w (Aj (Af z) w):=by
 have hv:va = .int .i64 z:=hv;subst hv;exact cOf z h0 h1
theorem bF(z:Int)(h0 : -9223372036854775808≤z)(h1:z≤9223372036854775807)(hv:(Am (.int .i64 z)).p va w):Calls Tryz.prog 58 #[va] w (Aj (Af z) w):=by
 have hv:va = .int .i64 z:=hv;subst hv;exact XR z w h0 h1
theorem Ael(ha:(Af x).p va w)(hb:(Af y).p vb w)(sx:Sm x i)(sy:Sm y j)(hi:i≤1000000000)(hj:j≤1000000000):Calls Tryz.prog 134 #[va,vb] w (Aj (Af (x+y)) w):=AjN ha hb sx sy hi hj
theorem Ko(ha:(Af x).p va w)(hb:(Af y).p vb w)(sx:Sm x i)(sy:Sm y j)(hi:i≤1000000000)(hj:j≤1000000000):Calls Tryz.prog 79 #[va,vb] w (Aj (Af (x*y)) w):=AjO ha hb sx sy hi hj
theorem Agu(ha:(Af x).p va w)(sx:Sm x i)(hi:i≤1000000000):Calls Tryz.prog 87 #[va] w (Aj (Af (-x)) w):=AjA ha sx hi
theorem Ab6(ha:(Af x).p va w)(sx:Sm x i)(hi:i≤1000000000):Calls Tryz.prog 114 #[va] w (Aj (Am (.int .i64 x.sign)) w):=Ah0 ha sx hi
theorem Ab5(ha:(Af x).p va w)(hb:(Af y).p vb w)(sx:Sm x i)(sy:Sm y j)(hi:i≤1000000000)(hj:j≤1000000000):Calls Tryz.prog 57 #[va,vb] w (Aj (Am (.bool (decide (x=y)))) w):=AbS ha hb sx sy hi hj
theorem W6(ha:(Af x).p va w)(hb:(Af y).p vb w)(sx:Sm x i)(sy:Sm y j)(hi:i≤1000000000)(hj:j≤1000000000)(e:x=y):Calls Tryz.prog 57 #[va,vb] w (Aj (Am (.bool true)) w):=AcS ha hb sx sy hi hj e
theorem X4(ha:(Af x).p va w)(hb:(Af y).p vb w)(sx:Sm x i)(sy:Sm y j)(hi:i≤1000000000)(hj:j≤1000000000):Calls Tryz.prog 81 #[va,vb] w (Aj (Af (x+y)) w):=SN va vb x y w ha hb (sx.len hi) (sy.len hj)
theorem gT(ha:(Af x).p va w)(hb:(Af y).p vb w)(sx:Sm x i)(sy:Sm y j)(hi:i≤1000000000)(hj:j≤1000000000):Calls Tryz.prog 121 #[va,vb] w (Aj (Af (x - y)) w):=jQ va vb x y w ha hb (sx.len hi) (sy.len hj)
theorem Gw(ha:(Af x).p va w)(hb:(Af y).p vb w)(sx:Sm x i)(sy:Sm y j)(hi:i≤1000000000)(hj:j≤1000000000):Calls Tryz.prog 62 #[va,vb] w (Aj (Af (x*y)) w):=pS va vb x y w ha hb (Nat.le_trans (sx.len hi) (by decide)) (Nat.le_trans (sy.len hj) (by decide))
theorem OZ(ha:(Af x).p va w)(sx:Sm x i)(hi:i≤1000000000):Calls Tryz.prog 60 #[va] w (Aj (Af (-x)) w):=TS va x w ha (Nat.le_trans (sx.len hi) (by decide))
theorem C1(ha:(Af x).p va w)(sx:Sm x i)(hi:i≤1000000000):Calls Tryz.prog 63 #[va] w (Aj (Am (.int .i64 x.sign)) w):=
 (Z5 va x w ha (Nat.le_trans (sx.len hi) (by decide))).mono λ_ _ ⟨he,hb⟩=>⟨_,he,rfl,hb⟩
end
def FU(op:Op)(ρ:Operand→Value)(w:World)(f:PF):Prop:=∃ v w',(∀ o:Oper,o.op=op→(execOp ρ o).run Tryz.prog w = .ok (.value v) w')∧Below w.heap.size w w'∧f.p v w'
theorem BY{op:Op}{ρ:Operand→Value}{w:World}{u:Value}(h:∀ o:Oper,o.op=op→(execOp ρ o).run Tryz.prog w = .ok (.value u) w):FU op ρ w (Am u):=⟨u,w,h,Below.refl _ _,rfl⟩
section
variable {ρ : Operand → Value} {w : World} {ty ty2 : TypeId} {x y : Operand} {k : IntKind} {a b z : Int} {p q r : Bool}
theorem Cm(e:(a == b)=r)(hx:(Am (.int k a)).p (ρ x) w)(hy:(Am (.int k b)).p (ρ y) w):FU (.binOp .eql ty x y ty2) ρ w (Am (.bool r)):=by
 have hx:ρ x = .int k a:=hx;have hy:ρ y = .int k b:=hy;subst e;exact BY λo ho=>by unfold execOp; rw [ho]; simp [go_sem,hx,hy]
theorem WD(e:(a != b)=r)(hx:(Am (.int k a)).p (ρ x) w)(hy:(Am (.int k b)).p (ρ y) w):FU (.binOp .neq ty x y ty2) ρ w (Am (.bool r)):=by
 have hx:ρ x = .int k a:=hx;have hy:ρ y = .int k b:=hy;subst e;exact BY λo ho=>by unfold execOp; rw [ho]; simp [go_sem,hx,hy]
theorem Aee(e:(p == q)=r)(hx:(Am (.bool p)).p (ρ x) w)(hy:(Am (.bool q)).p (ρ y) w):FU (.binOp .eql 4 x y 4) ρ w (Am (.bool r)):=by
 have hx:ρ x = .bool p:=hx;have hy:ρ y = .bool q:=hy;subst e;exact BY λo ho=>by unfold execOp; rw [ho]; cases p <;> cases q <;> simp [go_sem,hx,hy]
theorem Aem(e:(p != q)=r)(hx:(Am (.bool p)).p (ρ x) w)(hy:(Am (.bool q)).p (ρ y) w):FU (.binOp .neq 4 x y 4) ρ w (Am (.bool r)):=by
 have hx:ρ x = .bool p:=hx;have hy:ρ y = .bool q:=hy;subst e;exact BY λo ho=>by unfold execOp; rw [ho]; cases p <;> cases q <;> simp [go_sem,hx,hy]
theorem Ff(e:decide (b<a)=r)(hx:(Am (.int k a)).p (ρ x) w)(hy:(Am (.int k b)).p (ρ y) w):FU (.binOp .gtr ty x y ty2) ρ w (Am (.bool r)):=by
 have hx:ρ x = .int k a:=hx;have hy:ρ y = .int k b:=hy;subst e;exact BY λo ho=>by unfold execOp; rw [ho]; simp [go_sem,hx,hy]
theorem GV(e:decide (a<b)=r)(hx:(Am (.int k a)).p (ρ x) w)(hy:(Am (.int k b)).p (ρ y) w):FU (.binOp .lss ty x y ty2) ρ w (Am (.bool r)):=by
 have hx:ρ x = .int k a:=hx;have hy:ρ y = .int k b:=hy;subst e;exact BY λo ho=>by unfold execOp; rw [ho]; simp [go_sem,hx,hy]
theorem AhX(e:decide (a≤b)=r)(hx:(Am (.int k a)).p (ρ x) w)(hy:(Am (.int k b)).p (ρ y) w):FU (.binOp .leq ty x y ty2) ρ w (Am (.bool r)):=by
 have hx:ρ x = .int k a:=hx;have hy:ρ y = .int k b:=hy;subst e;exact BY λo ho=>by unfold execOp; rw [ho]; simp [go_sem,hx,hy]
theorem Ag6(e:decide (b≤a)=r)(hx:(Am (.int k a)).p (ρ x) w)(hy:(Am (.int k b)).p (ρ y) w):FU (.binOp .geq ty x y ty2) ρ w (Am (.bool r)):=by
 have hx:ρ x = .int k a:=hx;have hy:ρ y = .int k b:=hy;subst e;exact BY λo ho=>by unfold execOp; rw [ho]; simp [go_sem,hx,hy]
theorem AhN(e:(!p)=r)(hx:(Am (.bool p)).p (ρ x) w):FU (.unOp .not ty x) ρ w (Am (.bool r)):=by
 have hx:ρ x = .bool p:=hx;subst e;exact BY λo ho=>by unfold execOp; rw [ho]; simp [go_sem,hx]
theorem AbT(e:k.wrap (a+b)=z)(hx:(Am (.int k a)).p (ρ x) w)(hy:(Am (.int k b)).p (ρ y) w):FU (.binOp .add ty x y ty2) ρ w (Am (.int k z)):=by
 have hx:ρ x = .int k a:=hx;have hy:ρ y = .int k b:=hy;subst e;exact BY λo ho=>by unfold execOp; rw [ho]; simp [go_sem,hx,hy]
theorem KX(e:k.wrap (a - b)=z)(hx:(Am (.int k a)).p (ρ x) w)(hy:(Am (.int k b)).p (ρ y) w):FU (.binOp .sub ty x y ty2) ρ w (Am (.int k z)):=by
 have hx:ρ x = .int k a:=hx;have hy:ρ y = .int k b:=hy;subst e;exact BY λo ho=>by unfold execOp; rw [ho]; simp [go_sem,hx,hy]
theorem R4(e:k.wrap (a*b)=z)(hx:(Am (.int k a)).p (ρ x) w)(hy:(Am (.int k b)).p (ρ y) w):FU (.binOp .mul ty x y ty2) ρ w (Am (.int k z)):=by
 have hx:ρ x = .int k a:=hx;have hy:ρ y = .int k b:=hy;subst e;exact BY λo ho=>by unfold execOp; rw [ho]; simp [go_sem,hx,hy]
theorem rU{f g:PF}(hx:(B7 f g).p (ρ x) w):FU (.extract x 0) ρ w f:=by
 obtain ⟨u,v,e,h1,h2⟩:=hx;exact ⟨u,w,λo ho=>by unfold execOp; rw [ho]; simp [go_sem,e],Below.refl _ _,h1⟩
theorem jC{f g:PF}(hx:(B7 f g).p (ρ x) w):FU (.extract x 1) ρ w g:=by
 obtain ⟨u,v,e,h1,h2⟩:=hx;exact ⟨v,w,λo ho=>by unfold execOp; rw [ho]; simp [go_sem,e],Below.refl _ _,h2⟩
theorem pP{f g h:PF}(hx:(DS f g h).p (ρ x) w):FU (.extract x 0) ρ w f:=by
 obtain ⟨u,v,t,e,h1,h2,h3⟩:=hx;exact ⟨u,w,λo ho=>by unfold execOp; rw [ho]; simp [go_sem,e],Below.refl _ _,h1⟩
theorem mN{f g h:PF}(hx:(DS f g h).p (ρ x) w):FU (.extract x 1) ρ w g:=by
 obtain ⟨u,v,t,e,h1,h2,h3⟩:=hx;exact ⟨v,w,λo ho=>by unfold execOp; rw [ho]; simp [go_sem,e],Below.refl _ _,h2⟩
theorem jK{f g h:PF}(hx:(DS f g h).p (ρ x) w):FU (.extract x 2) ρ w h:=by
 obtain ⟨u,v,t,e,h1,h2,h3⟩:=hx;exact ⟨t,w,λo ho=>by unfold execOp; rw [ho]; simp [go_sem,e],Below.refl _ _,h3⟩
end
theorem Do{f:FuncId}{fn:Func}{N:Nat}{args:Array Value}{W:World}{R:Ending→World→Prop}{S:List (Nat × PF)}(hf:Tryz.prog.funcs[f]? = some fn)(hb:fn.body.isSome=true)(hN:fn.ntmps=N)(hs:args.size≤N)
 (hS:∀ x∈S,∃ v,args[x.1]? = some v∧x.2.p v W)
 (h:∀ a w,St W N S [] a w→(DH fn).wp Tryz.prog (bodyPost Tryz.prog fn R) a w):Calls Tryz.prog f args W R:=mR hf hb hN hs hS λa hst=>h a W hst
theorem St.to{Wb:World}{N:Nat}{S S':List (Nat × PF)}{B:List (Nat × CF)}{a:Act}{w:World}(h:St Wb N S B a w)(hs:Ey S' a w):St Wb N S' B a w:=⟨h.size,h.defers,h.below,h.grow,hs,h.boxes,h.apart⟩
theorem DJ.take{Wb:World}{a:Act}{w:World}:∀{B:List (Nat × CF)},DJ Wb B a w→∀ n,DJ Wb (B.take n) a w
 | [],_,n=>by simp [DJ]
 | _ :: _,h,0=>by simp [DJ]
 | _ :: r,h,n+1=>⟨h.1,h.2.take n⟩
theorem St.firstB{Wb:World}{N:Nat}{S:List (Nat × PF)}{B:List (Nat × CF)}{a:Act}{w:World}(h:St Wb N S B a w)(n:Nat):St Wb N S (B.take n) a w:=⟨h.size,h.defers,h.below,h.grow,h.slots,h.boxes.take n,h.apart.sublist (List.take_sublist n B)⟩
section
variable {ops : Array Oper} {N : Nat} {Wb W0 : World} {a0 : Act} {F : List PF} {BX : List Bm} {AD : List (Nat × Nat × Nat)} {i : Nat}
def Oe(T:TypeId)(off:Nat)(old:CF)(fx:PF)(new:CF):Prop:=∀(w:World)(q:Nat)(v:Value),old.p q w→fx.p v w→∃ w',(Instr.storeAt T (.pointer (some ⟨q,off,none⟩)) v).run Tryz.prog w = .ok () w'∧(∀ B:Nat,∀ W:World,B≤q→Below B W w→Below B W w')∧Bt w w'∧(∀ j,j≠q→w'.heap[j]? = w.heap[j]?)∧new.p q w'
theorem ZE{T:TypeId}{t d off:Nat}{x:Operand}{fx:PF}(k:Nat)(b:Bm)(j:Nat)(ho:C7 ops i none (.store T (.tmp d) x))(hd:AF ops i=none)(hk:BX[k]? = some b)(ht:b.slot=t)(hb:b.st=some i)(hst:(BX.map (·.st)).count (some i)=1)(haln:(BX.all λc=>c.al != some i)=true)
  (hlv:(match b.al with | none=>true | some j=>(B_ ops i).contains j)=true) (hx0:AD.contains (j,t,off)=true) (hjd:AF ops j=some d) (hj:(B_ ops i).contains j=true) (hx:RW ops N Wb W0 a0 F BX AD i x fx) (h:Oe T off b.old fx b.new):CU ops N Wb W0 a0 F BX AD i:=
 Mt k b ho hd hk hb hst haln hlv λm a w q hI hr h1 h2 h3=>by
  obtain ⟨w',g1,g2,g3,g4,g5⟩:=h w q _ h3 (hx m a w hI hr);obtain ⟨q',e1,e2⟩:=hI.addrs (j,t,off) (by simpa using hx0) (CG hr (by simpa using hj)) d hjd;simp only [] at e1 e2;rw [← ht,h1] at e1;simp only [Option.some.injEq,Value.pointer.injEq,Addr.mk.injEq,and_true] at e1;subst e1;refine ⟨w',λo ho=>?_,g2 _ _ h2 hI.below,g3,g4,g5⟩;unfold execOp;rw [ho];show Sem.run _ (Instr.storeAt T (a.eval (.tmp d)) (a.eval x) >>= λ_=>pure Next.skip) w=_;rw [BZ e2];exact XM g1
end
section
variable {ρ : Operand → Value} {w : World} {ty ty2 : TypeId} {x y : Operand} {a b z : Int}
theorem Om{A:Option Addr}{k c:Nat}(hx:(Am (.slice A k c)).p (ρ x) w):FU (.call { callee:=.builtin .len,args:=#[x],argTypes:=#[32] }) ρ w (Am (.int .i64 k)):=by
 have hx:ρ x = .slice A k c:=hx;exact BY λo ho=>by unfold execOp; rw [ho]; simp [go_sem,hx]
theorem Aih{k:IntKind}(hb:b≠0)(e:a.tmod b=z)(hx:(Am (.int k a)).p (ρ x) w)(hy:(Am (.int k b)).p (ρ y) w):FU (.binOp .rem ty x y ty2) ρ w (Am (.int k z)):=by
 have hx:ρ x = .int k a:=hx;have hy:ρ y = .int k b:=hy;subst e;exact BY λo ho=>by unfold execOp; rw [ho]; simp [go_sem,hx,hy,hb]
end
inductive Fx where
 | any
 | undef
 | ref (k:Nat)
 | bool (b:Bool)
 | int (k:IntKind) (z:Int)
 | nil
 | str (s:ByteArray)
 | tup2 (a b:Fx)
 | tup3 (a b c:Fx)
 deriving DecidableEq
def Fx.den(E:List PF):Fx→PF
 | .any=>Ca
 | .undef=>Am Go.undef
 | .ref k=>E.getD k Ca
 | .bool b=>Am (.bool b)
 | .int k z=>Am (.int k z)
 | .nil=>Am (.slice none 0 0)
 | .str s=>Am (.string s)
 | .tup2 a b=>B7 (a.den E) (b.den E)
 | .tup3 a b c=>DS (a.den E) (b.den E) (c.den E)
def mW:Value→Option Fx
 | .bool b=>some (.bool b)
 | .int k z=>some (.int k z)
 | .slice none 0 0=>some .nil
 | .string s=>some (.str s)
 | _=>none
theorem eM{E:List PF}{v:Value}{f:Fx}(h:mW v=some f):f.den E=Am v:=by
 unfold mW at h;split at h <;> first | cases h; rfl | cases h
inductive PK where
 | bin (o:BinOp) (T U:TypeId)
 | un (o:UnOp) (T:TypeId)
 | conv (T U:TypeId)
 | blt (b:Builtin) (Ts:List TypeId)
 | slc (T:TypeId) (l h m:Bool)
 | idx (T:TypeId)
 | bld (T:TypeId) (ks:List Nat)
 | blds (T:TypeId) (n:Nat) (ks:List Nat)
 | ld (T:TypeId)
 | ixv (T:TypeId)
 deriving DecidableEq
def SQ:Op→Option (PK × List Operand)
 | .binOp o T x y U=>some (.bin o T U,[x,y])
 | .unOp o T x=>some (.un o T,[x])
 | .convert T U x=>some (.conv T U,[x])
 | .call { callee:=.builtin b,args:=xs,argTypes:=Ts }=>some (.blt b Ts.toList,xs.toList)
 | .slice T x none none none=>some (.slc T false false false,[x])
 | .slice T x (some l) none none=>some (.slc T true false false,[x,l])
 | .slice T x none (some h) none=>some (.slc T false true false,[x,h])
 | .slice T x (some l) (some h) none=>some (.slc T true true false,[x,l,h])
 | .slice T x none (some h) (some m)=>some (.slc T false true true,[x,h,m])
 | .slice T x (some l) (some h) (some m)=>some (.slc T true true true,[x,l,h,m])
 | .indexAddr T x y=>some (.idx T,[x,y])
 | .build T ps=>some (.bld T (ps.toList.map (·.1)),ps.toList.map (·.2))
 | .buildSlice T n ps=>some (.blds T n (ps.toList.map (·.1)),ps.toList.map (·.2))
 | .load T x=>some (.ld T,[x])
 | .index T x y=>some (.ixv T,[x,y])
 | _=>none
def MN:PK→List Operand→Op
 | .bin o T U,[x,y]=>.binOp o T x y U
 | .un o T,[x]=>.unOp o T x
 | .conv T U,[x]=>.convert T U x
 | .blt b Ts,xs=>.call { callee:=.builtin b,args:=xs.toArray,argTypes:=Ts.toArray }
 | .slc T false false false,[x]=>.slice T x none none none
 | .slc T true false false,[x,l]=>.slice T x (some l) none none
 | .slc T false true false,[x,h]=>.slice T x none (some h) none
 | .slc T true true false,[x,l,h]=>.slice T x (some l) (some h) none
 | .slc T false true true,[x,h,m]=>.slice T x none (some h) (some m)
 | .slc T true true true,[x,l,h,m]=>.slice T x (some l) (some h) (some m)
 | .idx T,[x,y]=>.indexAddr T x y
 | .bld T ks,xs=>.build T (ks.zip xs).toArray
 | .blds T n ks,xs=>.buildSlice T n (ks.zip xs).toArray
 | .ld T,[x]=>.load T x
 | .ixv T,[x,y]=>.index T x y
 | _,_=>.alloc 0
theorem Ov:∀(l:List (Nat × Operand)),(l.map (·.1)).zip (l.map (·.2))=l
 | []=>rfl
 | _ :: r=>by simp [Ov r]
theorem Pa{op:Op}{k:PK}{xs:List Operand}(h:SQ op=some (k,xs)):MN k xs=op:=by
 unfold SQ at h;split at h <;> first
  | (simp only [Option.some.injEq,Prod.mk.injEq] at h; obtain ⟨rfl,rfl⟩:=h; simp only [MN,Ov,Array.toArray_toList]; done)
  | (simp only [Option.some.injEq,Prod.mk.injEq] at h; obtain ⟨rfl,rfl⟩:=h; rfl)
  | cases h
def X6(op:Op)(fs:List Fx):Option Fx:=match op,fs with
 | .binOp .eql _ _ _ _,[.int k a,.int l b]=>if k=l then some (.bool (a == b)) else none
 | .binOp .neq _ _ _ _,[.int k a,.int l b]=>if k=l then some (.bool (a != b)) else none
 | .binOp .lss _ _ _ _,[.int k a,.int l b]=>if k=l then some (.bool (decide (a<b))) else none
 | .binOp .leq _ _ _ _,[.int k a,.int l b]=>if k=l then some (.bool (decide (a≤b))) else none
 | .binOp .gtr _ _ _ _,[.int k a,.int l b]=>if k=l then some (.bool (decide (b<a))) else none
 | .binOp .geq _ _ _ _,[.int k a,.int l b]=>if k=l then some (.bool (decide (b≤a))) else none
 | .binOp .eql 4 _ _ 4,[.bool a,.bool b]=>some (.bool (a == b))
 | .binOp .neq 4 _ _ 4,[.bool a,.bool b]=>some (.bool (a != b))
 | .unOp .not 4 _,[.bool a]=>some (.bool !a)
 | _,_=>none
def Aav(E:List PF)(ρ:Operand→Value)(w:World):List Fx→List Operand→Prop
 | [],[]=>True
 | f :: r,y :: s=>(f.den E).p (ρ y) w∧Aav E ρ w r s
 | _,_=>False
def dC(E:List PF)(w:World):List Fx→List Value→Prop
 | [],[]=>True
 | f :: r,v :: s=>(f.den E).p v w∧dC E w r s
 | _,_=>False
theorem SD{E:List PF}{op:Op}{k:PK}{xs:List Operand}{fs:List Fx}{f:Fx}(e:SQ op=some (k,xs))(h:X6 op fs=some f){ρ:Operand→Value}{w:World}(ha:Aav E ρ w fs xs):FU op ρ w (f.den E):=by
  unfold X6 at h
  split at h <;> simp only [SQ,Option.some.injEq,Prod.mk.injEq] at e
  all_goals first | (cases h; done) | skip
  all_goals obtain ⟨_,rfl⟩:=e
  all_goals first
    | (split at h
       · rename_i hk
         subst hk
         cases h
         first | exact Cm rfl ha.1 ha.2.1 | exact WD rfl ha.1 ha.2.1 | exact GV rfl ha.1 ha.2.1 | exact AhX rfl ha.1 ha.2.1 | exact Ff rfl ha.1 ha.2.1 | exact Ag6 rfl ha.1 ha.2.1
       · cases h)
    | (cases h; first | exact Aee rfl ha.1 ha.2.1 | exact Aem rfl ha.1 ha.2.1 | exact AhN rfl ha.1)
structure RY (E:List PF) (Wb:World) where
 k:PK
 xs:List Fx
 r:Fx
 ok:∀(ρ:Operand→Value)(w:World)(ys:List Operand),Below Wb.heap.size Wb w→Aav E ρ w xs ys→FU (MN k ys) ρ w (r.den E)
structure O0 (E:List PF) (Wb:World) where
 f:Nat
 xs:List Fx
 r:Fx
 pl:Bf f
 ok:∀(w:World)(vs:List Value),Below Wb.heap.size Wb w→dC E w xs vs→Calls Tryz.prog f vs.toArray w (Aj (r.den E) w)
def NG(EB:List CF)(c:Nat):CF:=EB.getD c AS
structure AiQ (E:List PF) (EB:List CF) where
 T:TypeId
 off:Nat
 c:Nat
 r:Fx
 ok:∀(w:World)(q:Nat),(NG EB c).p q w→∃ v,(Instr.loadAt T (.pointer (some ⟨q,off,none⟩))).run Tryz.prog w = .ok v w∧(r.den E).p v w
structure AfJ (EB:List CF) where
 T:TypeId
 c:Nat
 ob:Obj
 run:∀ w:World,(Instr.alloc T true (.tuple #[])).run Tryz.prog w = .ok (.pointer (some ⟨w.heap.size,0,none⟩)) (w.alloc ob)
 old:∀ w:World,(NG EB c).p w.heap.size (w.alloc ob)
structure Akc (E:List PF) (EB:List CF) where
 T:TypeId
 x:Fx
 c:Nat
 ok:∀(w:World)(v:Value),(x.den E).p v w→∃ ob,(Instr.box T v).run Tryz.prog w = .ok (.pointer (some ⟨w.heap.size,0,none⟩)) (w.alloc ob)∧(NG EB c).p w.heap.size (w.alloc ob)
structure AfB (E:List PF) (EB:List CF) where
 T:TypeId
 off:Nat
 old:Nat
 x:Fx
 new:Nat
 ok:Oe T off (NG EB old) (x.den E) (NG EB new)
structure AjC where
 T:TypeId
 k:Nat
 off:Nat
 ok:∀(q:Nat)(w:World),(Instr.fieldAt T (.pointer (some ⟨q,0,none⟩)) k).run Tryz.prog w = .ok (.pointer (some ⟨q,off,none⟩)) w
structure AjY where
 T:TypeId
 k:Int
 off:Nat
 ok:∀(q:Nat)(w:World),(Instr.indexAt T (.pointer (some ⟨q,0,none⟩)) (.int .i64 k)).run Tryz.prog w = .ok (.pointer (some ⟨q,off,none⟩)) w
structure gF (E:List PF) (EB:List CF) (Wb:World) where
 pures:List (RY E Wb):=[]
 calls:List (O0 E Wb):=[]
 loads:List (AiQ E EB):=[]
 allocs:List (AfJ EB):=[]
 boxes:List (Akc E EB):=[]
 stores:List (AfB E EB):=[]
 flds:List AjC:=[]
 idxs:List AjY:=[]
structure Ig where
 slot:Nat
 al:Option Nat
 st:Option Nat
 old:Nat
 new:Nat
def Ig.den(EB:List CF)(b:Ig):Bm:=⟨b.slot,b.al,b.st,NG EB b.old,NG EB b.new⟩
def KS:List (Nat × Fx)→Nat→Option Fx
 | [],_=>none
 | x :: r,t=>if x.1 == t then some x.2 else KS r t
def Dv(E:List PF)(S:List (Nat × Fx)):List (Nat × PF):=S.map λx=>(x.1,x.2.den E)
def D7(EB:List CF)(B:List (Nat × Nat)):List (Nat × CF):=B.map λx=>(x.1,NG EB x.2)
section
variable (ops : Array Oper) (S : List (Nat × Fx)) (F : List Fx) (BX : List Ig) (AD : List (Nat × Nat × Nat))
def Zj(i t:Nat):Option Fx:=match KS S t with
 | some f=>if AgW ops i t then some f else none
 | none=>none
def DI(i:Nat):Operand→Option Fx
 | .const v=>mW v
 | .tmp t=>match ops.findIdx? λo=>o.dst == some t with
  | some j=>if (B_ ops i).contains j && AF ops j == some t then some (F.getD j .any) else Zj ops S i t
  | none=>Zj ops S i t
 | _=>none
def SV(i:Nat):List Operand→Option (List Fx)
 | []=>some []
 | x :: r=>match DI ops S F i x,SV i r with
  | some f,some fs=>some (f :: fs)
  | _,_=>none
def alB(i:Nat)(b:Ig):Bool:=match b.al with | none=>true | some j=>(B_ ops i).contains j
def Rr(i t:Nat):Option Nat:=match BX.findIdx? λb=>b.slot == t with
 | some k=>match BX[k]? with
  | some b=>if b.slot == t then (match b.st with
   | some s=>if (B_ ops i).contains s && alB ops s b then some b.new else if alB ops i b && reach ops 4 i s then some b.old else none
   | none=>if alB ops i b then some b.old else none) else none
  | none=>none
 | none=>none
def YK(i t:Nat):Option (Nat × Nat):=match Rr ops BX i t with
 | some c=>some (0,c)
 | none=>match AD.find? λx=>AF ops x.1 == some t with
  | some x=>if AF ops x.1 == some t && (B_ ops i).contains x.1 && AD.contains x then (Rr ops BX i x.2.1).map λc=>(x.2.2,c) else none
  | none=>none
end
section
variable {E : List PF} {EB : List CF} {Wb : World} (T : gF E EB Wb) (ops : Array Oper) (S : List (Nat × Fx)) (F : List Fx) (BX : List Ig) (AD : List (Nat × Nat × Nat)) (i : Nat)
def I_(o:Oper):Option Bool:=match o.guard with
 | none=>some true
 | some (j,b)=>if (B_ ops i).contains j && (AF ops j).isSome then (match F.getD j .any with | .bool c=>some (c == b) | .undef=>some false | _=>none) else none
def P5(op:Op):Bool:=match op with
 | .move x=>decide (DI ops S F i x=some (F.getD i .any))
 | .assign x=>decide (DI ops S F i x=some (F.getD i .any))
 | _=>false
def Q9(op:Op):Bool:=match op with
 | .pick c x y=>match DI ops S F i c with
  | some (.bool true)=>decide (DI ops S F i x=some (F.getD i .any))
  | some (.bool false)=>decide (DI ops S F i y=some (F.getD i .any))
  | _=>false
 | _=>false
def Vi(f:Fx)(k:Nat):Option Fx:=match f,k with
 | .tup2 a _,0=>some a
 | .tup2 _ b,1=>some b
 | .tup3 a _ _,0=>some a
 | .tup3 _ b _,1=>some b
 | .tup3 _ _ c,2=>some c
 | _,_=>none
def Wr(op:Op):Bool:=match op with
 | .extract x k=>match DI ops S F i x with
  | some f=>decide (Vi f k=some (F.getD i .any))
  | none=>false
 | _=>false
def RE(op:Op):Bool:=match op with
 | .load U (.tmp t)=>match YK ops BX AD i t with
  | some (off,c)=>T.loads.any λe=>e.T == U && e.off == off && e.c == c && decide (e.r=F.getD i .any)
  | none=>false
 | _=>false
def QM(op:Op):Bool:=match op with
 | .call { callee:=.value (.func f),args:=xs,argTypes:=_ }=>match SV ops S F i xs.toList with
  | some fs=>T.calls.any λe=>e.f == f && decide (e.xs=fs) && decide (e.r=F.getD i .any)
  | none=>false
 | _=>false
def Ql(op:Op):Bool:=match SQ op with
 | some (k,xs)=>match SV ops S F i xs with
  | some fs=>T.pures.any λe=>decide (e.k=k) && decide (e.xs=fs) && decide (e.r=F.getD i .any)
  | none=>false
 | none=>false
def Up(op:Op):Bool:=match SQ op with
 | some (_,xs)=>match SV ops S F i xs with
  | some fs=>(match X6 op fs with | some f=>decide (f=F.getD i .any) | none=>false)
  | none=>false
 | none=>false
def yE(t off:Nat):Bool:=match BX.findIdx? λb=>b.slot == t with
 | some k=>match BX[k]? with
  | some b=>b.slot == t && alB ops i b && (AF ops i).isSome && decide ((AD.filter λx=>x.1 == i)=[(i,t,off)]) && decide (F.getD i .any = .any)
  | none=>false
 | none=>false
def Vx(op:Op):Bool:=match op with
 | .fieldAddr U (.tmp t) k=>match T.flds.find? λe=>e.T == U && e.k == k with
  | some e=>e.T == U && e.k == k && yE ops F BX AD i t e.off
  | none=>false
 | .indexAddr U (.tmp t) (.const (.int .i64 k))=>match T.idxs.find? λe=>e.T == U && decide (e.k=k) with
  | some e=>e.T == U && decide (e.k=k) && yE ops F BX AD i t e.off
  | none=>false
 | _=>false
def vI(b:Ig):Bool:=decide (b.al=some i) && decide (AF ops i=some b.slot) && (match b.st with | none=>true | some s=>(B_ ops s).contains i) && decide ((BX.map (·.al)).count (some i)=1) && (BX.all λc=>c.st != some i) && decide (F.getD i .any = .any)
def U5(op:Op):Bool:=match op with
 | .alloc U=>match BX.findIdx? λb=>decide (b.al=some i) with
  | some k=>match BX[k]? with
   | some b=>vI ops F BX i b && T.allocs.any λe=>e.T == U && e.c == b.old
   | none=>false
  | none=>false
 | .box U x=>match BX.findIdx? λb=>decide (b.al=some i) with
  | some k=>match BX[k]?,DI ops S F i x with
   | some b,some f=>vI ops F BX i b && T.boxes.any λe=>e.T == U && decide (e.x=f) && e.c == b.old
   | _,_=>false
  | none=>false
 | _=>false
def Aii(b:Ig):Bool:=decide (AF ops i=none) && decide (b.st=some i) && decide ((BX.map (·.st)).count (some i)=1) && (BX.all λc=>c.al != some i) && alB ops i b
def NM(op:Op):Bool:=match op with
 | .store U (.tmp t) x=>match BX.findIdx? λb=>decide (b.st=some i) with
  | some k=>match BX[k]?,DI ops S F i x with
   | some b,some f=>Aii ops BX i b && (
    if b.slot == t then T.stores.any λe=>e.T == U && e.off == 0 && e.old == b.old && decide (e.x=f) && e.new == b.new
    else match AD.find? λy=>AF ops y.1 == some t with
     | some y=>AF ops y.1 == some t && y.2.1 == b.slot && (B_ ops i).contains y.1 && AD.contains y && T.stores.any λe=>e.T == U && e.off == y.2.2 && e.old == b.old && decide (e.x=f) && e.new == b.new
     | none=>false)
   | _,_=>false
  | none=>false
 | _=>false
def RB:Bool:=match ops[i]? with
 | none=>false
 | some o=>match I_ ops F i o with
  | none=>false
  | some false=>BF (BX.map (·.den EB)) i && Du AD i && (decide (F.getD i .any = .any) || decide (F.getD i .any = .undef))
  | some true =>
   (BF (BX.map (·.den EB)) i && Du AD i && (P5 ops S F i o.op || Q9 ops S F i o.op || Wr ops S F i o.op || RE T ops F BX AD i o.op || QM T ops S F i o.op || Ql T ops S F i o.op || Up ops S F i o.op))
   || (BF (BX.map (·.den EB)) i && Vx T ops F BX AD i o.op)
   || (o.guard.isNone && ((Du AD i && U5 T ops S F BX i o.op) || NM T ops S F BX AD i o.op))
end
theorem BJ{E:List PF}(F:List Fx)(i:Nat):(F.map (Fx.den E)).getD i Ca=(F.getD i .any).den E:=by
 rw [List.getD_eq_getElem?_getD,List.getD_eq_getElem?_getD,List.getElem?_map]
 cases F[i]? <;> rfl
theorem F0{E:List PF}:∀{S:List (Nat × Fx)}{t:Nat}{f:Fx},KS S t=some f→∃ k:Nat,(Dv E S)[k]? = some (t,f.den E)
 | [],_,_,h=>by cases h
 | x :: r,t,f,h=>by
  unfold KS at h;split at h
  ·rename_i e
   have e:x.1=t:=by simpa using e
   cases h
   exact ⟨0,by simp [Dv,e]⟩
  ·obtain ⟨k,hk⟩:=F0 (E:=E) h
   exact ⟨k+1,by simpa [Dv] using hk⟩
section
variable {E : List PF} {EB : List CF} {Wb W0 : World} {T : gF E EB Wb} {ops : Array Oper} {N : Nat} {a0 : Act} {S : List (Nat × Fx)} {B : List (Nat × CF)} {F : List Fx} {BX : List Ig} {AD : List (Nat × Nat × Nat)} {i : Nat}
local instance:Inhabited PF:=⟨Ca⟩
theorem KM(hst:St Wb N (Dv E S) B a0 W0){t:Nat}{f:Fx}(h:Zj ops S i t=some f):RW ops N Wb W0 a0 (F.map (Fx.den E)) (BX.map (·.den EB)) AD i (.tmp t) (f.den E):=by
 unfold Zj at h;split at h
 ·rename_i g hg
  split at h
  ·rename_i hl
   cases h
   obtain ⟨k,hk⟩:=F0 (E:=E) hg;exact RK hst k hk hl
  ·cases h
 ·cases h
theorem BS(hst:St Wb N (Dv E S) B a0 W0){x:Operand}{f:Fx}(h:DI ops S F i x=some f):RW ops N Wb W0 a0 (F.map (Fx.den E)) (BX.map (·.den EB)) AD i x (f.den E):=by
 unfold DI at h;split at h
 ·rw [eM h]; exact eI _
 ·split at h
  ·rename_i j _
   split at h
   ·rename_i hj
    rw [Bool.and_eq_true] at hj
    cases h
    exact WA j hj.1 (by simpa using hj.2) (BJ F j)
   ·exact KM hst h
  ·exact KM hst h
 ·cases h
theorem Gn(hst:St Wb N (Dv E S) B a0 W0):∀{xs:List Operand}{fs:List Fx},SV ops S F i xs=some fs→∀{m:Array Bool}{a:Act}{w:World},ES ops N Wb W0 a0 (F.map (Fx.den E)) (BX.map (·.den EB)) AD m a w→i∈Region.ready .any ops m→Aav E a.eval w fs xs∧dC E w fs (xs.map a.eval)
 | [],fs,h,m,a,w,_,_=>by cases h; exact ⟨trivial,trivial⟩
 | x :: r,fs,h,m,a,w,hI,hr=>by
  unfold SV at h;split at h
  ·rename_i f gs h1 h2
   cases h
   have h3:=BS (EB:=EB) (BX:=BX) (AD:=AD) hst h1 m a w hI hr;have h4:=Gn hst h2 hI hr;exact ⟨⟨h3,h4.1⟩,⟨h3,h4.2⟩⟩
  ·cases h
theorem Jw{t c:Nat}(h:Rr ops BX i t=some c):Vg ops N Wb W0 a0 (F.map (Fx.den E)) (BX.map (·.den EB)) AD i t 0 (NG EB c):=by
 unfold Rr at h;split at h
 ·rename_i k _
  split at h
  ·rename_i b hk
   have hk':(BX.map (·.den EB))[k]? = some (b.den EB):=by rw [List.getElem?_map,hk]; rfl
   split at h
   ·rename_i hs
    have hs:b.slot=t:=by simpa using hs
    split at h
    ·rename_i s hst
     split at h
     ·rename_i hc
      rw [Bool.and_eq_true] at hc
      cases h
      exact kZ k _ s hk' hs rfl hst hc.2 hc.1
     ·split at h
      ·rename_i hc
       rw [Bool.and_eq_true] at hc
       cases h
       exact To k _ hk' hs rfl hc.1 (by show (match b.st with | none=>true | some s=>reach ops 4 i s)=true; rw [hst]; exact hc.2)
      ·cases h
    ·rename_i hst
     split at h
     ·rename_i hc
      cases h
      exact To k _ hk' hs rfl hc (by show (match b.st with | none=>true | some s=>reach ops 4 i s)=true; rw [hst])
     ·cases h
   ·cases h
  ·cases h
 ·cases h
theorem TF{t off c:Nat}(h:YK ops BX AD i t=some (off,c)):Vg ops N Wb W0 a0 (F.map (Fx.den E)) (BX.map (·.den EB)) AD i t off (NG EB c):=by
 unfold YK at h;split at h
 ·rename_i c' hc
  cases h
  exact Jw hc
 ·split at h
  ·rename_i x _
   split at h
   ·rename_i hx
    rw [Bool.and_eq_true,Bool.and_eq_true] at hx;rw [Option.map_eq_some_iff] at h;obtain ⟨c',hc,e⟩:=h
    cases e
    obtain ⟨j,t0,off⟩:=x;exact zO j (Jw hc) hx.2 (by simpa using hx.1.1) hx.1.2
   ·cases h
  ·cases h
theorem FL{o:Oper}{b:Bool}(h:I_ ops F i o=some b):Mh ops N Wb W0 a0 (F.map (Fx.den E)) (BX.map (·.den EB)) AD i o.guard b:=by
 unfold I_ at h;split at h
 ·rename_i e
  cases h
  rw [e];exact Mu
 ·rename_i j q e
  rw [e];split at h
  ·rename_i hc
   rw [Bool.and_eq_true] at hc;split at h
   ·rename_i c hf
    cases h
    obtain ⟨d,hd⟩:=Option.isSome_iff_exists.1 hc.2;exact Afh (c:=c) hc.1 hd ((BJ F j).trans (by rw [hf]; rfl)) rfl
   ·rename_i hf
    cases h
    obtain ⟨d,hd⟩:=Option.isSome_iff_exists.1 hc.2;exact bE hc.1 hd ((BJ F j).trans (by rw [hf]; rfl))
   ·cases h
  ·cases h
theorem FA{o:Oper}(ho:ops[i]? = some o){op:Op}(e:o.op=op):C7 ops i o.guard op:=by
 unfold C7;rw [ho,← e];rfl
variable (hP : EV ops N (BX.map (·.den EB)) AD) (hst : St Wb N (Dv E S) B a0 W0) {o : Oper} (ho : ops[i]? = some o)
include hP hst ho
theorem N5(hg:Mh ops N Wb W0 a0 (F.map (Fx.den E)) (BX.map (·.den EB)) AD i o.guard true)(hp:BF (BX.map (·.den EB)) i=true)(hn:Du AD i=true)(h:P5 ops S F i o.op=true):CU ops N Wb W0 a0 (F.map (Fx.den E)) (BX.map (·.den EB)) AD i:=by
 unfold P5 at h;split at h
 ·rename_i x e
  exact Adf hP (FA ho e) hp hn hg (BS hst (of_decide_eq_true h)) (BJ F i)
 ·rename_i x e
  exact oZ hP (FA ho e) hp hn hg (BS hst (of_decide_eq_true h)) (BJ F i)
 ·cases h
theorem NO(hg:Mh ops N Wb W0 a0 (F.map (Fx.den E)) (BX.map (·.den EB)) AD i o.guard true)(hp:BF (BX.map (·.den EB)) i=true)(hn:Du AD i=true)(h:Q9 ops S F i o.op=true):CU ops N Wb W0 a0 (F.map (Fx.den E)) (BX.map (·.den EB)) AD i:=by
 unfold Q9 at h;split at h
 ·rename_i c x y e
  split at h
  ·rename_i hc
   exact zU hP (FA ho e) hp hn hg (BS hst hc) (BS hst (of_decide_eq_true h)) (BJ F i)
  ·rename_i hc
   exact uK hP (FA ho e) hp hn hg (BS hst hc) (BS hst (of_decide_eq_true h)) (BJ F i)
  ·cases h
 ·cases h
theorem P9(hg:Mh ops N Wb W0 a0 (F.map (Fx.den E)) (BX.map (·.den EB)) AD i o.guard true)(hp:BF (BX.map (·.den EB)) i=true)(hn:Du AD i=true)(h:Wr ops S F i o.op=true):CU ops N Wb W0 a0 (F.map (Fx.den E)) (BX.map (·.den EB)) AD i:=by
  unfold Wr at h
  split at h
  · rename_i x k e
    split at h
    · rename_i f hf
      have h:=of_decide_eq_true h
      have hx:=BS (EB:=EB) (BX:=BX) (AD:=AD) hst hf
      unfold Vi at h
      split at h <;> first
        | (cases h; done)
        | (simp only [Option.some.injEq] at h
           refine AiW (f:=(F.getD i .any).den E) hP (FA ho e) hp hn hg hx (λρ w hx=>?_) (BJ F i)
           rw [← h]
           first | exact rU hx | exact jC hx | exact pP hx | exact mN hx | exact jK hx)
    · cases h
  · cases h
omit hst in
theorem NW(hg:Mh ops N Wb W0 a0 (F.map (Fx.den E)) (BX.map (·.den EB)) AD i o.guard true)(hp:BF (BX.map (·.den EB)) i=true)(hn:Du AD i=true)(h:RE T ops F BX AD i o.op=true):CU ops N Wb W0 a0 (F.map (Fx.den E)) (BX.map (·.den EB)) AD i:=by
 unfold RE at h;split at h
 ·rename_i U t e
  split at h
  ·rename_i off c hb
   obtain ⟨x,_,hx⟩:=List.any_eq_true.1 h;simp only [Bool.and_eq_true,beq_iff_eq,decide_eq_true_eq] at hx;obtain ⟨⟨⟨h1,h2⟩,h3⟩,h4⟩:=hx;have:=x.ok;rw [h1,h2,h3,h4] at this;exact Agc hP (FA ho e) hp hn hg (TF hb) this (BJ F i)
  ·cases h
 ·cases h
theorem NR(hg:Mh ops N Wb W0 a0 (F.map (Fx.den E)) (BX.map (·.den EB)) AD i o.guard true)(hp:BF (BX.map (·.den EB)) i=true)(hn:Du AD i=true)(h:QM T ops S F i o.op=true):CU ops N Wb W0 a0 (F.map (Fx.den E)) (BX.map (·.den EB)) AD i:=by
 unfold QM at h;split at h
 ·rename_i f xs Ts e
  split at h
  ·rename_i fs hs
   obtain ⟨x,_,hx⟩:=List.any_eq_true.1 h;simp only [Bool.and_eq_true,beq_iff_eq,decide_eq_true_eq] at hx;obtain ⟨⟨h1,h2⟩,h3⟩:=hx;have hpl:=x.pl;rw [h1] at hpl;refine fH hP (FA ho e) hp hn λm a w hI hr=>⟨hg m a w hI hr,f,(xs.toList.map a.eval).toArray,λ_ ho=>dN ho rfl hpl (by generalize a.eval=ρ; rw [← List.map_toArray,Array.toArray_toList]),?_⟩
   have:=x.ok w _ hI.below (h2 ▸ (Gn hst hs hI hr).2);rw [h1,h3] at this;rw [BJ];exact this
  ·cases h
 ·cases h
theorem NX(hg:Mh ops N Wb W0 a0 (F.map (Fx.den E)) (BX.map (·.den EB)) AD i o.guard true)(hp:BF (BX.map (·.den EB)) i=true)(hn:Du AD i=true)(h:Ql T ops S F i o.op=true):CU ops N Wb W0 a0 (F.map (Fx.den E)) (BX.map (·.den EB)) AD i:=by
 unfold Ql at h;split at h
 ·rename_i k xs e
  split at h
  ·rename_i fs hs
   obtain ⟨x,_,hx⟩:=List.any_eq_true.1 h;simp only [Bool.and_eq_true,decide_eq_true_eq] at hx;obtain ⟨⟨h1,h2⟩,h3⟩:=hx;refine C9 hP (FA ho (Pa e).symm) hp hn λm a w hI hr=>⟨hg m a w hI hr,?_⟩
   have:=x.ok a.eval w xs hI.below (h2 ▸ (Gn hst hs hI hr).1);rw [h1,h3] at this;rw [BJ];exact this
  ·cases h
 ·cases h
theorem PZ(hg:Mh ops N Wb W0 a0 (F.map (Fx.den E)) (BX.map (·.den EB)) AD i o.guard true)(hp:BF (BX.map (·.den EB)) i=true)(hn:Du AD i=true)(h:Up ops S F i o.op=true):CU ops N Wb W0 a0 (F.map (Fx.den E)) (BX.map (·.den EB)) AD i:=by
 unfold Up at h;split at h
 ·rename_i k xs e
  split at h
  ·rename_i fs hs
   split at h
   ·rename_i f hf
    have h:=of_decide_eq_true h;refine C9 hP (FA ho rfl) hp hn λm a w hI hr=>⟨hg m a w hI hr,?_⟩
    rw [BJ,← h];exact SD e hf (Gn (E:=E) hst hs hI hr).1
   ·cases h
  ·cases h
 ·cases h
omit hst in
theorem Mr(hg:Mh ops N Wb W0 a0 (F.map (Fx.den E)) (BX.map (·.den EB)) AD i o.guard true)(hp:BF (BX.map (·.den EB)) i=true){t off:Nat}{op:Op}(e:o.op=op)(h:yE ops F BX AD i t off=true)
  (hrun:∀(ρ:Operand→Value)(q:Nat)(w:World),ρ (.tmp t) = .pointer (some ⟨q,0,none⟩)→(∀ v,ρ (.const v)=v)→∀ o:Oper,o.op=op→(execOp ρ o).run Tryz.prog w = .ok (.value (.pointer (some ⟨q,off,none⟩))) w):CU ops N Wb W0 a0 (F.map (Fx.den E)) (BX.map (·.den EB)) AD i:=by
 unfold yE at h;split at h
 ·rename_i k _
  split at h
  ·rename_i b hk
   simp only [Bool.and_eq_true,beq_iff_eq,decide_eq_true_eq] at h;obtain ⟨⟨⟨⟨h1,h2⟩,h3⟩,h4⟩,h5⟩:=h;obtain ⟨d,hd⟩:=Option.isSome_iff_exists.1 h3;have hk':(BX.map (·.den EB))[k]? = some (b.den EB):=by rw [List.getElem?_map,hk]; rfl
   exact SH hP (FA ho e) hd hp off h4 ((BJ F i).trans (by rw [h5]; rfl)) _ k hk' h1 h2 hg hrun
  ·cases h
 ·cases h
omit hst in
theorem QR(hg:Mh ops N Wb W0 a0 (F.map (Fx.den E)) (BX.map (·.den EB)) AD i o.guard true)(hp:BF (BX.map (·.den EB)) i=true)(h:Vx T ops F BX AD i o.op=true):CU ops N Wb W0 a0 (F.map (Fx.den E)) (BX.map (·.den EB)) AD i:=by
 unfold Vx at h;split at h
 ·rename_i U t k e
  split at h
  ·rename_i x _
   simp only [Bool.and_eq_true,beq_iff_eq] at h;obtain ⟨⟨h1,h2⟩,h3⟩:=h;have hx:=x.ok;rw [h1,h2] at hx;refine Mr hP ho hg hp e h3 λρ q w h _ o ho=>?_
   unfold execOp;rw [ho];show Sem.run _ (Instr.fieldAt U (ρ (.tmp t)) k >>= λx=>pure (Next.value x)) w=_;rw [h];exact CA (hx q w)
  ·cases h
 ·rename_i U t k e
  split at h
  ·rename_i x _
   simp only [Bool.and_eq_true,beq_iff_eq,decide_eq_true_eq] at h;obtain ⟨⟨h1,h2⟩,h3⟩:=h;have hx:=x.ok;rw [h1,h2] at hx;refine Mr hP ho hg hp e h3 λρ q w h hc o ho=>?_
   unfold execOp;rw [ho];show Sem.run _ (Instr.indexAt U (ρ (.tmp t)) (ρ (.const (.int .i64 k))) >>= λx=>pure (Next.value x)) w=_;rw [h,hc];exact CA (hx q w)
  ·cases h
 ·cases h
theorem Rl(hgn:o.guard=none)(hn:Du AD i=true)(h:U5 T ops S F BX i o.op=true):CU ops N Wb W0 a0 (F.map (Fx.den E)) (BX.map (·.den EB)) AD i:=by
 have hop:∀{op:Op},o.op=op→C7 ops i none op:=λe=>hgn ▸ FA ho e
 have key:∀{k:Nat}{b:Ig},BX[k]? = some b→vI ops F BX i b=true→(BX.map (·.den EB))[k]? = some (b.den EB)∧(b.den EB).al=some i∧AF ops i=some (b.den EB).slot∧(match (b.den EB).st with | none=>true | some s=>(B_ ops s).contains i)=true∧((BX.map (·.den EB)).map (·.al)).count (some i)=1∧((BX.map (·.den EB)).all λc=>c.st != some i)=true∧(F.map (Fx.den E)).getD i Ca=Ca:=by
  intro k b hk h;unfold vI at h;simp only [Bool.and_eq_true,decide_eq_true_eq] at h;obtain ⟨⟨⟨⟨⟨h1,h2⟩,h3⟩,h4⟩,h5⟩,h6⟩:=h;refine ⟨by rw [List.getElem?_map,hk]; rfl,h1,h2,h3,?_,?_,(BJ F i).trans (by rw [h6]; rfl)⟩
  ·rw [List.map_map]; exact h4
  ·rw [List.all_map]; exact h5
 unfold U5 at h;split at h
 ·rename_i U e
  split at h
  ·rename_i k _
   split at h
   ·rename_i b hk
    rw [Bool.and_eq_true] at h;obtain ⟨k1,k2,k3,k4,k5,k6,k7⟩:=key hk h.1;obtain ⟨x,_,hx⟩:=List.any_eq_true.1 h.2;simp only [Bool.and_eq_true,beq_iff_eq] at hx;have r1:=x.run;have r2:=x.old;rw [hx.1] at r1;rw [hx.2] at r2;exact X3 hP k _ (hop e) k3 k1 k2 rfl k4 k5 k6 hn k7 r1 r2
   ·cases h
  ·cases h
 ·rename_i U x e
  split at h
  ·rename_i k _
   split at h
   ·rename_i b f hk hf
    rw [Bool.and_eq_true] at h;obtain ⟨k1,k2,k3,k4,k5,k6,k7⟩:=key hk h.1;obtain ⟨y,_,hy⟩:=List.any_eq_true.1 h.2;simp only [Bool.and_eq_true,beq_iff_eq,decide_eq_true_eq] at hy;obtain ⟨⟨y1,y2⟩,y3⟩:=hy;have r1:=y.ok;rw [y1,y2,y3] at r1;exact Ajn hP k _ (hop e) k3 k1 k2 rfl k4 k5 k6 hn k7 (BS hst hf) r1
   ·cases h
  ·cases h
 ·cases h
omit hP in
theorem M9(hgn:o.guard=none)(h:NM T ops S F BX AD i o.op=true):CU ops N Wb W0 a0 (F.map (Fx.den E)) (BX.map (·.den EB)) AD i:=by
 have hop:∀{op:Op},o.op=op→C7 ops i none op:=λe=>hgn ▸ FA ho e
 unfold NM at h;split at h
 ·rename_i U t x e
  split at h
  ·rename_i k _
   split at h
   ·rename_i b f hk hf
    rw [Bool.and_eq_true] at h;obtain ⟨hs,h⟩:=h;unfold Aii at hs;simp only [Bool.and_eq_true,decide_eq_true_eq] at hs;obtain ⟨⟨⟨⟨s1,s2⟩,s3⟩,s4⟩,s5⟩:=hs;have k1:(BX.map (·.den EB))[k]? = some (b.den EB):=by rw [List.getElem?_map,hk]; rfl
    have k2:((BX.map (·.den EB)).map (·.st)).count (some i)=1:=by rw [List.map_map]; exact s3
    have k3:((BX.map (·.den EB)).all λc=>c.al != some i)=true:=by rw [List.all_map]; exact s4
    have hx:=BS (EB:=EB) (BX:=BX) (AD:=AD) hst hf;split at h
    ·rename_i ht
     have ht:b.slot=t:=by simpa using ht
     obtain ⟨y,_,hy⟩:=List.any_eq_true.1 h;simp only [Bool.and_eq_true,beq_iff_eq,decide_eq_true_eq] at hy;obtain ⟨⟨⟨⟨y1,y2⟩,y3⟩,y4⟩,y5⟩:=hy;have r:=y.ok;rw [y1,y2,y3,y4,y5] at r;exact Yr k _ (hop e) s1 k1 ht s2 k2 k3 s5 hx r
    ·split at h
     ·rename_i z _
      simp only [Bool.and_eq_true,beq_iff_eq] at h;obtain ⟨⟨⟨⟨z1,z2⟩,z3⟩,z4⟩,h⟩:=h;obtain ⟨y,_,hy⟩:=List.any_eq_true.1 h;simp only [Bool.and_eq_true,beq_iff_eq,decide_eq_true_eq] at hy;obtain ⟨⟨⟨⟨y1,y2⟩,y3⟩,y4⟩,y5⟩:=hy;have r:=y.ok;rw [y1,y2,y3,y4,y5] at r;obtain ⟨j,t0,off⟩:=z;exact ZE (d:=t) k _ j (hop e) s1 k1 z2.symm s2 k2 k3 s5 z4 z1 z3 hx r
     ·cases h
   ·cases h
  ·cases h
 ·cases h
omit ho in
theorem NT(h:RB T ops S F BX AD i=true):CU ops N Wb W0 a0 (F.map (Fx.den E)) (BX.map (·.den EB)) AD i:=by
 unfold RB at h;split at h
 ·cases h
 ·rename_i o ho
  split at h
  ·cases h
  ·rename_i hg
   simp only [Bool.and_eq_true,Bool.or_eq_true,decide_eq_true_eq] at h
   rcases h.2 with h2 | h2
   ·exact Adc hP (FA ho rfl) h.1.1 h.1.2 (FL hg) ((BJ F i).trans (by rw [h2]; rfl))
   ·exact Aan hP (FA ho rfl) h.1.1 h.1.2 (FL hg) ((BJ F i).trans (by rw [h2]; rfl))
  ·rename_i hg
   have hg:=FL (E:=E) (EB:=EB) (Wb:=Wb) (W0:=W0) (N:=N) (a0:=a0) (BX:=BX) (AD:=AD) hg;rw [Bool.or_eq_true,Bool.or_eq_true] at h
   rcases h with (h | h) | h
   ·simp only [Bool.and_eq_true,Bool.or_eq_true] at h
    obtain ⟨⟨hp,hn⟩,h⟩:=h
    rcases h with (((((h | h) | h) | h) | h) | h) | h
    ·exact N5 hP hst ho hg hp hn h
    ·exact NO hP hst ho hg hp hn h
    ·exact P9 hP hst ho hg hp hn h
    ·exact NW hP ho hg hp hn h
    ·exact NR hP hst ho hg hp hn h
    ·exact NX hP hst ho hg hp hn h
    ·exact PZ hP hst ho hg hp hn h
   ·rw [Bool.and_eq_true] at h
    exact QR hP ho hg h.1 h.2
   ·rw [Bool.and_eq_true,Bool.or_eq_true,Bool.and_eq_true] at h
    obtain ⟨h0,h⟩:=h;have h0:o.guard=none:=by simpa using h0
    rcases h with h | h
    ·exact Rl hP hst ho h0 h.1 h.2
    ·exact M9 hst ho h0 h
end
structure Sy where
 S:List (Nat × Fx)
 B:List (Nat × Nat)
structure Bld where
 F:List Fx
 BX:List Ig
 AD:List (Nat × Nat × Nat)
section
variable {E : List PF} {EB : List CF} {Wb : World} (T : gF E EB Wb) (N : Nat)
section
variable (ops : Array Oper) (S : List (Nat × Fx))
def pZ(st:Bld)(i:Nat)(op:Op):Fx:=match SQ op with
 | some (k,xs)=>match SV ops S st.F i xs with
  | some fs=>match T.pures.find? λe=>decide (e.k=k) && decide (e.xs=fs) with
   | some e=>e.r
   | none=>(X6 op fs).getD .any
  | none=>.any
 | none=>.any
def Ab7(st:Bld)(i:Nat)(o:Oper):Fx:=match I_ ops st.F i o with
 | some true=>match o.op with
  | .move x=>(DI ops S st.F i x).getD .any
  | .assign x=>(DI ops S st.F i x).getD .any
  | .pick c x y=>match DI ops S st.F i c with
   | some (.bool true)=>(DI ops S st.F i x).getD .any
   | some (.bool false)=>(DI ops S st.F i y).getD .any
   | _=>.any
  | .extract x k=>match DI ops S st.F i x with
   | some f=>(Vi f k).getD .any
   | none=>.any
  | .load U (.tmp t)=>match YK ops st.BX st.AD i t with
   | some (off,c)=>match T.loads.find? λe=>e.T == U && e.off == off && e.c == c with
    | some e=>e.r
    | none=>.any
   | none=>pZ T ops S st i o.op
  | .call { callee:=.value (.func f),args:=xs,argTypes:=_ }=>match SV ops S st.F i xs.toList with
   | some fs=>match T.calls.find? λe=>e.f == f && decide (e.xs=fs) with
    | some e=>e.r
    | none=>.any
   | none=>.any
  | op=>pZ T ops S st i op
 | _=>.any
def Acv(BX:List Ig)(t i n:Nat):List Ig:=BX.map λb=>if b.slot == t then { b with st:=some i,new:=n } else b
def AiM(st:Bld)(i:Nat):Bld:=match ops[i]? with
 | none=>st
 | some o=>if I_ ops st.F i o=some false then ⟨st.F ++ [.undef],st.BX,st.AD⟩ else match o.op,o.dst with
  | .alloc U,some d=>match T.allocs.find? λe=>e.T == U with
   | some e=>⟨st.F ++ [.any],st.BX ++ [⟨d,some i,none,e.c,e.c⟩],st.AD⟩
   | none=>st
  | .box U x,some d=>match DI ops S st.F i x with
   | some f=>match T.boxes.find? λe=>e.T == U && decide (e.x=f) with
    | some e=>⟨st.F ++ [.any],st.BX ++ [⟨d,some i,none,e.c,e.c⟩],st.AD⟩
    | none=>st
   | none=>st
  | .store U (.tmp t) x,_=>match DI ops S st.F i x with
   | some f=>match st.BX.find? λb=>b.slot == t with
    | some b=>match T.stores.find? λe=>e.T == U && e.off == 0 && e.old == b.old && decide (e.x=f) with
     | some e=>⟨st.F ++ [.any],Acv st.BX t i e.new,st.AD⟩
     | none=>st
    | none=>match st.AD.find? λy=>AF ops y.1 == some t with
     | some y=>match st.BX.find? λb=>b.slot == y.2.1 with
      | some b=>match T.stores.find? λe=>e.T == U && e.off == y.2.2 && e.old == b.old && decide (e.x=f) with
       | some e=>⟨st.F ++ [.any],Acv st.BX y.2.1 i e.new,st.AD⟩
       | none=>st
      | none=>st
     | none=>st
   | none=>st
  | .fieldAddr U (.tmp t) k,_=>match T.flds.find? λe=>e.T == U && e.k == k with
   | some e=>⟨st.F ++ [.any],st.BX,st.AD ++ [(i,t,e.off)]⟩
   | none=>st
  | .indexAddr U (.tmp t) (.const (.int .i64 k)),_=>if st.BX.any λb=>b.slot == t then (match T.idxs.find? λe=>e.T == U && decide (e.k=k) with
   | some e=>⟨st.F ++ [.any],st.BX,st.AD ++ [(i,t,e.off)]⟩
   | none=>st) else ⟨st.F ++ [Ab7 T ops S st i o],st.BX,st.AD⟩
  | _,_=>⟨st.F ++ [Ab7 T ops S st i o],st.BX,st.AD⟩
def build(B:List (Nat × Nat)):Bld:=(List.range ops.size).foldl (AiM T ops S) ⟨[],B.map λx=>⟨x.1,none,none,x.2,x.2⟩,[]⟩
def AbK(BX:List Bm)(AD:List (Nat × Nat × Nat)):Bool:=Sq ops && GH ops && Ks ops BX && adB ops BX AD && (BX.all λb=>match b.st with | none=>true | some s=>decide (s<ops.size)) && (ops.all λo=>match o.dst with | none=>true | some d=>decide (d<N))
def nP(B:List (Nat × Nat))(BX:List Ig):Bool:=decide ((BX.take B.length).map (λb=>(b.slot,b.old))=B) && (BX.take B.length).all (λb=>b.al.isNone) && (BX.drop B.length).all λb=>b.al.isSome
def AfN(F:List Fx):List (Nat × Fx):=((List.range ops.size).filterMap λi=>match AF ops i,F.getD i .any with
 | none,_=>none
 | some _,.any=>none
 | some _,.undef=>none
 | some d,f=>some (d,f)) ++ S.filter λx=>ops.all λo=>o.dst != some x.1
end
def AdE(BX:List Ig):List (Nat × Nat):=BX.map λb=>(b.slot,match b.st with | none=>b.old | some _=>b.new)
def Yn(ops:Array Oper)(s:Sy):Option Sy:=match build T ops s.S s.B with
 | ⟨F,BX,AD⟩=>if AbK N ops (BX.map (·.den EB)) AD && nP s.B BX && (List.range ops.size).all (RB T ops s.S F BX AD) then some ⟨AfN ops s.S F,AdE BX⟩ else none
inductive Out where
 | fall (s:Sy)
 | ret (s:Sy)
 | exit (n:Nat) (s:Sy)
 | bad
def JZ:Code→Sy→Out
 | .skip,s=>.fall s
 | .region _ ops _,s=>match Yn T N ops s with
  | some s'=>.fall s'
  | none=>.bad
 | .seq a b,s=>match JZ a s with
  | .fall s'=>JZ b s'
  | .ret s'=>.ret s'
  | .exit n s'=>.exit n s'
  | .bad=>.bad
 | .cond (.tmp t) a b,s=>match KS s.S t with
  | some (.bool true)=>JZ a s
  | some (.bool false)=>JZ b s
  | _=>.bad
 | .block n c,s=>match JZ c s with
  | .fall s'=>.fall s'
  | .ret s'=>.ret s'
  | .exit m s'=>if m=n then .fall s' else .exit m s'
  | .bad=>.bad
 | .exit n,s=>.exit n s
 | .ret,s=>.ret s
 | _,_=>.bad
def AaZ(E:List PF)(EB:List CF)(Wb:World)(N:Nat)(Q:Exit→Act→World→Prop):Out→Prop
 | .fall s=>∀ a w,St Wb N (Dv E s.S) (D7 EB s.B) a w→Q .normal a w
 | .ret s=>∀ a w,St Wb N (Dv E s.S) (D7 EB s.B) a w→Q .ret a w
 | .exit n s=>∀ a w,St Wb N (Dv E s.S) (D7 EB s.B) a w→Q (.exit n) a w
 | .bad=>False
end
theorem M7{a:Act}{w:World}:∀{L:List (Nat × PF)},(∀ x∈L,∃ v,a.tmps[x.1]? = some v∧x.2.p v w)→Ey L a w
 | [],_=>trivial
 | x :: _,h=>⟨h x (by simp),M7 λy hy=>h y (by simp [hy])⟩
section
variable {E : List PF} {EB : List CF} {Wb : World} {T : gF E EB Wb} {N : Nat}
theorem KV{ops:Array Oper}{s s':Sy}(h:Yn T N ops s=some s'){id:Nat}{dr:Bool}{Q:Exit→Act→World→Prop}{a0:Act}{W0:World}(hst:St Wb N (Dv E s.S) (D7 EB s.B) a0 W0)
  (fin:∀ a w,St Wb N (Dv E s'.S) (D7 EB s'.B) a w→Q .normal a w):(Code.region id ops dr).wp Tryz.prog Q a0 W0:=by
 unfold Yn at h;generalize build T ops s.S s.B=bl at h;obtain ⟨F,BX,AD⟩:=bl;simp only [] at h;split at h
 ·rename_i hc
  simp only [Option.some.injEq] at h;subst h;simp only [Bool.and_eq_true] at hc;obtain ⟨⟨hp,hs⟩,hall⟩:=hc;have hP:EV ops N (BX.map (·.den EB)) AD:=by
   unfold AbK at hp;simp only [Bool.and_eq_true] at hp;obtain ⟨⟨⟨⟨⟨h1,h2⟩,h3⟩,h4⟩,h5⟩,h6⟩:=hp;exact ⟨h1,h2,h3,h4,h5,h6⟩
  unfold nP at hs;simp only [Bool.and_eq_true,decide_eq_true_eq] at hs;obtain ⟨⟨hs1,hs2⟩,hs3⟩:=hs;have hlen:(D7 EB s.B).length=s.B.length:=by simp [D7]
  refine Oq (F:=F.map (Fx.den E)) (BX:=BX.map (·.den EB)) (AD:=AD) (S':=Dv E (AfN ops s.S F)) hP hst ?_ ?_ ?_ ?_ ?_
  ·rw [hlen,← List.map_take]
   conv=>lhs; rw [← List.take_append_drop s.B.length BX,List.map_append,List.filter_append]
   have e1:((BX.take s.B.length).map (·.den EB)).filter (λb=>b.al.isNone)=(BX.take s.B.length).map (·.den EB):=List.filter_eq_self.2 λb hb=>by
    obtain ⟨c,hc,rfl⟩:=List.mem_map.1 hb;exact List.all_eq_true.1 hs2 c hc
   have e2:((BX.drop s.B.length).map (·.den EB)).filter (λb=>b.al.isNone)=[]:=List.filter_eq_nil_iff.2 λb hb=>by
    obtain ⟨c,hc,rfl⟩:=List.mem_map.1 hb;have:=List.all_eq_true.1 hs3 c hc;show ¬ c.al.isNone=true
    cases e:c.al with
    | none=>rw [e] at this; cases this
    | some _=>simp
   rw [e1,e2,List.append_nil]
  ·rw [hlen,← List.map_take,List.map_map]
   have:D7 EB s.B=D7 EB ((BX.take s.B.length).map λb=>(b.slot,b.old)):=by rw [hs1]
   rw [this];simp [D7,Ig.den,Function.comp_def]
  ·intro i hi
   exact NT hP hst (List.all_eq_true.1 hall i (List.mem_range.2 hi))
  ·intro m a w hI hm
   refine M7 λx hx=>?_
   unfold Dv AfN at hx;rw [List.map_append,List.mem_append] at hx
   rcases hx with hx | hx
   ·obtain ⟨y,hy,rfl⟩:=List.mem_map.1 hx
    obtain ⟨i,_,hi⟩:=List.mem_filterMap.1 hy;have key:∀ d f,AF ops i=some d→F.getD i .any=f→y=(d,f)→∃ v,a.tmps[y.1]? = some v∧(y.2.den E).p v w:=by
     rintro d f hd hf rfl
     exact Agk hI hm i d _ hd ((BJ F i).trans (by rw [hf]))
    split at hi
    ·cases hi
    ·cases hi
    ·cases hi
    ·rename_i d f hd hf
     exact key _ _ ‹_› rfl (by simpa using hi.symm)
   ·obtain ⟨y,hy,rfl⟩:=List.mem_map.1 hx
    obtain ⟨hy1,hy2⟩:=List.mem_filter.1 hy;obtain ⟨k,hk⟩:=List.getElem?_of_mem hy1;exact EJ hst k (show (Dv E s.S)[k]? = some (y.1,y.2.den E) by unfold Dv; rw [List.getElem?_map,hk]; rfl) hy2 hI
  ·intro a w h
   refine fin a w ?_;have e:(BX.map (·.den EB)).map (λb=>(b.slot,b.fin))=D7 EB (AdE BX):=by
    unfold D7 AdE;rw [List.map_map,List.map_map];refine List.map_congr_left λb _=>?_
    simp only [Function.comp_def];unfold Bm.fin Ig.den
    cases b.st <;> rfl
   rw [e] at h;exact h
 ·cases h
theorem UV:∀(c:Code){s:Sy}{Q:Exit→Act→World→Prop}{a:Act}{w:World},St Wb N (Dv E s.S) (D7 EB s.B) a w→AaZ E EB Wb N Q (JZ T N c s)→c.wp Tryz.prog Q a w:=by
 intro c
 induction c with
 | skip=>intro s Q a w hst h; exact wp_skip (h a w hst)
 | region id ops dr =>
  intro s Q a w hst h;unfold JZ at h;split at h
  ·rename_i s' hs
   exact KV hs hst h
  ·exact h.elim
 | seq x y ihx ihy =>
  intro s Q a w hst h;refine wp_seq (ihx hst ?_);unfold JZ at h;generalize JZ T N x s=o at h
  cases o with
  | fall s'=>exact λa w hst=>ihy hst h
  | ret s'=>exact h
  | exit n s'=>exact h
  | bad=>exact h
 | cond c x y ihx ihy =>
  intro s Q a w hst h
  cases c with
  | tmp t =>
   have key:∀ b,KS s.S t=some (.bool b)→a.eval (.tmp t) = .bool b:=λb hl=>by
    obtain ⟨k,hk⟩:=F0 (E:=E) hl;exact A7 hst k hk
   simp only [JZ] at h;split at h
   ·rename_i hl
    exact wp_cond_true (key _ hl) (ihx hst h)
   ·rename_i hl
    exact wp_cond_false (key _ hl) (ihy hst h)
   ·exact h.elim
  | _=>exact h.elim
 | block n x ih =>
  intro s Q a w hst h;refine wp_block (ih hst ?_);unfold JZ at h;generalize JZ T N x s=o at h
  cases o with
  | fall s'=>exact h
  | ret s'=>exact h
  | exit m s' =>
   simp only [] at h;intro a w hst;show if m=n then Q .normal a w else Q (.exit m) a w
   split at h
   ·rename_i e; rw [if_pos e]; exact h a w hst
   ·rename_i e; rw [if_neg e]; exact h a w hst
  | bad=>exact h
 | exit n=>intro s Q a w hst h; exact wp_exit (h a w hst)
 | ret=>intro s Q a w hst h; exact wp_ret (h a w hst)
 | _=>intro s Q a w hst h; exact h.elim
def Xp:List (Nat × Nat)→Nat→Option Nat
 | [],_=>none
 | x :: r,t=>if x.1 == t then some x.2 else Xp r t
theorem Ob:∀{B:List (Nat × Nat)}{t c:Nat},Xp B t=some c→∃ k:Nat,(D7 EB B)[k]? = some (t,NG EB c)
 | [],_,_,h=>by cases h
 | x :: r,t,c,h=>by
  unfold Xp at h;split at h
  ·rename_i e
   have e:x.1=t:=by simpa using e
   cases h
   exact ⟨0,by simp [D7,e]⟩
  ·obtain ⟨k,hk⟩:=Ob h
   exact ⟨k+1,by simpa [D7] using hk⟩
def KR(T:gF E EB Wb)(s:Sy):ResultVar→Option Fx
 | .tmp t=>KS s.S t
 | .cell t U=>match Xp s.B t with
  | some c=>match T.loads.find? λe=>e.T == U && e.off == 0 && e.c == c with
   | some e=>if e.T == U && e.off == 0 && e.c == c then some e.r else none
   | none=>none
  | none=>none
def ID(tmps:Array Value):ResultVar→Sem Value
 | .tmp t=>pure (tmps.getD t undef)
 | .cell a t=>do loadVar t (← asAddr (tmps.getD a undef))
theorem VI{U:TypeId}{q:Nat}{w:World}{v:Value}(h:(Instr.loadAt U (.pointer (some ⟨q,0,none⟩))).run Tryz.prog w = .ok v w):(loadVar U ⟨q,0,none⟩).run Tryz.prog w = .ok v w:=h
theorem Dn{s:Sy}{rv:ResultVar}{f:Fx}(h:KR T s rv=some f){a:Act}{w:World}(hst:St Wb N (Dv E s.S) (D7 EB s.B) a w):∃ v,(ID a.tmps rv).run Tryz.prog w = .ok v w∧(f.den E).p v w:=by
 cases rv with
 | tmp t =>
  obtain ⟨k,hk⟩:=F0 (E:=E) h;obtain ⟨v,h1,h2⟩:=hst.slots.get hk;refine ⟨v,?_,h2⟩;have hv:a.tmps.getD t undef=v:=by
   have:=BZ h1;simpa [Act.eval] using this
  show (pure (a.tmps.getD t undef):Sem Value).run _ _=_;rw [hv];rfl
 | cell t U =>
  simp only [KR] at h;split at h
  ·rename_i c hc
   split at h
   ·rename_i e _
    split at h
    ·rename_i he
     simp only [Bool.and_eq_true,beq_iff_eq] at he;obtain ⟨⟨e1,e2⟩,e3⟩:=he
     cases h
     obtain ⟨k,hk⟩:=Ob (EB:=EB) hc;obtain ⟨q,h1,_,h2⟩:=hst.boxes.get hk;have:=e.ok;rw [e1,e2,e3] at this;obtain ⟨v,h3,h4⟩:=this w q h2;refine ⟨v,?_,h4⟩;have hv:a.tmps.getD t undef = .pointer (some ⟨q,0,none⟩):=by
      have:=BZ h1;simpa [Act.eval] using this
     show (asAddr (a.tmps.getD t undef) >>= λp=>loadVar U p).run _ _=_;rw [hv];exact VI h3
    ·cases h
   ·cases h
  ·cases h
def Yo(T:gF E EB Wb)(s:Sy):List ResultVar→Option Fx
 | [x]=>KR T s x
 | [x,y]=>match KR T s x,KR T s y with
  | some f,some g=>some (.tup2 f g)
  | _,_=>none
 | [x,y,z]=>match KR T s x,KR T s y,KR T s z with
  | some f,some g,some h=>some (.tup3 f g h)
  | _,_,_=>none
 | _=>none
theorem KT{s:Sy}{fn:Func}{r:Fx}(h:Yo T s fn.results.toList=some r){a:Act}{w:World}(hst:St Wb N (Dv E s.S) (D7 EB s.B) a w):a.defers=[]∧∃ v,(results fn a.tmps).run Tryz.prog w = .ok v w∧Aj (r.den E) Wb (.returned v) w:=by
 refine ⟨hst.defers,?_⟩;have hres:(results fn a.tmps)=(do
   let vs ← fn.results.mapM (ID a.tmps)
   pure (if h:vs.size=1 then vs[0] else .tuple vs)):=by
  unfold results
  congr 1
 generalize hl:fn.results.toList=l at h;have hl':fn.results=l.toArray:=by rw [← hl,Array.toArray_toList]
 unfold Yo at h;split at h
 ·rename_i x
  obtain ⟨v,h1,h2⟩:=Dn h hst;exact ⟨v,by rw [hres,hl']; simp [Sem.run_bind,h1],v,rfl,h2,hst.below⟩
 ·rename_i x y
  split at h
  ·rename_i f g hf hg
   cases h
   obtain ⟨v,h1,h2⟩:=Dn hf hst;obtain ⟨u,h3,h4⟩:=Dn hg hst;exact ⟨.tuple #[v,u],by rw [hres,hl']; simp [Sem.run_bind,h1,h3],_,rfl,⟨v,u,rfl,h2,h4⟩,hst.below⟩
  ·cases h
 ·rename_i x y z
  split at h
  ·rename_i f g k hf hg hk
   cases h
   obtain ⟨v,h1,h2⟩:=Dn hf hst;obtain ⟨u,h3,h4⟩:=Dn hg hst;obtain ⟨t,h5,h6⟩:=Dn hk hst;exact ⟨.tuple #[v,u,t],by rw [hres,hl']; simp [Sem.run_bind,h1,h3,h5],_,rfl,⟨v,u,t,rfl,h2,h4,h6⟩,hst.below⟩
  ·cases h
 ·cases h
def fO:Nat→List Fx→List (Nat × Fx)
 | _,[]=>[]
 | k,f :: r=>(k,f) :: fO (k+1) r
def Uw(T:gF E EB Wb)(fn:Func)(r:Fx):Out→Bool
 | .ret s=>decide (Yo T s fn.results.toList=some r)
 | .fall s=>decide (Yo T s fn.results.toList=some r)
 | _=>false
theorem RG{fn:Func}{r:Fx}{o:Out}(h:Uw T fn r o=true):AaZ E EB Wb N (bodyPost Tryz.prog fn (Aj (r.den E) Wb)) o:=by
 unfold Uw at h;split at h
 ·exact λa w hst=>KT (of_decide_eq_true h) hst
 ·exact λa w hst=>KT (of_decide_eq_true h) hst
 ·cases h
def AbG(T:gF E EB Wb)(fn:Func)(fs:List Fx)(r:Fx):Bool:=fn.body.isSome && decide (fs.length≤fn.ntmps) && Uw T fn r (JZ T fn.ntmps (DH fn) ⟨fO 0 fs,[]⟩)
theorem Av(T:gF E EB Wb){f:FuncId}{fn:Func}{fs:List Fx}{vs:List Value}{r:Fx}(hf:Tryz.prog.funcs[f]? = some fn)(hv:dC E Wb fs vs)(h:AbG T fn fs r=true):Calls Tryz.prog f vs.toArray Wb (Aj (r.den E) Wb):=by
 unfold AbG at h;simp only [Bool.and_eq_true,decide_eq_true_eq] at h;obtain ⟨⟨h1,h2⟩,h3⟩:=h;have hlen:∀{fs:List Fx}{vs:List Value},dC E Wb fs vs→vs.length=fs.length:=by
  intro fs
  induction fs with
  | nil=>intro vs h; cases vs with | nil=>rfl | cons=>exact h.elim
  | cons f r ih=>intro vs h; cases vs with | nil=>exact h.elim | cons v s=>exact congrArg (· + 1) (ih h.2)
 refine Do (S:=Dv E (fO 0 fs)) hf h1 rfl (by simpa [hlen hv] using h2) ?_ λa w hst=>UV (T:=T) (s:=⟨fO 0 fs,[]⟩) _ hst (RG h3)
 have key:∀(fs:List Fx)(vs pre:List Value),dC E Wb fs vs→∀ x∈Dv E (fO pre.length fs),∃ v,(pre ++ vs)[x.1]? = some v∧x.2.p v Wb:=by
  intro fs
  induction fs with
  | nil=>intro vs pre _ x hx; cases hx
  | cons f r ih =>
   intro vs pre h x hx
   cases vs with
   | nil=>exact h.elim
   | cons v s =>
    unfold fO Dv at hx;rw [List.map_cons,List.mem_cons] at hx
    rcases hx with rfl | hx
    ·exact ⟨v,by simp,h.1⟩
    ·have:=ih s (pre ++ [v]) h.2 x (by rw [List.length_append]; exact hx)
     simpa using this
 intro x hx;have:=key fs vs [] hv x hx;simpa using this
def AdT(s s2:Sy):Bool:=(s2.S.all λx=>decide (KS s.S x.1=some x.2)) && decide (s.B.take s2.B.length=s2.B)
theorem Vy{s s2:Sy}(h:AdT s s2=true){a:Act}{w:World}(hst:St Wb N (Dv E s.S) (D7 EB s.B) a w):St Wb N (Dv E s2.S) (D7 EB s2.B) a w:=by
 unfold AdT at h;rw [Bool.and_eq_true] at h;have h1:Ey (Dv E s2.S) a w:=M7 λx hx=>by
  obtain ⟨y,hy,rfl⟩:=List.mem_map.1 hx;obtain ⟨k,hk⟩:=F0 (E:=E) (of_decide_eq_true (List.all_eq_true.1 h.1 y hy));exact hst.slots.get hk
 have h2:=(hst.to h1).firstB s2.B.length;have e:(D7 EB s.B).take s2.B.length=D7 EB s2.B:=by
  unfold D7;rw [← List.map_take,of_decide_eq_true h.2]
 rw [e] at h2;exact h2
end
section
variable {E : List PF} {EB : List CF} {Wb : World} {N : Nat}
def Aff(T:gF E EB Wb)(N:Nat)(ops:Array Oper)(s s2:Sy):Bool:=match Yn T N ops s with
 | some s'=>AdT s' s2
 | none=>false
theorem SZ{s:Sy}(T:gF E EB Wb)(s2:Sy){ops:Array Oper}{id:Nat}{dr:Bool}{Q:Exit→Act→World→Prop}{a0:Act}{W0:World}(hst:St Wb N (Dv E s.S) (D7 EB s.B) a0 W0)(h:Aff T N ops s s2=true)
  (fin:∀ a w,St Wb N (Dv E s2.S) (D7 EB s2.B) a w→Q .normal a w):(Code.region id ops dr).wp Tryz.prog Q a0 W0:=by
 unfold Aff at h;split at h
 ·rename_i s' hs
  exact KV hs hst λa w hst=>fin a w (Vy h hst)
 ·cases h
structure RA (N:Nat) (E:List PF) (EB:List CF) (s s2:Sy) (Wb:World) (id:Nat) (ops:Array Oper) (dr:Bool):Prop where
 run:∀{Q:Exit→Act→World→Prop}{a0:Act}{W0:World},St Wb N (Dv E s.S) (D7 EB s.B) a0 W0→(∀ a w,St Wb N (Dv E s2.S) (D7 EB s2.B) a w→Q .normal a w)→(Code.region id ops dr).wp Tryz.prog Q a0 W0
theorem RA.of{s s2:Sy}{ops:Array Oper}{id:Nat}{dr:Bool}(T:gF E EB Wb)(h:Aff T N ops s s2=true):RA N E EB s s2 Wb id ops dr:=⟨λhst fin=>SZ T s2 hst h fin⟩
theorem Ez{T:TypeId}{x:Operand}{p:Addr}{v:Value}{ρ:Operand→Value}{w:World}(hc:Wb.cell? p=some v)(hb:Below Wb.heap.size Wb w)(hrun:∀ w:World,w.cell? p=some v→(Instr.loadAt T (.pointer (some p))).run Tryz.prog w = .ok v w)(hx:(Am (.pointer (some p))).p (ρ x) w):FU (.load T x) ρ w (Am v):=by
 have e:ρ x = .pointer (some p):=hx;refine BY λo ho=>?_
 unfold execOp;rw [ho];show Sem.run _ (Instr.loadAt T (ρ x) >>= λx=>pure (Next.value x)) w=_;rw [e];exact CA (hrun w ((hb.cell (World.block_lt_of_cell? _ _ hc)).trans hc))
end
section
variable {E : List PF} {EB : List CF} {Wb : World}
def c0(f:Nat)(r:Fx)(h:∀ w,Below Wb.heap.size Wb w→Calls Tryz.prog f #[] w (Aj (r.den E) w))(pl:Bf f:=by intro _ _; simp [go_sem]):O0 E Wb:=⟨f,[],r,pl,λw vs hb hv=>by
 match vs,hv with
 | [],_=>exact h w hb⟩
def c1(f:Nat)(x r:Fx)(h:∀ w v0,Below Wb.heap.size Wb w→(x.den E).p v0 w→Calls Tryz.prog f #[v0] w (Aj (r.den E) w))(pl:Bf f:=by intro _ _; simp [go_sem]):O0 E Wb:=⟨f,[x],r,pl,λw vs hb hv=>by
 match vs,hv with
 | [v0],h0=>exact h w v0 hb h0.1⟩
def c2(f:Nat)(x y r:Fx)(h:∀ w v0 v1,Below Wb.heap.size Wb w→(x.den E).p v0 w→(y.den E).p v1 w→Calls Tryz.prog f #[v0,v1] w (Aj (r.den E) w))(pl:Bf f:=by intro _ _; simp [go_sem]):O0 E Wb:=⟨f,[x,y],r,pl,λw vs hb hv=>by
 match vs,hv with
 | [v0,v1],h0=>exact h w v0 v1 hb h0.1 h0.2.1⟩
def c3(f:Nat)(x y z r:Fx)(h:∀ w v0 v1 v2,Below Wb.heap.size Wb w→(x.den E).p v0 w→(y.den E).p v1 w→(z.den E).p v2 w→Calls Tryz.prog f #[v0,v1,v2] w (Aj (r.den E) w))(pl:Bf f:=by intro _ _; simp [go_sem]):O0 E Wb:=⟨f,[x,y,z],r,pl,λw vs hb hv=>by
 match vs,hv with
 | [v0,v1,v2],h0=>exact h w v0 v1 v2 hb h0.1 h0.2.1 h0.2.2.1⟩
def c4(f:Nat)(x y z u r:Fx)(h:∀ w v0 v1 v2 v3,Below Wb.heap.size Wb w→(x.den E).p v0 w→(y.den E).p v1 w→(z.den E).p v2 w→(u.den E).p v3 w→Calls Tryz.prog f #[v0,v1,v2,v3] w (Aj (r.den E) w))(pl:Bf f:=by intro _ _; simp [go_sem]):O0 E Wb:=⟨f,[x,y,z,u],r,pl,λw vs hb hv=>by
 match vs,hv with
 | [v0,v1,v2,v3],h0=>exact h w v0 v1 v2 v3 hb h0.1 h0.2.1 h0.2.2.1 h0.2.2.2.1⟩
def p0(k:PK)(r:Fx)(h:∀ ρ w,Below Wb.heap.size Wb w→FU (MN k []) ρ w (r.den E)):RY E Wb:=⟨k,[],r,λρ w ys hb hv=>by
 match ys,hv with
 | [],_=>exact h ρ w hb⟩
def p1(k:PK)(x r:Fx)(h:∀(ρ:Operand→Value) w a,Below Wb.heap.size Wb w→(x.den E).p (ρ a) w→FU (MN k [a]) ρ w (r.den E)):RY E Wb:=⟨k,[x],r,λρ w ys hb hv=>by
 match ys,hv with
 | [a],h0=>exact h ρ w a hb h0.1⟩
def p2(k:PK)(x y r:Fx)(h:∀(ρ:Operand→Value) w a b,Below Wb.heap.size Wb w→(x.den E).p (ρ a) w→(y.den E).p (ρ b) w→FU (MN k [a,b]) ρ w (r.den E)):RY E Wb:=⟨k,[x,y],r,λρ w ys hb hv=>by
 match ys,hv with
 | [a,b],h0=>exact h ρ w a b hb h0.1 h0.2.1⟩
def p3(k:PK)(x y z r:Fx)(h:∀(ρ:Operand→Value) w a b c,Below Wb.heap.size Wb w→(x.den E).p (ρ a) w→(y.den E).p (ρ b) w→(z.den E).p (ρ c) w→FU (MN k [a,b,c]) ρ w (r.den E)):RY E Wb:=⟨k,[x,y,z],r,λρ w ys hb hv=>by
 match ys,hv with
 | [a,b,c],h0=>exact h ρ w a b c hb h0.1 h0.2.1 h0.2.2.1⟩
end
end Go.Proofs.YtdopbgnkneeceaaGreat
