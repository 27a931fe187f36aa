/- The contracts of the arithmetic of integers, in the form that a region's plan asks for. -/
import Derived.Test.YtegaedfdddapnaaGreatqRace
set_option linter.unusedSectionVars false
set_option linter.unusedVariables false
set_option linter.unusedSimpArgs false
set_option maxRecDepth 100000
namespace Go.Proofs.YtegaedfdddapnaaGreat
open Go.RowKit
section
variable {w : World} {va vb : Value} {x y : Int} {i j : Nat}
theorem kOf(z:Int)(h0 : -9223372036854775808≤z)(h1:z≤9223372036854775807)(hv:(Am (.int .i64 z)).p va w):Calls Tryz.prog 77 #[va] w (Aj (Af z) w):=by
 have hv:va = .int .i64 z:=hv;subst hv;exact cOf z h0 h1
theorem ZB(z:Int)(h0 : -9223372036854775808≤z)(h1:z≤9223372036854775807)(hv:(Am (.int .i64 z)).p va w):Calls Tryz.prog 58 #[va] w (Aj (Af z) w):=by
 have hv:va = .int .i64 z:=hv;subst hv;exact Yf z w h0 h1
theorem Abq(ha:(Af x).p va w)(hb:(Af y).p vb w)(sx:Sm x i)(sy:Sm y j)(hi:i≤1000000000)(hj:j≤1000000000):Calls Tryz.prog 134 #[va,vb] w (Aj (Af (x+y)) w):=Aig ha hb sx sy hi hj
theorem JQ(ha:(Af x).p va w)(hb:(Af y).p vb w)(sx:Sm x i)(sy:Sm y j)(hi:i≤1000000000)(hj:j≤1000000000):Calls Tryz.prog 79 #[va,vb] w (Aj (Af (x*y)) w):=Aiw ha hb sx sy hi hj
theorem Adc(ha:(Af x).p va w)(sx:Sm x i)(hi:i≤1000000000):Calls Tryz.prog 87 #[va] w (Aj (Af (-x)) w):=Ah9 ha sx hi
theorem Aaw(ha:(Af x).p va w)(sx:Sm x i)(hi:i≤1000000000):Calls Tryz.prog 114 #[va] w (Aj (Am (.int .i64 x.sign)) w):=Aga ha sx hi
theorem AaM(ha:(Af x).p va w)(hb:(Af y).p vb w)(sx:Sm x i)(sy:Sm y j)(hi:i≤1000000000)(hj:j≤1000000000):Calls Tryz.prog 57 #[va,vb] w (Aj (Am (.bool (decide (x=y)))) w):=zH ha hb sx sy hi hj
theorem UG(ha:(Af x).p va w)(hb:(Af y).p vb w)(sx:Sm x i)(sy:Sm y j)(hi:i≤1000000000)(hj:j≤1000000000)(e:x=y):Calls Tryz.prog 57 #[va,vb] w (Aj (Am (.bool true)) w):=AdQ ha hb sx sy hi hj e
theorem Ys(ha:(Af x).p va w)(hb:(Af y).p vb w)(sx:Sm x i)(sy:Sm y j)(hi:i≤1000000000)(hj:j≤1000000000):Calls Tryz.prog 81 #[va,vb] w (Aj (Af (x+y)) w):=Ta va vb x y w ha hb (sx.len hi) (sy.len hj)
theorem aA(ha:(Af x).p va w)(hb:(Af y).p vb w)(sx:Sm x i)(sy:Sm y j)(hi:i≤1000000000)(hj:j≤1000000000):Calls Tryz.prog 121 #[va,vb] w (Aj (Af (x - y)) w):=dE va vb x y w ha hb (sx.len hi) (sy.len hj)
theorem Gi(ha:(Af x).p va w)(hb:(Af y).p vb w)(sx:Sm x i)(sy:Sm y j)(hi:i≤1000000000)(hj:j≤1000000000):Calls Tryz.prog 62 #[va,vb] w (Aj (Af (x*y)) w):=dX va vb x y w ha hb (Nat.le_trans (sx.len hi) (by decide)) (Nat.le_trans (sy.len hj) (by decide))
theorem O0(ha:(Af x).p va w)(sx:Sm x i)(hi:i≤1000000000):Calls Tryz.prog 60 #[va] w (Aj (Af (-x)) w):=Te va x w ha (Nat.le_trans (sx.len hi) (by decide))
theorem C1(ha:(Af x).p va w)(sx:Sm x i)(hi:i≤1000000000):Calls Tryz.prog 63 #[va] w (Aj (Am (.int .i64 x.sign)) w):=
 (Z1 va x w ha (Nat.le_trans (sx.len hi) (by decide))).mono λ_ _ ⟨he,hb⟩=>⟨_,he,rfl,hb⟩
end
def FI(op:Op)(ρ:Operand→Value)(w:World)(f:PF):Prop:=∃ v w',(∀ o:Oper,o.op=op→(execOp ρ o).run Tryz.prog w = .ok (.value v) w')∧Below w.heap.size w w'∧f.p v w'
theorem BR{op:Op}{ρ:Operand→Value}{w:World}{u:Value}(h:∀ o:Oper,o.op=op→(execOp ρ o).run Tryz.prog w = .ok (.value u) w):FI op ρ w (Am u):=⟨u,w,h,Below.refl _ _,rfl⟩
section
variable {ρ : Operand → Value} {w : World} {ty ty2 : TypeId} {x y : Operand} {k : IntKind} {a b z : Int} {p q r : Bool}
theorem Cu(e:(a == b)=r)(hx:(Am (.int k a)).p (ρ x) w)(hy:(Am (.int k b)).p (ρ y) w):FI (.binOp .eql ty x y ty2) ρ w (Am (.bool r)):=by
 have hx:ρ x = .int k a:=hx;have hy:ρ y = .int k b:=hy;subst e;exact BR λo ho=>by unfold execOp; rw [ho]; simp [go_sem,hx,hy]
theorem T8(e:(a != b)=r)(hx:(Am (.int k a)).p (ρ x) w)(hy:(Am (.int k b)).p (ρ y) w):FI (.binOp .neq ty x y ty2) ρ w (Am (.bool r)):=by
 have hx:ρ x = .int k a:=hx;have hy:ρ y = .int k b:=hy;subst e;exact BR λo ho=>by unfold execOp; rw [ho]; simp [go_sem,hx,hy]
theorem Ab5(e:(p == q)=r)(hx:(Am (.bool p)).p (ρ x) w)(hy:(Am (.bool q)).p (ρ y) w):FI (.binOp .eql 4 x y 4) ρ w (Am (.bool r)):=by
 have hx:ρ x = .bool p:=hx;have hy:ρ y = .bool q:=hy;subst e;exact BR λo ho=>by unfold execOp; rw [ho]; cases p <;> cases q <;> simp [go_sem,hx,hy]
theorem AbO(e:(p != q)=r)(hx:(Am (.bool p)).p (ρ x) w)(hy:(Am (.bool q)).p (ρ y) w):FI (.binOp .neq 4 x y 4) ρ w (Am (.bool r)):=by
 have hx:ρ x = .bool p:=hx;have hy:ρ y = .bool q:=hy;subst e;exact BR λo ho=>by unfold execOp; rw [ho]; cases p <;> cases q <;> simp [go_sem,hx,hy]
theorem ES(e:decide (b<a)=r)(hx:(Am (.int k a)).p (ρ x) w)(hy:(Am (.int k b)).p (ρ y) w):FI (.binOp .gtr ty x y ty2) ρ w (Am (.bool r)):=by
 have hx:ρ x = .int k a:=hx;have hy:ρ y = .int k b:=hy;subst e;exact BR λo ho=>by unfold execOp; rw [ho]; simp [go_sem,hx,hy]
theorem GZ(e:decide (a<b)=r)(hx:(Am (.int k a)).p (ρ x) w)(hy:(Am (.int k b)).p (ρ y) w):FI (.binOp .lss ty x y ty2) ρ w (Am (.bool r)):=by
 have hx:ρ x = .int k a:=hx;have hy:ρ y = .int k b:=hy;subst e;exact BR λo ho=>by unfold execOp; rw [ho]; simp [go_sem,hx,hy]
theorem Afx(e:decide (a≤b)=r)(hx:(Am (.int k a)).p (ρ x) w)(hy:(Am (.int k b)).p (ρ y) w):FI (.binOp .leq ty x y ty2) ρ w (Am (.bool r)):=by
 have hx:ρ x = .int k a:=hx;have hy:ρ y = .int k b:=hy;subst e;exact BR λo ho=>by unfold execOp; rw [ho]; simp [go_sem,hx,hy]
theorem Agp(e:decide (b≤a)=r)(hx:(Am (.int k a)).p (ρ x) w)(hy:(Am (.int k b)).p (ρ y) w):FI (.binOp .geq ty x y ty2) ρ w (Am (.bool r)):=by
 have hx:ρ x = .int k a:=hx;have hy:ρ y = .int k b:=hy;subst e;exact BR λo ho=>by unfold execOp; rw [ho]; simp [go_sem,hx,hy]
theorem AgY(e:(!p)=r)(hx:(Am (.bool p)).p (ρ x) w):FI (.unOp .not ty x) ρ w (Am (.bool r)):=by
 have hx:ρ x = .bool p:=hx;subst e;exact BR λo ho=>by unfold execOp; rw [ho]; simp [go_sem,hx]
theorem Aaz(e:k.wrap (a+b)=z)(hx:(Am (.int k a)).p (ρ x) w)(hy:(Am (.int k b)).p (ρ y) w):FI (.binOp .add ty x y ty2) ρ w (Am (.int k z)):=by
 have hx:ρ x = .int k a:=hx;have hy:ρ y = .int k b:=hy;subst e;exact BR λo ho=>by unfold execOp; rw [ho]; simp [go_sem,hx,hy]
theorem KB(e:k.wrap (a - b)=z)(hx:(Am (.int k a)).p (ρ x) w)(hy:(Am (.int k b)).p (ρ y) w):FI (.binOp .sub ty x y ty2) ρ w (Am (.int k z)):=by
 have hx:ρ x = .int k a:=hx;have hy:ρ y = .int k b:=hy;subst e;exact BR λo ho=>by unfold execOp; rw [ho]; simp [go_sem,hx,hy]
theorem TB(e:k.wrap (a*b)=z)(hx:(Am (.int k a)).p (ρ x) w)(hy:(Am (.int k b)).p (ρ y) w):FI (.binOp .mul ty x y ty2) ρ w (Am (.int k z)):=by
 have hx:ρ x = .int k a:=hx;have hy:ρ y = .int k b:=hy;subst e;exact BR λo ho=>by unfold execOp; rw [ho]; simp [go_sem,hx,hy]
theorem nO{f g:PF}(hx:(B5 f g).p (ρ x) w):FI (.extract x 0) ρ w f:=by
 obtain ⟨u,v,e,h1,h2⟩:=hx;exact ⟨u,w,λo ho=>by unfold execOp; rw [ho]; simp [go_sem,e],Below.refl _ _,h1⟩
theorem jE{f g:PF}(hx:(B5 f g).p (ρ x) w):FI (.extract x 1) ρ w g:=by
 obtain ⟨u,v,e,h1,h2⟩:=hx;exact ⟨v,w,λo ho=>by unfold execOp; rw [ho]; simp [go_sem,e],Below.refl _ _,h2⟩
theorem nZ{f g h:PF}(hx:(DO f g h).p (ρ x) w):FI (.extract x 0) ρ w f:=by
 obtain ⟨u,v,t,e,h1,h2,h3⟩:=hx;exact ⟨u,w,λo ho=>by unfold execOp; rw [ho]; simp [go_sem,e],Below.refl _ _,h1⟩
theorem gW{f g h:PF}(hx:(DO f g h).p (ρ x) w):FI (.extract x 1) ρ w g:=by
 obtain ⟨u,v,t,e,h1,h2,h3⟩:=hx;exact ⟨v,w,λo ho=>by unfold execOp; rw [ho]; simp [go_sem,e],Below.refl _ _,h2⟩
theorem iX{f g h:PF}(hx:(DO f g h).p (ρ x) w):FI (.extract x 2) ρ w h:=by
 obtain ⟨u,v,t,e,h1,h2,h3⟩:=hx;exact ⟨t,w,λo ho=>by unfold execOp; rw [ho]; simp [go_sem,e],Below.refl _ _,h3⟩
end
theorem Dh{f:FuncId}{fn:Func}{N:Nat}{args:Array Value}{W:World}{R:Ending→World→Prop}{S:List (Nat × PF)}(hf:Tryz.prog.funcs[f]? = some fn)(hb:fn.body.isSome=true)(hN:fn.ntmps=N)(hs:args.size≤N)
 (hS:∀ x∈S,∃ v,args[x.1]? = some v∧x.2.p v W)
 (h:∀ a w,St W N S [] a w→(DG fn).wp Tryz.prog (bodyPost Tryz.prog fn R) a w):Calls Tryz.prog f args W R:=iR hf hb hN hs hS λa hst=>h a W hst
theorem St.to{Wb:World}{N:Nat}{S S':List (Nat × PF)}{B:List (Nat × CF)}{a:Act}{w:World}(h:St Wb N S B a w)(hs:En S' a w):St Wb N S' B a w:=⟨h.size,h.defers,h.below,h.grow,hs,h.boxes,h.apart⟩
theorem Do.take{Wb:World}{a:Act}{w:World}:∀{B:List (Nat × CF)},Do Wb B a w→∀ n,Do Wb (B.take n) a w
 | [],_,n=>by simp [Do]
 | _ :: _,h,0=>by simp [Do]
 | _ :: r,h,n+1=>⟨h.1,h.2.take n⟩
theorem St.firstB{Wb:World}{N:Nat}{S:List (Nat × PF)}{B:List (Nat × CF)}{a:Act}{w:World}(h:St Wb N S B a w)(n:Nat):St Wb N S (B.take n) a w:=⟨h.size,h.defers,h.below,h.grow,h.slots,h.boxes.take n,h.apart.sublist (List.take_sublist n B)⟩
section
variable {ops : Array Oper} {N : Nat} {Wb W0 : World} {a0 : Act} {F : List PF} {BX : List Bk} {AD : List (Nat × Nat × Nat)} {i : Nat}
def Ol(T:TypeId)(off:Nat)(old:CF)(fx:PF)(new:CF):Prop:=∀(w:World)(q:Nat)(v:Value),old.p q w→fx.p v w→∃ w',(Instr.storeAt T (.pointer (some ⟨q,off,none⟩)) v).run Tryz.prog w = .ok () w'∧(∀ B:Nat,∀ W:World,B≤q→Below B W w→Below B W w')∧Bs w w'∧(∀ j,j≠q→w'.heap[j]? = w.heap[j]?)∧new.p q w'
theorem Zw{T:TypeId}{t d off:Nat}{x:Operand}{fx:PF}(k:Nat)(b:Bk)(j:Nat)(ho:C5 ops i none (.store T (.tmp d) x))(hd:AE ops i=none)(hk:BX[k]? = some b)(ht:b.slot=t)(hb:b.st=some i)(hst:(BX.map (·.st)).count (some i)=1)(haln:(BX.all λc=>c.al != some i)=true)
  (hlv:(match b.al with | none=>true | some j=>(Ca ops i).contains j)=true) (hx0:AD.contains (j,t,off)=true) (hjd:AE ops j=some d) (hj:(Ca ops i).contains j=true) (hx:RL ops N Wb W0 a0 F BX AD i x fx) (h:Ol T off b.old fx b.new):CW ops N Wb W0 a0 F BX AD i:=
 L7 k b ho hd hk hb hst haln hlv λm a w q hI hr h1 h2 h3=>by
  obtain ⟨w',g1,g2,g3,g4,g5⟩:=h w q _ h3 (hx m a w hI hr);obtain ⟨q',e1,e2⟩:=hI.addrs (j,t,off) (by simpa using hx0) (CC hr (by simpa using hj)) d hjd;simp only [] at e1 e2;rw [← ht,h1] at e1;simp only [Option.some.injEq,Value.pointer.injEq,Addr.mk.injEq,and_true] at e1;subst e1;refine ⟨w',λo ho=>?_,g2 _ _ h2 hI.below,g3,g4,g5⟩;unfold execOp;rw [ho];show Sem.run _ (Instr.storeAt T (a.eval (.tmp d)) (a.eval x) >>= λ_=>pure Next.skip) w=_;rw [BT e2];exact Xj g1
end
section
variable {ρ : Operand → Value} {w : World} {ty ty2 : TypeId} {x y : Operand} {a b z : Int}
theorem Ow{A:Option Addr}{k c:Nat}(hx:(Am (.slice A k c)).p (ρ x) w):FI (.call { callee:=.builtin .len,args:=#[x],argTypes:=#[32] }) ρ w (Am (.int .i64 k)):=by
 have hx:ρ x = .slice A k c:=hx;exact BR λo ho=>by unfold execOp; rw [ho]; simp [go_sem,hx]
theorem AgB{k:IntKind}(hb:b≠0)(e:a.tmod b=z)(hx:(Am (.int k a)).p (ρ x) w)(hy:(Am (.int k b)).p (ρ y) w):FI (.binOp .rem ty x y ty2) ρ w (Am (.int k z)):=by
 have hx:ρ x = .int k a:=hx;have hy:ρ y = .int k b:=hy;subst e;exact BR λo ho=>by unfold execOp; rw [ho]; simp [go_sem,hx,hy,hb]
end
inductive Fx where
 | any
 | undef
 | ref (k:Nat)
 | bool (b:Bool)
 | int (k:IntKind) (z:Int)
 | nil
 | str (s:ByteArray)
 | tup2 (a b:Fx)
 | tup3 (a b c:Fx)
 deriving DecidableEq
def Fx.den(E:List PF):Fx→PF
 | .any=>B_
 | .undef=>Am Go.undef
 | .ref k=>E.getD k B_
 | .bool b=>Am (.bool b)
 | .int k z=>Am (.int k z)
 | .nil=>Am (.slice none 0 0)
 | .str s=>Am (.string s)
 | .tup2 a b=>B5 (a.den E) (b.den E)
 | .tup3 a b c=>DO (a.den E) (b.den E) (c.den E)
def fB:Value→Option Fx
 | .bool b=>some (.bool b)
 | .int k z=>some (.int k z)
 | .slice none 0 0=>some .nil
 | .string s=>some (.str s)
 | _=>none
theorem YE{E:List PF}{v:Value}{f:Fx}(h:fB v=some f):f.den E=Am v:=by
 unfold fB at h;split at h <;> first | cases h; rfl | cases h
inductive PK where
 | bin (o:BinOp) (T U:TypeId)
 | un (o:UnOp) (T:TypeId)
 | conv (T U:TypeId)
 | blt (b:Builtin) (Ts:List TypeId)
 | slc (T:TypeId) (l h m:Bool)
 | idx (T:TypeId)
 | bld (T:TypeId) (ks:List Nat)
 | blds (T:TypeId) (n:Nat) (ks:List Nat)
 | ld (T:TypeId)
 | ixv (T:TypeId)
 deriving DecidableEq
def R9:Op→Option (PK × List Operand)
 | .binOp o T x y U=>some (.bin o T U,[x,y])
 | .unOp o T x=>some (.un o T,[x])
 | .convert T U x=>some (.conv T U,[x])
 | .call { callee:=.builtin b,args:=xs,argTypes:=Ts }=>some (.blt b Ts.toList,xs.toList)
 | .slice T x none none none=>some (.slc T false false false,[x])
 | .slice T x (some l) none none=>some (.slc T true false false,[x,l])
 | .slice T x none (some h) none=>some (.slc T false true false,[x,h])
 | .slice T x (some l) (some h) none=>some (.slc T true true false,[x,l,h])
 | .slice T x none (some h) (some m)=>some (.slc T false true true,[x,h,m])
 | .slice T x (some l) (some h) (some m)=>some (.slc T true true true,[x,l,h,m])
 | .indexAddr T x y=>some (.idx T,[x,y])
 | .build T ps=>some (.bld T (ps.toList.map (·.1)),ps.toList.map (·.2))
 | .buildSlice T n ps=>some (.blds T n (ps.toList.map (·.1)),ps.toList.map (·.2))
 | .load T x=>some (.ld T,[x])
 | .index T x y=>some (.ixv T,[x,y])
 | _=>none
def NV:PK→List Operand→Op
 | .bin o T U,[x,y]=>.binOp o T x y U
 | .un o T,[x]=>.unOp o T x
 | .conv T U,[x]=>.convert T U x
 | .blt b Ts,xs=>.call { callee:=.builtin b,args:=xs.toArray,argTypes:=Ts.toArray }
 | .slc T false false false,[x]=>.slice T x none none none
 | .slc T true false false,[x,l]=>.slice T x (some l) none none
 | .slc T false true false,[x,h]=>.slice T x none (some h) none
 | .slc T true true false,[x,l,h]=>.slice T x (some l) (some h) none
 | .slc T false true true,[x,h,m]=>.slice T x none (some h) (some m)
 | .slc T true true true,[x,l,h,m]=>.slice T x (some l) (some h) (some m)
 | .idx T,[x,y]=>.indexAddr T x y
 | .bld T ks,xs=>.build T (ks.zip xs).toArray
 | .blds T n ks,xs=>.buildSlice T n (ks.zip xs).toArray
 | .ld T,[x]=>.load T x
 | .ixv T,[x,y]=>.index T x y
 | _,_=>.alloc 0
theorem N8:∀(l:List (Nat × Operand)),(l.map (·.1)).zip (l.map (·.2))=l
 | []=>rfl
 | _ :: r=>by simp [N8 r]
theorem Oi{op:Op}{k:PK}{xs:List Operand}(h:R9 op=some (k,xs)):NV k xs=op:=by
 unfold R9 at h;split at h <;> first
  | (simp only [Option.some.injEq,Prod.mk.injEq] at h; obtain ⟨rfl,rfl⟩:=h; simp only [NV,N8,Array.toArray_toList]; done)
  | (simp only [Option.some.injEq,Prod.mk.injEq] at h; obtain ⟨rfl,rfl⟩:=h; rfl)
  | cases h
def WH(op:Op)(fs:List Fx):Option Fx:=match op,fs with
 | .binOp .eql _ _ _ _,[.int k a,.int l b]=>if k=l then some (.bool (a == b)) else none
 | .binOp .neq _ _ _ _,[.int k a,.int l b]=>if k=l then some (.bool (a != b)) else none
 | .binOp .lss _ _ _ _,[.int k a,.int l b]=>if k=l then some (.bool (decide (a<b))) else none
 | .binOp .leq _ _ _ _,[.int k a,.int l b]=>if k=l then some (.bool (decide (a≤b))) else none
 | .binOp .gtr _ _ _ _,[.int k a,.int l b]=>if k=l then some (.bool (decide (b<a))) else none
 | .binOp .geq _ _ _ _,[.int k a,.int l b]=>if k=l then some (.bool (decide (b≤a))) else none
 | .binOp .eql 4 _ _ 4,[.bool a,.bool b]=>some (.bool (a == b))
 | .binOp .neq 4 _ _ 4,[.bool a,.bool b]=>some (.bool (a != b))
 | .unOp .not 4 _,[.bool a]=>some (.bool !a)
 | _,_=>none
def qW(E:List PF)(ρ:Operand→Value)(w:World):List Fx→List Operand→Prop
 | [],[]=>True
 | f :: r,y :: s=>(f.den E).p (ρ y) w∧qW E ρ w r s
 | _,_=>False
def Y_(E:List PF)(w:World):List Fx→List Value→Prop
 | [],[]=>True
 | f :: r,v :: s=>(f.den E).p v w∧Y_ E w r s
 | _,_=>False
theorem To{E:List PF}{op:Op}{k:PK}{xs:List Operand}{fs:List Fx}{f:Fx}(e:R9 op=some (k,xs))(h:WH op fs=some f){ρ:Operand→Value}{w:World}(ha:qW E ρ w fs xs):FI op ρ w (f.den E):=by
  unfold WH at h
  split at h <;> simp only [R9,Option.some.injEq,Prod.mk.injEq] at e
  all_goals first | (cases h; done) | skip
  all_goals obtain ⟨_,rfl⟩:=e
  all_goals first
    | (split at h
       · rename_i hk
         subst hk
         cases h
         first | exact Cu rfl ha.1 ha.2.1 | exact T8 rfl ha.1 ha.2.1 | exact GZ rfl ha.1 ha.2.1 | exact Afx rfl ha.1 ha.2.1 | exact ES rfl ha.1 ha.2.1 | exact Agp rfl ha.1 ha.2.1
       · cases h)
    | (cases h; first | exact Ab5 rfl ha.1 ha.2.1 | exact AbO rfl ha.1 ha.2.1 | exact AgY rfl ha.1)
structure Sa (E:List PF) (Wb:World) where
 k:PK
 xs:List Fx
 r:Fx
 ok:∀(ρ:Operand→Value)(w:World)(ys:List Operand),Below Wb.heap.size Wb w→qW E ρ w xs ys→FI (NV k ys) ρ w (r.den E)
structure OR (E:List PF) (Wb:World) where
 f:Nat
 xs:List Fx
 r:Fx
 pl:Bf f
 ok:∀(w:World)(vs:List Value),Below Wb.heap.size Wb w→Y_ E w xs vs→Calls Tryz.prog f vs.toArray w (Aj (r.den E) w)
def Nq(EB:List CF)(c:Nat):CF:=EB.getD c AT
structure AgJ (E:List PF) (EB:List CF) where
 T:TypeId
 off:Nat
 c:Nat
 r:Fx
 ok:∀(w:World)(q:Nat),(Nq EB c).p q w→∃ v,(Instr.loadAt T (.pointer (some ⟨q,off,none⟩))).run Tryz.prog w = .ok v w∧(r.den E).p v w
structure AbJ (EB:List CF) where
 T:TypeId
 c:Nat
 ob:Obj
 run:∀ w:World,(Instr.alloc T true (.tuple #[])).run Tryz.prog w = .ok (.pointer (some ⟨w.heap.size,0,none⟩)) (w.alloc ob)
 old:∀ w:World,(Nq EB c).p w.heap.size (w.alloc ob)
structure AiK (E:List PF) (EB:List CF) where
 T:TypeId
 x:Fx
 c:Nat
 ok:∀(w:World)(v:Value),(x.den E).p v w→∃ ob,(Instr.box T v).run Tryz.prog w = .ok (.pointer (some ⟨w.heap.size,0,none⟩)) (w.alloc ob)∧(Nq EB c).p w.heap.size (w.alloc ob)
structure Abm (E:List PF) (EB:List CF) where
 T:TypeId
 off:Nat
 old:Nat
 x:Fx
 new:Nat
 ok:Ol T off (Nq EB old) (x.den E) (Nq EB new)
structure Aiy where
 T:TypeId
 k:Nat
 off:Nat
 ok:∀(q:Nat)(w:World),(Instr.fieldAt T (.pointer (some ⟨q,0,none⟩)) k).run Tryz.prog w = .ok (.pointer (some ⟨q,off,none⟩)) w
structure Ait where
 T:TypeId
 k:Int
 off:Nat
 ok:∀(q:Nat)(w:World),(Instr.indexAt T (.pointer (some ⟨q,0,none⟩)) (.int .i64 k)).run Tryz.prog w = .ok (.pointer (some ⟨q,off,none⟩)) w
structure Z_ (E:List PF) (EB:List CF) (Wb:World) where
 pures:List (Sa E Wb):=[]
 calls:List (OR E Wb):=[]
 loads:List (AgJ E EB):=[]
 allocs:List (AbJ EB):=[]
 boxes:List (AiK E EB):=[]
 stores:List (Abm E EB):=[]
 flds:List Aiy:=[]
 idxs:List Ait:=[]
structure H9 where
 slot:Nat
 al:Option Nat
 st:Option Nat
 old:Nat
 new:Nat
def H9.den(EB:List CF)(b:H9):Bk:=⟨b.slot,b.al,b.st,Nq EB b.old,Nq EB b.new⟩
def Kz:List (Nat × Fx)→Nat→Option Fx
 | [],_=>none
 | x :: r,t=>if x.1 == t then some x.2 else Kz r t
def Dy(E:List PF)(S:List (Nat × Fx)):List (Nat × PF):=S.map λx=>(x.1,x.2.den E)
def DZ(EB:List CF)(B:List (Nat × Nat)):List (Nat × CF):=B.map λx=>(x.1,Nq EB x.2)
section
variable (ops : Array Oper) (S : List (Nat × Fx)) (F : List Fx) (BX : List H9) (AD : List (Nat × Nat × Nat))
def X7(i t:Nat):Option Fx:=match Kz S t with
 | some f=>if AhW ops i t then some f else none
 | none=>none
def Dv(i:Nat):Operand→Option Fx
 | .const v=>fB v
 | .tmp t=>match ops.findIdx? λo=>o.dst == some t with
  | some j=>if (Ca ops i).contains j && AE ops j == some t then some (F.getD j .any) else X7 ops S i t
  | none=>X7 ops S i t
 | _=>none
def SC(i:Nat):List Operand→Option (List Fx)
 | []=>some []
 | x :: r=>match Dv ops S F i x,SC i r with
  | some f,some fs=>some (f :: fs)
  | _,_=>none
def alB(i:Nat)(b:H9):Bool:=match b.al with | none=>true | some j=>(Ca ops i).contains j
def QP(i t:Nat):Option Nat:=match BX.findIdx? λb=>b.slot == t with
 | some k=>match BX[k]? with
  | some b=>if b.slot == t then (match b.st with
   | some s=>if (Ca ops i).contains s && alB ops s b then some b.new else if alB ops i b && reach ops 4 i s then some b.old else none
   | none=>if alB ops i b then some b.old else none) else none
  | none=>none
 | none=>none
def Yp(i t:Nat):Option (Nat × Nat):=match QP ops BX i t with
 | some c=>some (0,c)
 | none=>match AD.find? λx=>AE ops x.1 == some t with
  | some x=>if AE ops x.1 == some t && (Ca ops i).contains x.1 && AD.contains x then (QP ops BX i x.2.1).map λc=>(x.2.2,c) else none
  | none=>none
end
section
variable {E : List PF} {EB : List CF} {Wb : World} (T : Z_ E EB Wb) (ops : Array Oper) (S : List (Nat × Fx)) (F : List Fx) (BX : List H9) (AD : List (Nat × Nat × Nat)) (i : Nat)
def Jo(o:Oper):Option Bool:=match o.guard with
 | none=>some true
 | some (j,b)=>if (Ca ops i).contains j && (AE ops j).isSome then (match F.getD j .any with | .bool c=>some (c == b) | .undef=>some false | _=>none) else none
def QU(op:Op):Bool:=match op with
 | .move x=>decide (Dv ops S F i x=some (F.getD i .any))
 | .assign x=>decide (Dv ops S F i x=some (F.getD i .any))
 | _=>false
def Q_(op:Op):Bool:=match op with
 | .pick c x y=>match Dv ops S F i c with
  | some (.bool true)=>decide (Dv ops S F i x=some (F.getD i .any))
  | some (.bool false)=>decide (Dv ops S F i y=some (F.getD i .any))
  | _=>false
 | _=>false
def Uk(f:Fx)(k:Nat):Option Fx:=match f,k with
 | .tup2 a _,0=>some a
 | .tup2 _ b,1=>some b
 | .tup3 a _ _,0=>some a
 | .tup3 _ b _,1=>some b
 | .tup3 _ _ c,2=>some c
 | _,_=>none
def Uv(op:Op):Bool:=match op with
 | .extract x k=>match Dv ops S F i x with
  | some f=>decide (Uk f k=some (F.getD i .any))
  | none=>false
 | _=>false
def PQ(op:Op):Bool:=match op with
 | .load U (.tmp t)=>match Yp ops BX AD i t with
  | some (off,c)=>T.loads.any λe=>e.T == U && e.off == off && e.c == c && decide (e.r=F.getD i .any)
  | none=>false
 | _=>false
def Pt(op:Op):Bool:=match op with
 | .call { callee:=.value (.func f),args:=xs,argTypes:=_ }=>match SC ops S F i xs.toList with
  | some fs=>T.calls.any λe=>e.f == f && decide (e.xs=fs) && decide (e.r=F.getD i .any)
  | none=>false
 | _=>false
def QT(op:Op):Bool:=match R9 op with
 | some (k,xs)=>match SC ops S F i xs with
  | some fs=>T.pures.any λe=>decide (e.k=k) && decide (e.xs=fs) && decide (e.r=F.getD i .any)
  | none=>false
 | none=>false
def T9(op:Op):Bool:=match R9 op with
 | some (_,xs)=>match SC ops S F i xs with
  | some fs=>(match WH op fs with | some f=>decide (f=F.getD i .any) | none=>false)
  | none=>false
 | none=>false
def sD(t off:Nat):Bool:=match BX.findIdx? λb=>b.slot == t with
 | some k=>match BX[k]? with
  | some b=>b.slot == t && alB ops i b && (AE ops i).isSome && decide ((AD.filter λx=>x.1 == i)=[(i,t,off)]) && decide (F.getD i .any = .any)
  | none=>false
 | none=>false
def VV(op:Op):Bool:=match op with
 | .fieldAddr U (.tmp t) k=>match T.flds.find? λe=>e.T == U && e.k == k with
  | some e=>e.T == U && e.k == k && sD ops F BX AD i t e.off
  | none=>false
 | .indexAddr U (.tmp t) (.const (.int .i64 k))=>match T.idxs.find? λe=>e.T == U && decide (e.k=k) with
  | some e=>e.T == U && decide (e.k=k) && sD ops F BX AD i t e.off
  | none=>false
 | _=>false
def uI(b:H9):Bool:=decide (b.al=some i) && decide (AE ops i=some b.slot) && (match b.st with | none=>true | some s=>(Ca ops s).contains i) && decide ((BX.map (·.al)).count (some i)=1) && (BX.all λc=>c.st != some i) && decide (F.getD i .any = .any)
def UI(op:Op):Bool:=match op with
 | .alloc U=>match BX.findIdx? λb=>decide (b.al=some i) with
  | some k=>match BX[k]? with
   | some b=>uI ops F BX i b && T.allocs.any λe=>e.T == U && e.c == b.old
   | none=>false
  | none=>false
 | .box U x=>match BX.findIdx? λb=>decide (b.al=some i) with
  | some k=>match BX[k]?,Dv ops S F i x with
   | some b,some f=>uI ops F BX i b && T.boxes.any λe=>e.T == U && decide (e.x=f) && e.c == b.old
   | _,_=>false
  | none=>false
 | _=>false
def Af3(b:H9):Bool:=decide (AE ops i=none) && decide (b.st=some i) && decide ((BX.map (·.st)).count (some i)=1) && (BX.all λc=>c.al != some i) && alB ops i b
def Mb(op:Op):Bool:=match op with
 | .store U (.tmp t) x=>match BX.findIdx? λb=>decide (b.st=some i) with
  | some k=>match BX[k]?,Dv ops S F i x with
   | some b,some f=>Af3 ops BX i b && (
    if b.slot == t then T.stores.any λe=>e.T == U && e.off == 0 && e.old == b.old && decide (e.x=f) && e.new == b.new
    else match AD.find? λy=>AE ops y.1 == some t with
     | some y=>AE ops y.1 == some t && y.2.1 == b.slot && (Ca ops i).contains y.1 && AD.contains y && T.stores.any λe=>e.T == U && e.off == y.2.2 && e.old == b.old && decide (e.x=f) && e.new == b.new
     | none=>false)
   | _,_=>false
  | none=>false
 | _=>false
def Rg:Bool:=match ops[i]? with
 | none=>false
 | some o=>match Jo ops F i o with
  | none=>false
  | some false=>BF (BX.map (·.den EB)) i && Dp AD i && (decide (F.getD i .any = .any) || decide (F.getD i .any = .undef))
  | some true =>
   (BF (BX.map (·.den EB)) i && Dp AD i && (QU ops S F i o.op || Q_ ops S F i o.op || Uv ops S F i o.op || PQ T ops F BX AD i o.op || Pt T ops S F i o.op || QT T ops S F i o.op || T9 ops S F i o.op))
   || (BF (BX.map (·.den EB)) i && VV T ops F BX AD i o.op)
   || (o.guard.isNone && ((Dp AD i && UI T ops S F BX i o.op) || Mb T ops S F BX AD i o.op))
end
theorem BJ{E:List PF}(F:List Fx)(i:Nat):(F.map (Fx.den E)).getD i B_=(F.getD i .any).den E:=by
 rw [List.getD_eq_getElem?_getD,List.getD_eq_getElem?_getD,List.getElem?_map]
 cases F[i]? <;> rfl
theorem FH{E:List PF}:∀{S:List (Nat × Fx)}{t:Nat}{f:Fx},Kz S t=some f→∃ k:Nat,(Dy E S)[k]? = some (t,f.den E)
 | [],_,_,h=>by cases h
 | x :: r,t,f,h=>by
  unfold Kz at h;split at h
  ·rename_i e
   have e:x.1=t:=by simpa using e
   cases h
   exact ⟨0,by simp [Dy,e]⟩
  ·obtain ⟨k,hk⟩:=FH (E:=E) h
   exact ⟨k+1,by simpa [Dy] using hk⟩
section
variable {E : List PF} {EB : List CF} {Wb W0 : World} {T : Z_ E EB Wb} {ops : Array Oper} {N : Nat} {a0 : Act} {S : List (Nat × Fx)} {B : List (Nat × CF)} {F : List Fx} {BX : List H9} {AD : List (Nat × Nat × Nat)} {i : Nat}
local instance:Inhabited PF:=⟨B_⟩
theorem KD(hst:St Wb N (Dy E S) B a0 W0){t:Nat}{f:Fx}(h:X7 ops S i t=some f):RL ops N Wb W0 a0 (F.map (Fx.den E)) (BX.map (·.den EB)) AD i (.tmp t) (f.den E):=by
 unfold X7 at h;split at h
 ·rename_i g hg
  split at h
  ·rename_i hl
   cases h
   obtain ⟨k,hk⟩:=FH (E:=E) hg;exact QM hst k hk hl
  ·cases h
 ·cases h
theorem BN(hst:St Wb N (Dy E S) B a0 W0){x:Operand}{f:Fx}(h:Dv ops S F i x=some f):RL ops N Wb W0 a0 (F.map (Fx.den E)) (BX.map (·.den EB)) AD i x (f.den E):=by
 unfold Dv at h;split at h
 ·rw [YE h]; exact YU _
 ·split at h
  ·rename_i j _
   split at h
   ·rename_i hj
    rw [Bool.and_eq_true] at hj
    cases h
    exact UA j hj.1 (by simpa using hj.2) (BJ F j)
   ·exact KD hst h
  ·exact KD hst h
 ·cases h
theorem F8(hst:St Wb N (Dy E S) B a0 W0):∀{xs:List Operand}{fs:List Fx},SC ops S F i xs=some fs→∀{m:Array Bool}{a:Act}{w:World},EL ops N Wb W0 a0 (F.map (Fx.den E)) (BX.map (·.den EB)) AD m a w→i∈Region.ready .any ops m→qW E a.eval w fs xs∧Y_ E w fs (xs.map a.eval)
 | [],fs,h,m,a,w,_,_=>by cases h; exact ⟨trivial,trivial⟩
 | x :: r,fs,h,m,a,w,hI,hr=>by
  unfold SC at h;split at h
  ·rename_i f gs h1 h2
   cases h
   have h3:=BN (EB:=EB) (BX:=BX) (AD:=AD) hst h1 m a w hI hr;have h4:=F8 hst h2 hI hr;exact ⟨⟨h3,h4.1⟩,⟨h3,h4.2⟩⟩
  ·cases h
theorem Jh{t c:Nat}(h:QP ops BX i t=some c):Vu ops N Wb W0 a0 (F.map (Fx.den E)) (BX.map (·.den EB)) AD i t 0 (Nq EB c):=by
 unfold QP at h;split at h
 ·rename_i k _
  split at h
  ·rename_i b hk
   have hk':(BX.map (·.den EB))[k]? = some (b.den EB):=by rw [List.getElem?_map,hk]; rfl
   split at h
   ·rename_i hs
    have hs:b.slot=t:=by simpa using hs
    split at h
    ·rename_i s hst
     split at h
     ·rename_i hc
      rw [Bool.and_eq_true] at hc
      cases h
      exact lY k _ s hk' hs rfl hst hc.2 hc.1
     ·split at h
      ·rename_i hc
       rw [Bool.and_eq_true] at hc
       cases h
       exact SG k _ hk' hs rfl hc.1 (by show (match b.st with | none=>true | some s=>reach ops 4 i s)=true; rw [hst]; exact hc.2)
      ·cases h
    ·rename_i hst
     split at h
     ·rename_i hc
      cases h
      exact SG k _ hk' hs rfl hc (by show (match b.st with | none=>true | some s=>reach ops 4 i s)=true; rw [hst])
     ·cases h
   ·cases h
  ·cases h
 ·cases h
theorem TE{t off c:Nat}(h:Yp ops BX AD i t=some (off,c)):Vu ops N Wb W0 a0 (F.map (Fx.den E)) (BX.map (·.den EB)) AD i t off (Nq EB c):=by
 unfold Yp at h;split at h
 ·rename_i c' hc
  cases h
  exact Jh hc
 ·split at h
  ·rename_i x _
   split at h
   ·rename_i hx
    rw [Bool.and_eq_true,Bool.and_eq_true] at hx;rw [Option.map_eq_some_iff] at h;obtain ⟨c',hc,e⟩:=h
    cases e
    obtain ⟨j,t0,off⟩:=x;exact wJ j (Jh hc) hx.2 (by simpa using hx.1.1) hx.1.2
   ·cases h
  ·cases h
theorem Fv{o:Oper}{b:Bool}(h:Jo ops F i o=some b):MW ops N Wb W0 a0 (F.map (Fx.den E)) (BX.map (·.den EB)) AD i o.guard b:=by
 unfold Jo at h;split at h
 ·rename_i e
  cases h
  rw [e];exact Ma
 ·rename_i j q e
  rw [e];split at h
  ·rename_i hc
   rw [Bool.and_eq_true] at hc;split at h
   ·rename_i c hf
    cases h
    obtain ⟨d,hd⟩:=Option.isSome_iff_exists.1 hc.2;exact Ad7 (c:=c) hc.1 hd ((BJ F j).trans (by rw [hf]; rfl)) rfl
   ·rename_i hf
    cases h
    obtain ⟨d,hd⟩:=Option.isSome_iff_exists.1 hc.2;exact ZC hc.1 hd ((BJ F j).trans (by rw [hf]; rfl))
   ·cases h
  ·cases h
theorem E9{o:Oper}(ho:ops[i]? = some o){op:Op}(e:o.op=op):C5 ops i o.guard op:=by
 unfold C5;rw [ho,← e];rfl
variable (hP : EA ops N (BX.map (·.den EB)) AD) (hst : St Wb N (Dy E S) B a0 W0) {o : Oper} (ho : ops[i]? = some o)
include hP hst ho
theorem NN(hg:MW ops N Wb W0 a0 (F.map (Fx.den E)) (BX.map (·.den EB)) AD i o.guard true)(hp:BF (BX.map (·.den EB)) i=true)(hn:Dp AD i=true)(h:QU ops S F i o.op=true):CW ops N Wb W0 a0 (F.map (Fx.den E)) (BX.map (·.den EB)) AD i:=by
 unfold QU at h;split at h
 ·rename_i x e
  exact AbQ hP (E9 ho e) hp hn hg (BN hst (of_decide_eq_true h)) (BJ F i)
 ·rename_i x e
  exact dL hP (E9 ho e) hp hn hg (BN hst (of_decide_eq_true h)) (BJ F i)
 ·cases h
theorem NO(hg:MW ops N Wb W0 a0 (F.map (Fx.den E)) (BX.map (·.den EB)) AD i o.guard true)(hp:BF (BX.map (·.den EB)) i=true)(hn:Dp AD i=true)(h:Q_ ops S F i o.op=true):CW ops N Wb W0 a0 (F.map (Fx.den E)) (BX.map (·.den EB)) AD i:=by
 unfold Q_ at h;split at h
 ·rename_i c x y e
  split at h
  ·rename_i hc
   exact pP hP (E9 ho e) hp hn hg (BN hst hc) (BN hst (of_decide_eq_true h)) (BJ F i)
  ·rename_i hc
   exact qC hP (E9 ho e) hp hn hg (BN hst hc) (BN hst (of_decide_eq_true h)) (BJ F i)
  ·cases h
 ·cases h
theorem Ro(hg:MW ops N Wb W0 a0 (F.map (Fx.den E)) (BX.map (·.den EB)) AD i o.guard true)(hp:BF (BX.map (·.den EB)) i=true)(hn:Dp AD i=true)(h:Uv ops S F i o.op=true):CW ops N Wb W0 a0 (F.map (Fx.den E)) (BX.map (·.den EB)) AD i:=by
  unfold Uv at h
  split at h
  · rename_i x k e
    split at h
    · rename_i f hf
      have h:=of_decide_eq_true h
      have hx:=BN (EB:=EB) (BX:=BX) (AD:=AD) hst hf
      unfold Uk at h
      split at h <;> first
        | (cases h; done)
        | (simp only [Option.some.injEq] at h
           refine Ahl (f:=(F.getD i .any).den E) hP (E9 ho e) hp hn hg hx (λρ w hx=>?_) (BJ F i)
           rw [← h]
           first | exact nO hx | exact jE hx | exact nZ hx | exact gW hx | exact iX hx)
    · cases h
  · cases h
omit hst in
theorem NS(hg:MW ops N Wb W0 a0 (F.map (Fx.den E)) (BX.map (·.den EB)) AD i o.guard true)(hp:BF (BX.map (·.den EB)) i=true)(hn:Dp AD i=true)(h:PQ T ops F BX AD i o.op=true):CW ops N Wb W0 a0 (F.map (Fx.den E)) (BX.map (·.den EB)) AD i:=by
 unfold PQ at h;split at h
 ·rename_i U t e
  split at h
  ·rename_i off c hb
   obtain ⟨x,_,hx⟩:=List.any_eq_true.1 h;simp only [Bool.and_eq_true,beq_iff_eq,decide_eq_true_eq] at hx;obtain ⟨⟨⟨h1,h2⟩,h3⟩,h4⟩:=hx;have:=x.ok;rw [h1,h2,h3,h4] at this;exact Ad1 hP (E9 ho e) hp hn hg (TE hb) this (BJ F i)
  ·cases h
 ·cases h
theorem NL(hg:MW ops N Wb W0 a0 (F.map (Fx.den E)) (BX.map (·.den EB)) AD i o.guard true)(hp:BF (BX.map (·.den EB)) i=true)(hn:Dp AD i=true)(h:Pt T ops S F i o.op=true):CW ops N Wb W0 a0 (F.map (Fx.den E)) (BX.map (·.den EB)) AD i:=by
 unfold Pt at h;split at h
 ·rename_i f xs Ts e
  split at h
  ·rename_i fs hs
   obtain ⟨x,_,hx⟩:=List.any_eq_true.1 h;simp only [Bool.and_eq_true,beq_iff_eq,decide_eq_true_eq] at hx;obtain ⟨⟨h1,h2⟩,h3⟩:=hx;have hpl:=x.pl;rw [h1] at hpl;refine ZY hP (E9 ho e) hp hn λm a w hI hr=>⟨hg m a w hI hr,f,(xs.toList.map a.eval).toArray,λ_ ho=>YM ho rfl hpl (by generalize a.eval=ρ; rw [← List.map_toArray,Array.toArray_toList]),?_⟩
   have:=x.ok w _ hI.below (h2 ▸ (F8 hst hs hI hr).2);rw [h1,h3] at this;rw [BJ];exact this
  ·cases h
 ·cases h
theorem NM(hg:MW ops N Wb W0 a0 (F.map (Fx.den E)) (BX.map (·.den EB)) AD i o.guard true)(hp:BF (BX.map (·.den EB)) i=true)(hn:Dp AD i=true)(h:QT T ops S F i o.op=true):CW ops N Wb W0 a0 (F.map (Fx.den E)) (BX.map (·.den EB)) AD i:=by
 unfold QT at h;split at h
 ·rename_i k xs e
  split at h
  ·rename_i fs hs
   obtain ⟨x,_,hx⟩:=List.any_eq_true.1 h;simp only [Bool.and_eq_true,decide_eq_true_eq] at hx;obtain ⟨⟨h1,h2⟩,h3⟩:=hx;refine C6 hP (E9 ho (Oi e).symm) hp hn λm a w hI hr=>⟨hg m a w hI hr,?_⟩
   have:=x.ok a.eval w xs hI.below (h2 ▸ (F8 hst hs hI hr).1);rw [h1,h3] at this;rw [BJ];exact this
  ·cases h
 ·cases h
theorem P_(hg:MW ops N Wb W0 a0 (F.map (Fx.den E)) (BX.map (·.den EB)) AD i o.guard true)(hp:BF (BX.map (·.den EB)) i=true)(hn:Dp AD i=true)(h:T9 ops S F i o.op=true):CW ops N Wb W0 a0 (F.map (Fx.den E)) (BX.map (·.den EB)) AD i:=by
 unfold T9 at h;split at h
 ·rename_i k xs e
  split at h
  ·rename_i fs hs
   split at h
   ·rename_i f hf
    have h:=of_decide_eq_true h;refine C6 hP (E9 ho rfl) hp hn λm a w hI hr=>⟨hg m a w hI hr,?_⟩
    rw [BJ,← h];exact To e hf (F8 (E:=E) hst hs hI hr).1
   ·cases h
  ·cases h
 ·cases h
omit hst in
theorem L9(hg:MW ops N Wb W0 a0 (F.map (Fx.den E)) (BX.map (·.den EB)) AD i o.guard true)(hp:BF (BX.map (·.den EB)) i=true){t off:Nat}{op:Op}(e:o.op=op)(h:sD ops F BX AD i t off=true)
  (hrun:∀(ρ:Operand→Value)(q:Nat)(w:World),ρ (.tmp t) = .pointer (some ⟨q,0,none⟩)→(∀ v,ρ (.const v)=v)→∀ o:Oper,o.op=op→(execOp ρ o).run Tryz.prog w = .ok (.value (.pointer (some ⟨q,off,none⟩))) w):CW ops N Wb W0 a0 (F.map (Fx.den E)) (BX.map (·.den EB)) AD i:=by
 unfold sD at h;split at h
 ·rename_i k _
  split at h
  ·rename_i b hk
   simp only [Bool.and_eq_true,beq_iff_eq,decide_eq_true_eq] at h;obtain ⟨⟨⟨⟨h1,h2⟩,h3⟩,h4⟩,h5⟩:=h;obtain ⟨d,hd⟩:=Option.isSome_iff_exists.1 h3;have hk':(BX.map (·.den EB))[k]? = some (b.den EB):=by rw [List.getElem?_map,hk]; rfl
   exact TD hP (E9 ho e) hd hp off h4 ((BJ F i).trans (by rw [h5]; rfl)) _ k hk' h1 h2 hg hrun
  ·cases h
 ·cases h
omit hst in
theorem Rt(hg:MW ops N Wb W0 a0 (F.map (Fx.den E)) (BX.map (·.den EB)) AD i o.guard true)(hp:BF (BX.map (·.den EB)) i=true)(h:VV T ops F BX AD i o.op=true):CW ops N Wb W0 a0 (F.map (Fx.den E)) (BX.map (·.den EB)) AD i:=by
 unfold VV at h;split at h
 ·rename_i U t k e
  split at h
  ·rename_i x _
   simp only [Bool.and_eq_true,beq_iff_eq] at h;obtain ⟨⟨h1,h2⟩,h3⟩:=h;have hx:=x.ok;rw [h1,h2] at hx;refine L9 hP ho hg hp e h3 λρ q w h _ o ho=>?_
   unfold execOp;rw [ho];show Sem.run _ (Instr.fieldAt U (ρ (.tmp t)) k >>= λx=>pure (Next.value x)) w=_;rw [h];exact Cz (hx q w)
  ·cases h
 ·rename_i U t k e
  split at h
  ·rename_i x _
   simp only [Bool.and_eq_true,beq_iff_eq,decide_eq_true_eq] at h;obtain ⟨⟨h1,h2⟩,h3⟩:=h;have hx:=x.ok;rw [h1,h2] at hx;refine L9 hP ho hg hp e h3 λρ q w h hc o ho=>?_
   unfold execOp;rw [ho];show Sem.run _ (Instr.indexAt U (ρ (.tmp t)) (ρ (.const (.int .i64 k))) >>= λx=>pure (Next.value x)) w=_;rw [h,hc];exact Cz (hx q w)
  ·cases h
 ·cases h
theorem QR(hgn:o.guard=none)(hn:Dp AD i=true)(h:UI T ops S F BX i o.op=true):CW ops N Wb W0 a0 (F.map (Fx.den E)) (BX.map (·.den EB)) AD i:=by
 have hop:∀{op:Op},o.op=op→C5 ops i none op:=λe=>hgn ▸ E9 ho e
 have key:∀{k:Nat}{b:H9},BX[k]? = some b→uI ops F BX i b=true→(BX.map (·.den EB))[k]? = some (b.den EB)∧(b.den EB).al=some i∧AE ops i=some (b.den EB).slot∧(match (b.den EB).st with | none=>true | some s=>(Ca ops s).contains i)=true∧((BX.map (·.den EB)).map (·.al)).count (some i)=1∧((BX.map (·.den EB)).all λc=>c.st != some i)=true∧(F.map (Fx.den E)).getD i B_=B_:=by
  intro k b hk h;unfold uI at h;simp only [Bool.and_eq_true,decide_eq_true_eq] at h;obtain ⟨⟨⟨⟨⟨h1,h2⟩,h3⟩,h4⟩,h5⟩,h6⟩:=h;refine ⟨by rw [List.getElem?_map,hk]; rfl,h1,h2,h3,?_,?_,(BJ F i).trans (by rw [h6]; rfl)⟩
  ·rw [List.map_map]; exact h4
  ·rw [List.all_map]; exact h5
 unfold UI at h;split at h
 ·rename_i U e
  split at h
  ·rename_i k _
   split at h
   ·rename_i b hk
    rw [Bool.and_eq_true] at h;obtain ⟨k1,k2,k3,k4,k5,k6,k7⟩:=key hk h.1;obtain ⟨x,_,hx⟩:=List.any_eq_true.1 h.2;simp only [Bool.and_eq_true,beq_iff_eq] at hx;have r1:=x.run;have r2:=x.old;rw [hx.1] at r1;rw [hx.2] at r2;exact X5 hP k _ (hop e) k3 k1 k2 rfl k4 k5 k6 hn k7 r1 r2
   ·cases h
  ·cases h
 ·rename_i U x e
  split at h
  ·rename_i k _
   split at h
   ·rename_i b f hk hf
    rw [Bool.and_eq_true] at h;obtain ⟨k1,k2,k3,k4,k5,k6,k7⟩:=key hk h.1;obtain ⟨y,_,hy⟩:=List.any_eq_true.1 h.2;simp only [Bool.and_eq_true,beq_iff_eq,decide_eq_true_eq] at hy;obtain ⟨⟨y1,y2⟩,y3⟩:=hy;have r1:=y.ok;rw [y1,y2,y3] at r1;exact AfC hP k _ (hop e) k3 k1 k2 rfl k4 k5 k6 hn k7 (BN hst hf) r1
   ·cases h
  ·cases h
 ·cases h
omit hP in
theorem M5(hgn:o.guard=none)(h:Mb T ops S F BX AD i o.op=true):CW ops N Wb W0 a0 (F.map (Fx.den E)) (BX.map (·.den EB)) AD i:=by
 have hop:∀{op:Op},o.op=op→C5 ops i none op:=λe=>hgn ▸ E9 ho e
 unfold Mb at h;split at h
 ·rename_i U t x e
  split at h
  ·rename_i k _
   split at h
   ·rename_i b f hk hf
    rw [Bool.and_eq_true] at h;obtain ⟨hs,h⟩:=h;unfold Af3 at hs;simp only [Bool.and_eq_true,decide_eq_true_eq] at hs;obtain ⟨⟨⟨⟨s1,s2⟩,s3⟩,s4⟩,s5⟩:=hs;have k1:(BX.map (·.den EB))[k]? = some (b.den EB):=by rw [List.getElem?_map,hk]; rfl
    have k2:((BX.map (·.den EB)).map (·.st)).count (some i)=1:=by rw [List.map_map]; exact s3
    have k3:((BX.map (·.den EB)).all λc=>c.al != some i)=true:=by rw [List.all_map]; exact s4
    have hx:=BN (EB:=EB) (BX:=BX) (AD:=AD) hst hf;split at h
    ·rename_i ht
     have ht:b.slot=t:=by simpa using ht
     obtain ⟨y,_,hy⟩:=List.any_eq_true.1 h;simp only [Bool.and_eq_true,beq_iff_eq,decide_eq_true_eq] at hy;obtain ⟨⟨⟨⟨y1,y2⟩,y3⟩,y4⟩,y5⟩:=hy;have r:=y.ok;rw [y1,y2,y3,y4,y5] at r;exact Yr k _ (hop e) s1 k1 ht s2 k2 k3 s5 hx r
    ·split at h
     ·rename_i z _
      simp only [Bool.and_eq_true,beq_iff_eq] at h;obtain ⟨⟨⟨⟨z1,z2⟩,z3⟩,z4⟩,h⟩:=h;obtain ⟨y,_,hy⟩:=List.any_eq_true.1 h;simp only [Bool.and_eq_true,beq_iff_eq,decide_eq_true_eq] at hy;obtain ⟨⟨⟨⟨y1,y2⟩,y3⟩,y4⟩,y5⟩:=hy;have r:=y.ok;rw [y1,y2,y3,y4,y5] at r;obtain ⟨j,t0,off⟩:=z;exact Zw (d:=t) k _ j (hop e) s1 k1 z2.symm s2 k2 k3 s5 z4 z1 z3 hx r
     ·cases h
   ·cases h
  ·cases h
 ·cases h
omit ho in
theorem NU(h:Rg T ops S F BX AD i=true):CW ops N Wb W0 a0 (F.map (Fx.den E)) (BX.map (·.den EB)) AD i:=by
 unfold Rg at h;split at h
 ·cases h
 ·rename_i o ho
  split at h
  ·cases h
  ·rename_i hg
   simp only [Bool.and_eq_true,Bool.or_eq_true,decide_eq_true_eq] at h
   rcases h.2 with h2 | h2
   ·exact Acf hP (E9 ho rfl) h.1.1 h.1.2 (Fv hg) ((BJ F i).trans (by rw [h2]; rfl))
   ·exact vR hP (E9 ho rfl) h.1.1 h.1.2 (Fv hg) ((BJ F i).trans (by rw [h2]; rfl))
  ·rename_i hg
   have hg:=Fv (E:=E) (EB:=EB) (Wb:=Wb) (W0:=W0) (N:=N) (a0:=a0) (BX:=BX) (AD:=AD) hg;rw [Bool.or_eq_true,Bool.or_eq_true] at h
   rcases h with (h | h) | h
   ·simp only [Bool.and_eq_true,Bool.or_eq_true] at h
    obtain ⟨⟨hp,hn⟩,h⟩:=h
    rcases h with (((((h | h) | h) | h) | h) | h) | h
    ·exact NN hP hst ho hg hp hn h
    ·exact NO hP hst ho hg hp hn h
    ·exact Ro hP hst ho hg hp hn h
    ·exact NS hP ho hg hp hn h
    ·exact NL hP hst ho hg hp hn h
    ·exact NM hP hst ho hg hp hn h
    ·exact P_ hP hst ho hg hp hn h
   ·rw [Bool.and_eq_true] at h
    exact Rt hP ho hg h.1 h.2
   ·rw [Bool.and_eq_true,Bool.or_eq_true,Bool.and_eq_true] at h
    obtain ⟨h0,h⟩:=h;have h0:o.guard=none:=by simpa using h0
    rcases h with h | h
    ·exact QR hP hst ho h0 h.1 h.2
    ·exact M5 hst ho h0 h
end
structure Sy where
 S:List (Nat × Fx)
 B:List (Nat × Nat)
structure Bld where
 F:List Fx
 BX:List H9
 AD:List (Nat × Nat × Nat)
section
variable {E : List PF} {EB : List CF} {Wb : World} (T : Z_ E EB Wb) (N : Nat)
section
variable (ops : Array Oper) (S : List (Nat × Fx))
def kV(st:Bld)(i:Nat)(op:Op):Fx:=match R9 op with
 | some (k,xs)=>match SC ops S st.F i xs with
  | some fs=>match T.pures.find? λe=>decide (e.k=k) && decide (e.xs=fs) with
   | some e=>e.r
   | none=>(WH op fs).getD .any
  | none=>.any
 | none=>.any
def xO(st:Bld)(i:Nat)(o:Oper):Fx:=match Jo ops st.F i o with
 | some true=>match o.op with
  | .move x=>(Dv ops S st.F i x).getD .any
  | .assign x=>(Dv ops S st.F i x).getD .any
  | .pick c x y=>match Dv ops S st.F i c with
   | some (.bool true)=>(Dv ops S st.F i x).getD .any
   | some (.bool false)=>(Dv ops S st.F i y).getD .any
   | _=>.any
  | .extract x k=>match Dv ops S st.F i x with
   | some f=>(Uk f k).getD .any
   | none=>.any
  | .load U (.tmp t)=>match Yp ops st.BX st.AD i t with
   | some (off,c)=>match T.loads.find? λe=>e.T == U && e.off == off && e.c == c with
    | some e=>e.r
    | none=>.any
   | none=>kV T ops S st i o.op
  | .call { callee:=.value (.func f),args:=xs,argTypes:=_ }=>match SC ops S st.F i xs.toList with
   | some fs=>match T.calls.find? λe=>e.f == f && decide (e.xs=fs) with
    | some e=>e.r
    | none=>.any
   | none=>.any
  | op=>kV T ops S st i op
 | _=>.any
def Aae(BX:List H9)(t i n:Nat):List H9:=BX.map λb=>if b.slot == t then { b with st:=some i,new:=n } else b
def Ahz(st:Bld)(i:Nat):Bld:=match ops[i]? with
 | none=>st
 | some o=>if Jo ops st.F i o=some false then ⟨st.F ++ [.undef],st.BX,st.AD⟩ else match o.op,o.dst with
  | .alloc U,some d=>match T.allocs.find? λe=>e.T == U with
   | some e=>⟨st.F ++ [.any],st.BX ++ [⟨d,some i,none,e.c,e.c⟩],st.AD⟩
   | none=>st
  | .box U x,some d=>match Dv ops S st.F i x with
   | some f=>match T.boxes.find? λe=>e.T == U && decide (e.x=f) with
    | some e=>⟨st.F ++ [.any],st.BX ++ [⟨d,some i,none,e.c,e.c⟩],st.AD⟩
    | none=>st
   | none=>st
  | .store U (.tmp t) x,_=>match Dv ops S st.F i x with
   | some f=>match st.BX.find? λb=>b.slot == t with
    | some b=>match T.stores.find? λe=>e.T == U && e.off == 0 && e.old == b.old && decide (e.x=f) with
     | some e=>⟨st.F ++ [.any],Aae st.BX t i e.new,st.AD⟩
     | none=>st
    | none=>match st.AD.find? λy=>AE ops y.1 == some t with
     | some y=>match st.BX.find? λb=>b.slot == y.2.1 with
      | some b=>match T.stores.find? λe=>e.T == U && e.off == y.2.2 && e.old == b.old && decide (e.x=f) with
       | some e=>⟨st.F ++ [.any],Aae st.BX y.2.1 i e.new,st.AD⟩
       | none=>st
      | none=>st
     | none=>st
   | none=>st
  | .fieldAddr U (.tmp t) k,_=>match T.flds.find? λe=>e.T == U && e.k == k with
   | some e=>⟨st.F ++ [.any],st.BX,st.AD ++ [(i,t,e.off)]⟩
   | none=>st
  | .indexAddr U (.tmp t) (.const (.int .i64 k)),_=>if st.BX.any λb=>b.slot == t then (match T.idxs.find? λe=>e.T == U && decide (e.k=k) with
   | some e=>⟨st.F ++ [.any],st.BX,st.AD ++ [(i,t,e.off)]⟩
   | none=>st) else ⟨st.F ++ [xO T ops S st i o],st.BX,st.AD⟩
  | _,_=>⟨st.F ++ [xO T ops S st i o],st.BX,st.AD⟩
def build(B:List (Nat × Nat)):Bld:=(List.range ops.size).foldl (Ahz T ops S) ⟨[],B.map λx=>⟨x.1,none,none,x.2,x.2⟩,[]⟩
def zJ(BX:List Bk)(AD:List (Nat × Nat × Nat)):Bool:=TK ops && Gv ops && J6 ops BX && adB ops BX AD && (BX.all λb=>match b.st with | none=>true | some s=>decide (s<ops.size)) && (ops.all λo=>match o.dst with | none=>true | some d=>decide (d<N))
def iA(B:List (Nat × Nat))(BX:List H9):Bool:=decide ((BX.take B.length).map (λb=>(b.slot,b.old))=B) && (BX.take B.length).all (λb=>b.al.isNone) && (BX.drop B.length).all λb=>b.al.isSome
def AbH(F:List Fx):List (Nat × Fx):=((List.range ops.size).filterMap λi=>match AE ops i,F.getD i .any with
 | none,_=>none
 | some _,.any=>none
 | some _,.undef=>none
 | some d,f=>some (d,f)) ++ S.filter λx=>ops.all λo=>o.dst != some x.1
end
def AcP(BX:List H9):List (Nat × Nat):=BX.map λb=>(b.slot,match b.st with | none=>b.old | some _=>b.new)
def X6(ops:Array Oper)(s:Sy):Option Sy:=match build T ops s.S s.B with
 | ⟨F,BX,AD⟩=>if zJ N ops (BX.map (·.den EB)) AD && iA s.B BX && (List.range ops.size).all (Rg T ops s.S F BX AD) then some ⟨AbH ops s.S F,AcP BX⟩ else none
inductive Out where
 | fall (s:Sy)
 | ret (s:Sy)
 | exit (n:Nat) (s:Sy)
 | bad
def Km:Code→Sy→Out
 | .skip,s=>.fall s
 | .region _ ops _,s=>match X6 T N ops s with
  | some s'=>.fall s'
  | none=>.bad
 | .seq a b,s=>match Km a s with
  | .fall s'=>Km b s'
  | .ret s'=>.ret s'
  | .exit n s'=>.exit n s'
  | .bad=>.bad
 | .cond (.tmp t) a b,s=>match Kz s.S t with
  | some (.bool true)=>Km a s
  | some (.bool false)=>Km b s
  | _=>.bad
 | .block n c,s=>match Km c s with
  | .fall s'=>.fall s'
  | .ret s'=>.ret s'
  | .exit m s'=>if m=n then .fall s' else .exit m s'
  | .bad=>.bad
 | .exit n,s=>.exit n s
 | .ret,s=>.ret s
 | _,_=>.bad
def zX(E:List PF)(EB:List CF)(Wb:World)(N:Nat)(Q:Exit→Act→World→Prop):Out→Prop
 | .fall s=>∀ a w,St Wb N (Dy E s.S) (DZ EB s.B) a w→Q .normal a w
 | .ret s=>∀ a w,St Wb N (Dy E s.S) (DZ EB s.B) a w→Q .ret a w
 | .exit n s=>∀ a w,St Wb N (Dy E s.S) (DZ EB s.B) a w→Q (.exit n) a w
 | .bad=>False
end
theorem Me{a:Act}{w:World}:∀{L:List (Nat × PF)},(∀ x∈L,∃ v,a.tmps[x.1]? = some v∧x.2.p v w)→En L a w
 | [],_=>trivial
 | x :: _,h=>⟨h x (by simp),Me λy hy=>h y (by simp [hy])⟩
section
variable {E : List PF} {EB : List CF} {Wb : World} {T : Z_ E EB Wb} {N : Nat}
theorem KK{ops:Array Oper}{s s':Sy}(h:X6 T N ops s=some s'){id:Nat}{dr:Bool}{Q:Exit→Act→World→Prop}{a0:Act}{W0:World}(hst:St Wb N (Dy E s.S) (DZ EB s.B) a0 W0)
  (fin:∀ a w,St Wb N (Dy E s'.S) (DZ EB s'.B) a w→Q .normal a w):(Code.region id ops dr).wp Tryz.prog Q a0 W0:=by
 unfold X6 at h;generalize build T ops s.S s.B=bl at h;obtain ⟨F,BX,AD⟩:=bl;simp only [] at h;split at h
 ·rename_i hc
  simp only [Option.some.injEq] at h;subst h;simp only [Bool.and_eq_true] at hc;obtain ⟨⟨hp,hs⟩,hall⟩:=hc;have hP:EA ops N (BX.map (·.den EB)) AD:=by
   unfold zJ at hp;simp only [Bool.and_eq_true] at hp;obtain ⟨⟨⟨⟨⟨h1,h2⟩,h3⟩,h4⟩,h5⟩,h6⟩:=hp;exact ⟨h1,h2,h3,h4,h5,h6⟩
  unfold iA at hs;simp only [Bool.and_eq_true,decide_eq_true_eq] at hs;obtain ⟨⟨hs1,hs2⟩,hs3⟩:=hs;have hlen:(DZ EB s.B).length=s.B.length:=by simp [DZ]
  refine NZ (F:=F.map (Fx.den E)) (BX:=BX.map (·.den EB)) (AD:=AD) (S':=Dy E (AbH ops s.S F)) hP hst ?_ ?_ ?_ ?_ ?_
  ·rw [hlen,← List.map_take]
   conv=>lhs; rw [← List.take_append_drop s.B.length BX,List.map_append,List.filter_append]
   have e1:((BX.take s.B.length).map (·.den EB)).filter (λb=>b.al.isNone)=(BX.take s.B.length).map (·.den EB):=List.filter_eq_self.2 λb hb=>by
    obtain ⟨c,hc,rfl⟩:=List.mem_map.1 hb;exact List.all_eq_true.1 hs2 c hc
   have e2:((BX.drop s.B.length).map (·.den EB)).filter (λb=>b.al.isNone)=[]:=List.filter_eq_nil_iff.2 λb hb=>by
    obtain ⟨c,hc,rfl⟩:=List.mem_map.1 hb;have:=List.all_eq_true.1 hs3 c hc;show ¬ c.al.isNone=true
    cases e:c.al with
    | none=>rw [e] at this; cases this
    | some _=>simp
   rw [e1,e2,List.append_nil]
  ·rw [hlen,← List.map_take,List.map_map]
   have:DZ EB s.B=DZ EB ((BX.take s.B.length).map λb=>(b.slot,b.old)):=by rw [hs1]
   rw [this];simp [DZ,H9.den,Function.comp_def]
  ·intro i hi
   exact NU hP hst (List.all_eq_true.1 hall i (List.mem_range.2 hi))
  ·intro m a w hI hm
   refine Me λx hx=>?_
   unfold Dy AbH at hx;rw [List.map_append,List.mem_append] at hx
   rcases hx with hx | hx
   ·obtain ⟨y,hy,rfl⟩:=List.mem_map.1 hx
    obtain ⟨i,_,hi⟩:=List.mem_filterMap.1 hy;have key:∀ d f,AE ops i=some d→F.getD i .any=f→y=(d,f)→∃ v,a.tmps[y.1]? = some v∧(y.2.den E).p v w:=by
     rintro d f hd hf rfl
     exact Aa8 hI hm i d _ hd ((BJ F i).trans (by rw [hf]))
    split at hi
    ·cases hi
    ·cases hi
    ·cases hi
    ·rename_i d f hd hf
     exact key _ _ ‹_› rfl (by simpa using hi.symm)
   ·obtain ⟨y,hy,rfl⟩:=List.mem_map.1 hx
    obtain ⟨hy1,hy2⟩:=List.mem_filter.1 hy;obtain ⟨k,hk⟩:=List.getElem?_of_mem hy1;exact EO hst k (show (Dy E s.S)[k]? = some (y.1,y.2.den E) by unfold Dy; rw [List.getElem?_map,hk]; rfl) hy2 hI
  ·intro a w h
   refine fin a w ?_;have e:(BX.map (·.den EB)).map (λb=>(b.slot,b.fin))=DZ EB (AcP BX):=by
    unfold DZ AcP;rw [List.map_map,List.map_map];refine List.map_congr_left λb _=>?_
    simp only [Function.comp_def];unfold Bk.fin H9.den
    cases b.st <;> rfl
   rw [e] at h;exact h
 ·cases h
theorem VB:∀(c:Code){s:Sy}{Q:Exit→Act→World→Prop}{a:Act}{w:World},St Wb N (Dy E s.S) (DZ EB s.B) a w→zX E EB Wb N Q (Km T N c s)→c.wp Tryz.prog Q a w:=by
 intro c
 induction c with
 | skip=>intro s Q a w hst h; exact wp_skip (h a w hst)
 | region id ops dr =>
  intro s Q a w hst h;unfold Km at h;split at h
  ·rename_i s' hs
   exact KK hs hst h
  ·exact h.elim
 | seq x y ihx ihy =>
  intro s Q a w hst h;refine wp_seq (ihx hst ?_);unfold Km at h;generalize Km T N x s=o at h
  cases o with
  | fall s'=>exact λa w hst=>ihy hst h
  | ret s'=>exact h
  | exit n s'=>exact h
  | bad=>exact h
 | cond c x y ihx ihy =>
  intro s Q a w hst h
  cases c with
  | tmp t =>
   have key:∀ b,Kz s.S t=some (.bool b)→a.eval (.tmp t) = .bool b:=λb hl=>by
    obtain ⟨k,hk⟩:=FH (E:=E) hl;exact A7 hst k hk
   simp only [Km] at h;split at h
   ·rename_i hl
    exact wp_cond_true (key _ hl) (ihx hst h)
   ·rename_i hl
    exact wp_cond_false (key _ hl) (ihy hst h)
   ·exact h.elim
  | _=>exact h.elim
 | block n x ih =>
  intro s Q a w hst h;refine wp_block (ih hst ?_);unfold Km at h;generalize Km T N x s=o at h
  cases o with
  | fall s'=>exact h
  | ret s'=>exact h
  | exit m s' =>
   simp only [] at h;intro a w hst;show if m=n then Q .normal a w else Q (.exit m) a w
   split at h
   ·rename_i e; rw [if_pos e]; exact h a w hst
   ·rename_i e; rw [if_neg e]; exact h a w hst
  | bad=>exact h
 | exit n=>intro s Q a w hst h; exact wp_exit (h a w hst)
 | ret=>intro s Q a w hst h; exact wp_ret (h a w hst)
 | _=>intro s Q a w hst h; exact h.elim
def Xu:List (Nat × Nat)→Nat→Option Nat
 | [],_=>none
 | x :: r,t=>if x.1 == t then some x.2 else Xu r t
theorem Ou:∀{B:List (Nat × Nat)}{t c:Nat},Xu B t=some c→∃ k:Nat,(DZ EB B)[k]? = some (t,Nq EB c)
 | [],_,_,h=>by cases h
 | x :: r,t,c,h=>by
  unfold Xu at h;split at h
  ·rename_i e
   have e:x.1=t:=by simpa using e
   cases h
   exact ⟨0,by simp [DZ,e]⟩
  ·obtain ⟨k,hk⟩:=Ou h
   exact ⟨k+1,by simpa [DZ] using hk⟩
def KL(T:Z_ E EB Wb)(s:Sy):ResultVar→Option Fx
 | .tmp t=>Kz s.S t
 | .cell t U=>match Xu s.B t with
  | some c=>match T.loads.find? λe=>e.T == U && e.off == 0 && e.c == c with
   | some e=>if e.T == U && e.off == 0 && e.c == c then some e.r else none
   | none=>none
  | none=>none
def IN(tmps:Array Value):ResultVar→Sem Value
 | .tmp t=>pure (tmps.getD t undef)
 | .cell a t=>do loadVar t (← asAddr (tmps.getD a undef))
theorem Uu{U:TypeId}{q:Nat}{w:World}{v:Value}(h:(Instr.loadAt U (.pointer (some ⟨q,0,none⟩))).run Tryz.prog w = .ok v w):(loadVar U ⟨q,0,none⟩).run Tryz.prog w = .ok v w:=h
theorem Dk{s:Sy}{rv:ResultVar}{f:Fx}(h:KL T s rv=some f){a:Act}{w:World}(hst:St Wb N (Dy E s.S) (DZ EB s.B) a w):∃ v,(IN a.tmps rv).run Tryz.prog w = .ok v w∧(f.den E).p v w:=by
 cases rv with
 | tmp t =>
  obtain ⟨k,hk⟩:=FH (E:=E) h;obtain ⟨v,h1,h2⟩:=hst.slots.get hk;refine ⟨v,?_,h2⟩;have hv:a.tmps.getD t undef=v:=by
   have:=BT h1;simpa [Act.eval] using this
  show (pure (a.tmps.getD t undef):Sem Value).run _ _=_;rw [hv];rfl
 | cell t U =>
  simp only [KL] at h;split at h
  ·rename_i c hc
   split at h
   ·rename_i e _
    split at h
    ·rename_i he
     simp only [Bool.and_eq_true,beq_iff_eq] at he;obtain ⟨⟨e1,e2⟩,e3⟩:=he
     cases h
     obtain ⟨k,hk⟩:=Ou (EB:=EB) hc;obtain ⟨q,h1,_,h2⟩:=hst.boxes.get hk;have:=e.ok;rw [e1,e2,e3] at this;obtain ⟨v,h3,h4⟩:=this w q h2;refine ⟨v,?_,h4⟩;have hv:a.tmps.getD t undef = .pointer (some ⟨q,0,none⟩):=by
      have:=BT h1;simpa [Act.eval] using this
     show (asAddr (a.tmps.getD t undef) >>= λp=>loadVar U p).run _ _=_;rw [hv];exact Uu h3
    ·cases h
   ·cases h
  ·cases h
def XU(T:Z_ E EB Wb)(s:Sy):List ResultVar→Option Fx
 | [x]=>KL T s x
 | [x,y]=>match KL T s x,KL T s y with
  | some f,some g=>some (.tup2 f g)
  | _,_=>none
 | [x,y,z]=>match KL T s x,KL T s y,KL T s z with
  | some f,some g,some h=>some (.tup3 f g h)
  | _,_,_=>none
 | _=>none
theorem KG{s:Sy}{fn:Func}{r:Fx}(h:XU T s fn.results.toList=some r){a:Act}{w:World}(hst:St Wb N (Dy E s.S) (DZ EB s.B) a w):a.defers=[]∧∃ v,(results fn a.tmps).run Tryz.prog w = .ok v w∧Aj (r.den E) Wb (.returned v) w:=by
 refine ⟨hst.defers,?_⟩;have hres:(results fn a.tmps)=(do
   let vs ← fn.results.mapM (IN a.tmps)
   pure (if h:vs.size=1 then vs[0] else .tuple vs)):=by
  unfold results
  congr 1
 generalize hl:fn.results.toList=l at h;have hl':fn.results=l.toArray:=by rw [← hl,Array.toArray_toList]
 unfold XU at h;split at h
 ·rename_i x
  obtain ⟨v,h1,h2⟩:=Dk h hst;exact ⟨v,by rw [hres,hl']; simp [Sem.run_bind,h1],v,rfl,h2,hst.below⟩
 ·rename_i x y
  split at h
  ·rename_i f g hf hg
   cases h
   obtain ⟨v,h1,h2⟩:=Dk hf hst;obtain ⟨u,h3,h4⟩:=Dk hg hst;exact ⟨.tuple #[v,u],by rw [hres,hl']; simp [Sem.run_bind,h1,h3],_,rfl,⟨v,u,rfl,h2,h4⟩,hst.below⟩
  ·cases h
 ·rename_i x y z
  split at h
  ·rename_i f g k hf hg hk
   cases h
   obtain ⟨v,h1,h2⟩:=Dk hf hst;obtain ⟨u,h3,h4⟩:=Dk hg hst;obtain ⟨t,h5,h6⟩:=Dk hk hst;exact ⟨.tuple #[v,u,t],by rw [hres,hl']; simp [Sem.run_bind,h1,h3,h5],_,rfl,⟨v,u,t,rfl,h2,h4,h6⟩,hst.below⟩
  ·cases h
 ·cases h
def Ze:Nat→List Fx→List (Nat × Fx)
 | _,[]=>[]
 | k,f :: r=>(k,f) :: Ze (k+1) r
def Vw(T:Z_ E EB Wb)(fn:Func)(r:Fx):Out→Bool
 | .ret s=>decide (XU T s fn.results.toList=some r)
 | .fall s=>decide (XU T s fn.results.toList=some r)
 | _=>false
theorem Rm{fn:Func}{r:Fx}{o:Out}(h:Vw T fn r o=true):zX E EB Wb N (bodyPost Tryz.prog fn (Aj (r.den E) Wb)) o:=by
 unfold Vw at h;split at h
 ·exact λa w hst=>KG (of_decide_eq_true h) hst
 ·exact λa w hst=>KG (of_decide_eq_true h) hst
 ·cases h
def yW(T:Z_ E EB Wb)(fn:Func)(fs:List Fx)(r:Fx):Bool:=fn.body.isSome && decide (fs.length≤fn.ntmps) && Vw T fn r (Km T fn.ntmps (DG fn) ⟨Ze 0 fs,[]⟩)
theorem Av(T:Z_ E EB Wb){f:FuncId}{fn:Func}{fs:List Fx}{vs:List Value}{r:Fx}(hf:Tryz.prog.funcs[f]? = some fn)(hv:Y_ E Wb fs vs)(h:yW T fn fs r=true):Calls Tryz.prog f vs.toArray Wb (Aj (r.den E) Wb):=by
 unfold yW at h;simp only [Bool.and_eq_true,decide_eq_true_eq] at h;obtain ⟨⟨h1,h2⟩,h3⟩:=h;have hlen:∀{fs:List Fx}{vs:List Value},Y_ E Wb fs vs→vs.length=fs.length:=by
  intro fs
  induction fs with
  | nil=>intro vs h; cases vs with | nil=>rfl | cons=>exact h.elim
  | cons f r ih=>intro vs h; cases vs with | nil=>exact h.elim | cons v s=>exact congrArg (· + 1) (ih h.2)
 refine Dh (S:=Dy E (Ze 0 fs)) hf h1 rfl (by simpa [hlen hv] using h2) ?_ λa w hst=>VB (T:=T) (s:=⟨Ze 0 fs,[]⟩) _ hst (Rm h3)
 have key:∀(fs:List Fx)(vs pre:List Value),Y_ E Wb fs vs→∀ x∈Dy E (Ze pre.length fs),∃ v,(pre ++ vs)[x.1]? = some v∧x.2.p v Wb:=by
  intro fs
  induction fs with
  | nil=>intro vs pre _ x hx; cases hx
  | cons f r ih =>
   intro vs pre h x hx
   cases vs with
   | nil=>exact h.elim
   | cons v s =>
    unfold Ze Dy at hx;rw [List.map_cons,List.mem_cons] at hx
    rcases hx with rfl | hx
    ·exact ⟨v,by simp,h.1⟩
    ·have:=ih s (pre ++ [v]) h.2 x (by rw [List.length_append]; exact hx)
     simpa using this
 intro x hx;have:=key fs vs [] hv x hx;simpa using this
def AcG(s s2:Sy):Bool:=(s2.S.all λx=>decide (Kz s.S x.1=some x.2)) && decide (s.B.take s2.B.length=s2.B)
theorem VQ{s s2:Sy}(h:AcG s s2=true){a:Act}{w:World}(hst:St Wb N (Dy E s.S) (DZ EB s.B) a w):St Wb N (Dy E s2.S) (DZ EB s2.B) a w:=by
 unfold AcG at h;rw [Bool.and_eq_true] at h;have h1:En (Dy E s2.S) a w:=Me λx hx=>by
  obtain ⟨y,hy,rfl⟩:=List.mem_map.1 hx;obtain ⟨k,hk⟩:=FH (E:=E) (of_decide_eq_true (List.all_eq_true.1 h.1 y hy));exact hst.slots.get hk
 have h2:=(hst.to h1).firstB s2.B.length;have e:(DZ EB s.B).take s2.B.length=DZ EB s2.B:=by
  unfold DZ;rw [← List.map_take,of_decide_eq_true h.2]
 rw [e] at h2;exact h2
end
section
variable {E : List PF} {EB : List CF} {Wb : World} {N : Nat}
def Abg(T:Z_ E EB Wb)(N:Nat)(ops:Array Oper)(s s2:Sy):Bool:=match X6 T N ops s with
 | some s'=>AcG s' s2
 | none=>false
theorem Se{s:Sy}(T:Z_ E EB Wb)(s2:Sy){ops:Array Oper}{id:Nat}{dr:Bool}{Q:Exit→Act→World→Prop}{a0:Act}{W0:World}(hst:St Wb N (Dy E s.S) (DZ EB s.B) a0 W0)(h:Abg T N ops s s2=true)
  (fin:∀ a w,St Wb N (Dy E s2.S) (DZ EB s2.B) a w→Q .normal a w):(Code.region id ops dr).wp Tryz.prog Q a0 W0:=by
 unfold Abg at h;split at h
 ·rename_i s' hs
  exact KK hs hst λa w hst=>fin a w (VQ h hst)
 ·cases h
structure RA (N:Nat) (E:List PF) (EB:List CF) (s s2:Sy) (Wb:World) (id:Nat) (ops:Array Oper) (dr:Bool):Prop where
 run:∀{Q:Exit→Act→World→Prop}{a0:Act}{W0:World},St Wb N (Dy E s.S) (DZ EB s.B) a0 W0→(∀ a w,St Wb N (Dy E s2.S) (DZ EB s2.B) a w→Q .normal a w)→(Code.region id ops dr).wp Tryz.prog Q a0 W0
theorem RA.of{s s2:Sy}{ops:Array Oper}{id:Nat}{dr:Bool}(T:Z_ E EB Wb)(h:Abg T N ops s s2=true):RA N E EB s s2 Wb id ops dr:=⟨λhst fin=>Se T s2 hst h fin⟩
theorem Eo{T:TypeId}{x:Operand}{p:Addr}{v:Value}{ρ:Operand→Value}{w:World}(hc:Wb.cell? p=some v)(hb:Below Wb.heap.size Wb w)(hrun:∀ w:World,w.cell? p=some v→(Instr.loadAt T (.pointer (some p))).run Tryz.prog w = .ok v w)(hx:(Am (.pointer (some p))).p (ρ x) w):FI (.load T x) ρ w (Am v):=by
 have e:ρ x = .pointer (some p):=hx;refine BR λo ho=>?_
 unfold execOp;rw [ho];show Sem.run _ (Instr.loadAt T (ρ x) >>= λx=>pure (Next.value x)) w=_;rw [e];exact Cz (hrun w ((hb.cell (World.block_lt_of_cell? _ _ hc)).trans hc))
end
section
variable {E : List PF} {EB : List CF} {Wb : World}
def c0(f:Nat)(r:Fx)(h:∀ w,Below Wb.heap.size Wb w→Calls Tryz.prog f #[] w (Aj (r.den E) w))(pl:Bf f:=by intro _ _; simp [go_sem]):OR E Wb:=⟨f,[],r,pl,λw vs hb hv=>by
 match vs,hv with
 | [],_=>exact h w hb⟩
def c1(f:Nat)(x r:Fx)(h:∀ w v0,Below Wb.heap.size Wb w→(x.den E).p v0 w→Calls Tryz.prog f #[v0] w (Aj (r.den E) w))(pl:Bf f:=by intro _ _; simp [go_sem]):OR E Wb:=⟨f,[x],r,pl,λw vs hb hv=>by
 match vs,hv with
 | [v0],h0=>exact h w v0 hb h0.1⟩
def c2(f:Nat)(x y r:Fx)(h:∀ w v0 v1,Below Wb.heap.size Wb w→(x.den E).p v0 w→(y.den E).p v1 w→Calls Tryz.prog f #[v0,v1] w (Aj (r.den E) w))(pl:Bf f:=by intro _ _; simp [go_sem]):OR E Wb:=⟨f,[x,y],r,pl,λw vs hb hv=>by
 match vs,hv with
 | [v0,v1],h0=>exact h w v0 v1 hb h0.1 h0.2.1⟩
def c3(f:Nat)(x y z r:Fx)(h:∀ w v0 v1 v2,Below Wb.heap.size Wb w→(x.den E).p v0 w→(y.den E).p v1 w→(z.den E).p v2 w→Calls Tryz.prog f #[v0,v1,v2] w (Aj (r.den E) w))(pl:Bf f:=by intro _ _; simp [go_sem]):OR E Wb:=⟨f,[x,y,z],r,pl,λw vs hb hv=>by
 match vs,hv with
 | [v0,v1,v2],h0=>exact h w v0 v1 v2 hb h0.1 h0.2.1 h0.2.2.1⟩
def c4(f:Nat)(x y z u r:Fx)(h:∀ w v0 v1 v2 v3,Below Wb.heap.size Wb w→(x.den E).p v0 w→(y.den E).p v1 w→(z.den E).p v2 w→(u.den E).p v3 w→Calls Tryz.prog f #[v0,v1,v2,v3] w (Aj (r.den E) w))(pl:Bf f:=by intro _ _; simp [go_sem]):OR E Wb:=⟨f,[x,y,z,u],r,pl,λw vs hb hv=>by
 match vs,hv with
 | [v0,v1,v2,v3],h0=>exact h w v0 v1 v2 v3 hb h0.1 h0.2.1 h0.2.2.1 h0.2.2.2.1⟩
def p0(k:PK)(r:Fx)(h:∀ ρ w,Below Wb.heap.size Wb w→FI (NV k []) ρ w (r.den E)):Sa E Wb:=⟨k,[],r,λρ w ys hb hv=>by
 match ys,hv with
 | [],_=>exact h ρ w hb⟩
def p1(k:PK)(x r:Fx)(h:∀(ρ:Operand→Value) w a,Below Wb.heap.size Wb w→(x.den E).p (ρ a) w→FI (NV k [a]) ρ w (r.den E)):Sa E Wb:=⟨k,[x],r,λρ w ys hb hv=>by
 match ys,hv with
 | [a],h0=>exact h ρ w a hb h0.1⟩
def p2(k:PK)(x y r:Fx)(h:∀(ρ:Operand→Value) w a b,Below Wb.heap.size Wb w→(x.den E).p (ρ a) w→(y.den E).p (ρ b) w→FI (NV k [a,b]) ρ w (r.den E)):Sa E Wb:=⟨k,[x,y],r,λρ w ys hb hv=>by
 match ys,hv with
 | [a,b],h0=>exact h ρ w a b hb h0.1 h0.2.1⟩
def p3(k:PK)(x y z r:Fx)(h:∀(ρ:Operand→Value) w a b c,Below Wb.heap.size Wb w→(x.den E).p (ρ a) w→(y.den E).p (ρ b) w→(z.den E).p (ρ c) w→FI (NV k [a,b,c]) ρ w (r.den E)):Sa E Wb:=⟨k,[x,y,z],r,λρ w ys hb hv=>by
 match ys,hv with
 | [a,b,c],h0=>exact h ρ w a b c hb h0.1 h0.2.1 h0.2.2.1⟩
end
end Go.Proofs.YtegaedfdddapnaaGreat
