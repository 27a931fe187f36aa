/- The contracts of the arithmetic of integers, in the form that a region's plan asks for. -/
import Derived.Test.YtgaehhapjnbieaaGreatqRace
import Derived.Test.YtgaehhapjnbieaaGreatqR3
import Derived.Test.YtgaehhapjnbieaaGreatqSan0
import Derived.Test.YtgaehhapjnbieaaGreatqPow
set_option linter.unusedSectionVars false
set_option linter.unusedVariables false
set_option linter.unusedSimpArgs false
namespace Go.Proofs.YtgaehhapjnbieaaGreat
open Go.RowKit
section
variable {w : World} {va vb : Value} {x y : Int} {i j : Nat}
theorem kOf (z:Int) (h0 : -9223372036854775808≤z) (h1:z≤9223372036854775807) (hv:(eqF (.int .i64 z)).p va w):Calls Tryz.prog 106 #[va] w (GivesP (intF z) w):=by
 have hv:va = .int .i64 z:=hv
 subst hv
 exact cOf z h0 h1
theorem kROf (z:Int) (h0 : -9223372036854775808≤z) (h1:z≤9223372036854775807) (hv:(eqF (.int .i64 z)).p va w):Calls Tryz.prog 86 #[va] w (GivesP (intF z) w):=by
 have hv:va = .int .i64 z:=hv
 subst hv
 exact ROf_any z w h0 h1
theorem kAdd (ha:(intF x).p va w) (hb:(intF y).p vb w) (sx:Sm x i) (sy:Sm y j) (hi:i≤1000000000) (hj:j≤1000000000):Calls Tryz.prog 135 #[va,vb] w (GivesP (intF (x+y)) w):=cAdd ha hb sx sy hi hj
theorem kMul (ha:(intF x).p va w) (hb:(intF y).p vb w) (sx:Sm x i) (sy:Sm y j) (hi:i≤1000000000) (hj:j≤1000000000):Calls Tryz.prog 104 #[va,vb] w (GivesP (intF (x*y)) w):=cMul ha hb sx sy hi hj
theorem kNeg (ha:(intF x).p va w) (sx:Sm x i) (hi:i≤1000000000):Calls Tryz.prog 123 #[va] w (GivesP (intF (-x)) w):=cNeg ha sx hi
theorem kSign (ha:(intF x).p va w) (sx:Sm x i) (hi:i≤1000000000):Calls Tryz.prog 112 #[va] w (GivesP (eqF (.int .i64 x.sign)) w):=cSign ha sx hi
theorem kCmp (ha:(intF x).p va w) (hb:(intF y).p vb w) (sx:Sm x i) (sy:Sm y j) (hi:i≤1000000000) (hj:j≤1000000000):Calls Tryz.prog 110 #[va,vb] w (GivesP (eqF (.int .i64 (cmpI x y))) w):=cCmp ha hb sx sy hi hj
theorem kRAdd (ha:(intF x).p va w) (hb:(intF y).p vb w) (sx:Sm x i) (sy:Sm y j) (hi:i≤1000000000) (hj:j≤1000000000):Calls Tryz.prog 87 #[va,vb] w (GivesP (intF (x+y)) w):=RAdd_any va vb x y w ha hb (sx.len hi) (sy.len hj)
theorem kRSub (ha:(intF x).p va w) (hb:(intF y).p vb w) (sx:Sm x i) (sy:Sm y j) (hi:i≤1000000000) (hj:j≤1000000000):Calls Tryz.prog 145 #[va,vb] w (GivesP (intF (x - y)) w):=RSub_any va vb x y w ha hb (sx.len hi) (sy.len hj)
theorem kRMul (ha:(intF x).p va w) (hb:(intF y).p vb w) (sx:Sm x i) (sy:Sm y j) (hi:i≤1000000000) (hj:j≤1000000000):Calls Tryz.prog 88 #[va,vb] w (GivesP (intF (x*y)) w):=RMul_any va vb x y w ha hb (Nat.le_trans (sx.len hi) (by decide)) (Nat.le_trans (sy.len hj) (by decide))
theorem kRNeg (ha:(intF x).p va w) (sx:Sm x i) (hi:i≤1000000000):Calls Tryz.prog 90 #[va] w (GivesP (intF (-x)) w):=RNeg_any va x w ha (Nat.le_trans (sx.len hi) (by decide))
theorem kRSign (ha:(intF x).p va w) (sx:Sm x i) (hi:i≤1000000000):Calls Tryz.prog 98 #[va] w (GivesP (eqF (.int .i64 x.sign)) w):=
 (RSign_any va x w ha (Nat.le_trans (sx.len hi) (by decide))).mono fun _ _ ⟨he,hb⟩=>⟨_,he,rfl,hb⟩
theorem kValid (ha:(intF x).p va w) (sx:Sm x i) (hi:i≤1000000000):Calls Tryz.prog 111 #[va] w (GivesP (eqF (.bool true)) w):=
 (Valid_int va x w ha (Nat.le_trans (sx.len hi) (by decide))).mono fun _ _ ⟨he,hb⟩=>⟨_,he,rfl,hb⟩
end
end Go.Proofs.YtgaehhapjnbieaaGreat
namespace Go.Proofs.YtgaehhapjnbieaaGreat
open Go.RowKit
def Yld (op:Op) (ρ:Operand→Value) (w:World) (f:PF):Prop:=∃ v w',(∀ o:Oper,o.op=op→(execOp ρ o).run Tryz.prog w = .ok (.value v) w')∧Below w.heap.size w w'∧f.p v w'
theorem yld_mk {op:Op} {ρ:Operand→Value} {w:World} {u:Value} (h:∀ o:Oper,o.op=op→(execOp ρ o).run Tryz.prog w = .ok (.value u) w):Yld op ρ w (eqF u):=⟨u,w,h,Below.refl _ _,rfl⟩
section
variable {ρ : Operand → Value} {w : World} {ty ty2 : TypeId} {x y : Operand} {k : IntKind} {a b z : Int} {p q r : Bool}
theorem h_eqlI (e:(a == b)=r) (hx:(eqF (.int k a)).p (ρ x) w) (hy:(eqF (.int k b)).p (ρ y) w):Yld (.binOp .eql ty x y ty2) ρ w (eqF (.bool r)):=by
 have hx:ρ x = .int k a:=hx
 have hy:ρ y = .int k b:=hy
 subst e
 exact yld_mk fun o ho=>by unfold execOp; rw [ho]; simp [go_sem,hx,hy]
theorem h_neqI (e:(a != b)=r) (hx:(eqF (.int k a)).p (ρ x) w) (hy:(eqF (.int k b)).p (ρ y) w):Yld (.binOp .neq ty x y ty2) ρ w (eqF (.bool r)):=by
 have hx:ρ x = .int k a:=hx
 have hy:ρ y = .int k b:=hy
 subst e
 exact yld_mk fun o ho=>by unfold execOp; rw [ho]; simp [go_sem,hx,hy]
theorem h_eqlB (e:(p == q)=r) (hx:(eqF (.bool p)).p (ρ x) w) (hy:(eqF (.bool q)).p (ρ y) w):Yld (.binOp .eql 4 x y 4) ρ w (eqF (.bool r)):=by
 have hx:ρ x = .bool p:=hx
 have hy:ρ y = .bool q:=hy
 subst e
 exact yld_mk fun o ho=>by unfold execOp; rw [ho]; cases p <;> cases q <;> simp [go_sem,hx,hy]
theorem h_neqB (e:(p != q)=r) (hx:(eqF (.bool p)).p (ρ x) w) (hy:(eqF (.bool q)).p (ρ y) w):Yld (.binOp .neq 4 x y 4) ρ w (eqF (.bool r)):=by
 have hx:ρ x = .bool p:=hx
 have hy:ρ y = .bool q:=hy
 subst e
 exact yld_mk fun o ho=>by unfold execOp; rw [ho]; cases p <;> cases q <;> simp [go_sem,hx,hy]
theorem h_gtr (e:decide (b<a)=r) (hx:(eqF (.int k a)).p (ρ x) w) (hy:(eqF (.int k b)).p (ρ y) w):Yld (.binOp .gtr ty x y ty2) ρ w (eqF (.bool r)):=by
 have hx:ρ x = .int k a:=hx
 have hy:ρ y = .int k b:=hy
 subst e
 exact yld_mk fun o ho=>by unfold execOp; rw [ho]; simp [go_sem,hx,hy]
theorem h_lss (e:decide (a<b)=r) (hx:(eqF (.int k a)).p (ρ x) w) (hy:(eqF (.int k b)).p (ρ y) w):Yld (.binOp .lss ty x y ty2) ρ w (eqF (.bool r)):=by
 have hx:ρ x = .int k a:=hx
 have hy:ρ y = .int k b:=hy
 subst e
 exact yld_mk fun o ho=>by unfold execOp; rw [ho]; simp [go_sem,hx,hy]
theorem h_leq (e:decide (a≤b)=r) (hx:(eqF (.int k a)).p (ρ x) w) (hy:(eqF (.int k b)).p (ρ y) w):Yld (.binOp .leq ty x y ty2) ρ w (eqF (.bool r)):=by
 have hx:ρ x = .int k a:=hx
 have hy:ρ y = .int k b:=hy
 subst e
 exact yld_mk fun o ho=>by unfold execOp; rw [ho]; simp [go_sem,hx,hy]
theorem h_geq (e:decide (b≤a)=r) (hx:(eqF (.int k a)).p (ρ x) w) (hy:(eqF (.int k b)).p (ρ y) w):Yld (.binOp .geq ty x y ty2) ρ w (eqF (.bool r)):=by
 have hx:ρ x = .int k a:=hx
 have hy:ρ y = .int k b:=hy
 subst e
 exact yld_mk fun o ho=>by unfold execOp; rw [ho]; simp [go_sem,hx,hy]
theorem h_not (e:(!p)=r) (hx:(eqF (.bool p)).p (ρ x) w):Yld (.unOp .not ty x) ρ w (eqF (.bool r)):=by
 have hx:ρ x = .bool p:=hx
 subst e
 exact yld_mk fun o ho=>by unfold execOp; rw [ho]; simp [go_sem,hx]
theorem h_add (e:k.wrap (a+b)=z) (hx:(eqF (.int k a)).p (ρ x) w) (hy:(eqF (.int k b)).p (ρ y) w):Yld (.binOp .add ty x y ty2) ρ w (eqF (.int k z)):=by
 have hx:ρ x = .int k a:=hx
 have hy:ρ y = .int k b:=hy
 subst e
 exact yld_mk fun o ho=>by unfold execOp; rw [ho]; simp [go_sem,hx,hy]
theorem h_sub (e:k.wrap (a - b)=z) (hx:(eqF (.int k a)).p (ρ x) w) (hy:(eqF (.int k b)).p (ρ y) w):Yld (.binOp .sub ty x y ty2) ρ w (eqF (.int k z)):=by
 have hx:ρ x = .int k a:=hx
 have hy:ρ y = .int k b:=hy
 subst e
 exact yld_mk fun o ho=>by unfold execOp; rw [ho]; simp [go_sem,hx,hy]
theorem h_mul (e:k.wrap (a*b)=z) (hx:(eqF (.int k a)).p (ρ x) w) (hy:(eqF (.int k b)).p (ρ y) w):Yld (.binOp .mul ty x y ty2) ρ w (eqF (.int k z)):=by
 have hx:ρ x = .int k a:=hx
 have hy:ρ y = .int k b:=hy
 subst e
 exact yld_mk fun o ho=>by unfold execOp; rw [ho]; simp [go_sem,hx,hy]
theorem h_ext2_0 {f g:PF} (hx:(tup2F f g).p (ρ x) w):Yld (.extract x 0) ρ w f:=by
 obtain ⟨u,v,e,h1,h2⟩:=hx
 exact ⟨u,w,fun o ho=>by unfold execOp; rw [ho]; simp [go_sem,e],Below.refl _ _,h1⟩
theorem h_ext2_1 {f g:PF} (hx:(tup2F f g).p (ρ x) w):Yld (.extract x 1) ρ w g:=by
 obtain ⟨u,v,e,h1,h2⟩:=hx
 exact ⟨v,w,fun o ho=>by unfold execOp; rw [ho]; simp [go_sem,e],Below.refl _ _,h2⟩
theorem h_ext3_0 {f g h:PF} (hx:(tup3F f g h).p (ρ x) w):Yld (.extract x 0) ρ w f:=by
 obtain ⟨u,v,t,e,h1,h2,h3⟩:=hx
 exact ⟨u,w,fun o ho=>by unfold execOp; rw [ho]; simp [go_sem,e],Below.refl _ _,h1⟩
theorem h_ext3_1 {f g h:PF} (hx:(tup3F f g h).p (ρ x) w):Yld (.extract x 1) ρ w g:=by
 obtain ⟨u,v,t,e,h1,h2,h3⟩:=hx
 exact ⟨v,w,fun o ho=>by unfold execOp; rw [ho]; simp [go_sem,e],Below.refl _ _,h2⟩
theorem h_ext3_2 {f g h:PF} (hx:(tup3F f g h).p (ρ x) w):Yld (.extract x 2) ρ w h:=by
 obtain ⟨u,v,t,e,h1,h2,h3⟩:=hx
 exact ⟨t,w,fun o ho=>by unfold execOp; rw [ho]; simp [go_sem,e],Below.refl _ _,h3⟩
end
end Go.Proofs.YtgaehhapjnbieaaGreat
namespace Go.Proofs.YtgaehhapjnbieaaGreat
open Go.RowKit
theorem calls_stW {f:FuncId} {fn:Func} {N:Nat} {args:Array Value} {W:World} {R:Ending→World→Prop} {S:List (Nat × PF)} (hf:Tryz.prog.funcs[f]? = some fn) (hb:fn.body.isSome=true) (hN:fn.ntmps=N) (hs:args.size≤N)
 (hS:∀ x∈S,∃ v,args[x.1]? = some v∧x.2.p v W)
 (h:∀ a w,St W N S [] a w→(bodyOf fn).wp Tryz.prog (bodyPost Tryz.prog fn R) a w):Calls Tryz.prog f args W R:=calls_st hf hb hN hs hS fun a hst=>h a W hst
theorem St.to {Wb:World} {N:Nat} {S S':List (Nat × PF)} {B:List (Nat × CF)} {a:Act} {w:World} (h:St Wb N S B a w) (hs:SlotsOk S' a w):St Wb N S' B a w:=⟨h.size,h.defers,h.below,h.grow,hs,h.boxes,h.apart⟩
theorem BoxesOk.take {Wb:World} {a:Act} {w:World}:∀ {B:List (Nat × CF)},BoxesOk Wb B a w→∀ n,BoxesOk Wb (B.take n) a w
 | [],_,n=>by simp [BoxesOk]
 | _ :: _,h,0=>by simp [BoxesOk]
 | _ :: r,h,n+1=>⟨h.1,h.2.take n⟩
theorem St.firstB {Wb:World} {N:Nat} {S:List (Nat × PF)} {B:List (Nat × CF)} {a:Act} {w:World} (h:St Wb N S B a w) (n:Nat):St Wb N S (B.take n) a w:=⟨h.size,h.defers,h.below,h.grow,h.slots,h.boxes.take n,h.apart.sublist (List.take_sublist n B)⟩
theorem Sm.pow {z:Int} {c:Nat} (h:Sm z c) (k:Nat):Sm (z ^ k) (c*k+1):=by
 unfold Sm at *
 rw [Int.natAbs_pow,Nat.pow_succ,Nat.pow_mul]
 have h1:z.natAbs ^ k≤(4294967296 ^ c) ^ k:=Nat.pow_le_pow_left (Nat.le_of_lt h) k
 have h2:0<(4294967296 ^ c) ^ k:=Nat.pow_pos (Nat.pow_pos (by decide))
 omega
section
variable {ops : Array Oper} {N : Nat} {Wb W0 : World} {a0 : Act} {F : List PF} {BX : List BoxS} {AD : List (Nat × Nat × Nat)} {i : Nat}
def StoreAtOk (T:TypeId) (off:Nat) (old:CF) (fx:PF) (new:CF):Prop:=∀ (w:World) (q:Nat) (v:Value),old.p q w→fx.p v w→∃ w',(Instr.storeAt T (.pointer (some ⟨q,off,none⟩)) v).run Tryz.prog w = .ok () w'∧(∀ B:Nat,∀ W:World,B≤q→Below B W w→Below B W w')∧Grow w w'∧(∀ j,j≠q→w'.heap[j]? = w.heap[j]?)∧new.p q w'
theorem s_storeAt {T:TypeId} {t d off:Nat} {x:Operand} {fx:PF} (k:Nat) (b:BoxS) (j:Nat) (ho:IsOp ops i none (.store T (.tmp d) x)) (hd:dstOf ops i=none) (hk:BX[k]? = some b) (ht:b.slot=t) (hb:b.st=some i) (hst:(BX.map (·.st)).count (some i)=1) (haln:(BX.all fun c=>c.al != some i)=true)
  (hlv:(match b.al with | none=>true | some j=>(deps ops i).contains j)=true) (hx0:AD.contains (j,t,off)=true) (hjd:dstOf ops j=some d) (hj:(deps ops i).contains j=true) (hx:Src ops N Wb W0 a0 F BX AD i x fx) (h:StoreAtOk T off b.old fx b.new):Step ops N Wb W0 a0 F BX AD i:=
 step_store k b ho hd hk hb hst haln hlv fun m a w q hI hr h1 h2 h3=>by
  obtain ⟨w',g1,g2,g3,g4,g5⟩:=h w q _ h3 (hx m a w hI hr)
  obtain ⟨q',e1,e2⟩:=hI.addrs (j,t,off) (by simpa using hx0) (ready_dep hr (by simpa using hj)) d hjd
  simp only [] at e1 e2
  rw [← ht,h1] at e1
  simp only [Option.some.injEq,Value.pointer.injEq,Addr.mk.injEq,and_true] at e1
  subst e1
  refine ⟨w',fun o ho=>?_,g2 _ _ h2 hI.below,g3,g4,g5⟩
  unfold execOp
  rw [ho]
  show Sem.run _ (Instr.storeAt T (a.eval (.tmp d)) (a.eval x) >>= fun _=>pure Next.skip) w=_
  rw [eval_of e2]
  exact run_u g1
end
section
variable {ρ : Operand → Value} {w : World} {ty ty2 : TypeId} {x y : Operand} {a b z : Int}
theorem h_len {A:Option Addr} {k c:Nat} (hx:(eqF (.slice A k c)).p (ρ x) w):Yld (.call { callee:=.builtin .len,args:=#[x],argTypes:=#[32] }) ρ w (eqF (.int .i64 k)):=by
 have hx:ρ x = .slice A k c:=hx
 exact yld_mk fun o ho=>by unfold execOp; rw [ho]; simp [go_sem,hx]
theorem h_rem {k:IntKind} (hb:b≠0) (e:a.tmod b=z) (hx:(eqF (.int k a)).p (ρ x) w) (hy:(eqF (.int k b)).p (ρ y) w):Yld (.binOp .rem ty x y ty2) ρ w (eqF (.int k z)):=by
 have hx:ρ x = .int k a:=hx
 have hy:ρ y = .int k b:=hy
 subst e
 exact yld_mk fun o ho=>by unfold execOp; rw [ho]; simp [go_sem,hx,hy,hb]
end
end Go.Proofs.YtgaehhapjnbieaaGreat
namespace Go.Proofs.YtgaehhapjnbieaaGreat
open Go.RowKit
inductive Fx where
 | any
 | undef
 | ref (k:Nat)
 | bool (b:Bool)
 | int (k:IntKind) (z:Int)
 | nil
 | str (s:ByteArray)
 | tup2 (a b:Fx)
 | tup3 (a b c:Fx)
 deriving DecidableEq
def Fx.den (E:List PF):Fx→PF
 | .any=>anyF
 | .undef=>eqF Go.undef
 | .ref k=>E.getD k anyF
 | .bool b=>eqF (.bool b)
 | .int k z=>eqF (.int k z)
 | .nil=>eqF (.slice none 0 0)
 | .str s=>eqF (.string s)
 | .tup2 a b=>tup2F (a.den E) (b.den E)
 | .tup3 a b c=>tup3F (a.den E) (b.den E) (c.den E)
def litOf:Value→Option Fx
 | .bool b=>some (.bool b)
 | .int k z=>some (.int k z)
 | .slice none 0 0=>some .nil
 | .string s=>some (.str s)
 | _=>none
theorem litOf_den {E:List PF} {v:Value} {f:Fx} (h:litOf v=some f):f.den E=eqF v:=by
 unfold litOf at h
 split at h <;> first | cases h; rfl | cases h
inductive PK where
 | bin (o:BinOp) (T U:TypeId)
 | un (o:UnOp) (T:TypeId)
 | conv (T U:TypeId)
 | blt (b:Builtin) (Ts:List TypeId)
 | slc (T:TypeId) (l h m:Bool)
 | idx (T:TypeId)
 | bld (T:TypeId) (ks:List Nat)
 | blds (T:TypeId) (n:Nat) (ks:List Nat)
 | ld (T:TypeId)
 | ixv (T:TypeId)
 deriving DecidableEq
def pkOf:Op→Option (PK × List Operand)
 | .binOp o T x y U=>some (.bin o T U,[x,y])
 | .unOp o T x=>some (.un o T,[x])
 | .convert T U x=>some (.conv T U,[x])
 | .call { callee:=.builtin b,args:=xs,argTypes:=Ts }=>some (.blt b Ts.toList,xs.toList)
 | .slice T x none none none=>some (.slc T false false false,[x])
 | .slice T x (some l) none none=>some (.slc T true false false,[x,l])
 | .slice T x none (some h) none=>some (.slc T false true false,[x,h])
 | .slice T x (some l) (some h) none=>some (.slc T true true false,[x,l,h])
 | .slice T x none (some h) (some m)=>some (.slc T false true true,[x,h,m])
 | .slice T x (some l) (some h) (some m)=>some (.slc T true true true,[x,l,h,m])
 | .indexAddr T x y=>some (.idx T,[x,y])
 | .build T ps=>some (.bld T (ps.toList.map (·.1)),ps.toList.map (·.2))
 | .buildSlice T n ps=>some (.blds T n (ps.toList.map (·.1)),ps.toList.map (·.2))
 | .load T x=>some (.ld T,[x])
 | .index T x y=>some (.ixv T,[x,y])
 | _=>none
def opOf:PK→List Operand→Op
 | .bin o T U,[x,y]=>.binOp o T x y U
 | .un o T,[x]=>.unOp o T x
 | .conv T U,[x]=>.convert T U x
 | .blt b Ts,xs=>.call { callee:=.builtin b,args:=xs.toArray,argTypes:=Ts.toArray }
 | .slc T false false false,[x]=>.slice T x none none none
 | .slc T true false false,[x,l]=>.slice T x (some l) none none
 | .slc T false true false,[x,h]=>.slice T x none (some h) none
 | .slc T true true false,[x,l,h]=>.slice T x (some l) (some h) none
 | .slc T false true true,[x,h,m]=>.slice T x none (some h) (some m)
 | .slc T true true true,[x,l,h,m]=>.slice T x (some l) (some h) (some m)
 | .idx T,[x,y]=>.indexAddr T x y
 | .bld T ks,xs=>.build T (ks.zip xs).toArray
 | .blds T n ks,xs=>.buildSlice T n (ks.zip xs).toArray
 | .ld T,[x]=>.load T x
 | .ixv T,[x,y]=>.index T x y
 | _,_=>.alloc 0
theorem zip_parts:∀ (l:List (Nat × Operand)),(l.map (·.1)).zip (l.map (·.2))=l
 | []=>rfl
 | _ :: r=>by simp [zip_parts r]
theorem opOf_pkOf {op:Op} {k:PK} {xs:List Operand} (h:pkOf op=some (k,xs)):opOf k xs=op:=by
 unfold pkOf at h
 split at h <;> first
  | (simp only [Option.some.injEq,Prod.mk.injEq] at h; obtain ⟨rfl,rfl⟩:=h; simp only [opOf,zip_parts,Array.toArray_toList]; done)
  | (simp only [Option.some.injEq,Prod.mk.injEq] at h; obtain ⟨rfl,rfl⟩:=h; rfl)
  | cases h
def litFx (op:Op) (fs:List Fx):Option Fx:=match op,fs with
 | .binOp .eql _ _ _ _,[.int k a,.int l b]=>if k=l then some (.bool (a == b)) else none
 | .binOp .neq _ _ _ _,[.int k a,.int l b]=>if k=l then some (.bool (a != b)) else none
 | .binOp .lss _ _ _ _,[.int k a,.int l b]=>if k=l then some (.bool (decide (a<b))) else none
 | .binOp .leq _ _ _ _,[.int k a,.int l b]=>if k=l then some (.bool (decide (a≤b))) else none
 | .binOp .gtr _ _ _ _,[.int k a,.int l b]=>if k=l then some (.bool (decide (b<a))) else none
 | .binOp .geq _ _ _ _,[.int k a,.int l b]=>if k=l then some (.bool (decide (b≤a))) else none
 | .binOp .eql 4 _ _ 4,[.bool a,.bool b]=>some (.bool (a == b))
 | .binOp .neq 4 _ _ 4,[.bool a,.bool b]=>some (.bool (a != b))
 | .unOp .not 4 _,[.bool a]=>some (.bool !a)
 | _,_=>none
def Args (E:List PF) (ρ:Operand→Value) (w:World):List Fx→List Operand→Prop
 | [],[]=>True
 | f :: r,y :: s=>(f.den E).p (ρ y) w∧Args E ρ w r s
 | _,_=>False
def Vals (E:List PF) (w:World):List Fx→List Value→Prop
 | [],[]=>True
 | f :: r,v :: s=>(f.den E).p v w∧Vals E w r s
 | _,_=>False
theorem litFx_sound {E : List PF} {op : Op} {k : PK} {xs : List Operand} {fs : List Fx} {f : Fx} (e : pkOf op = some (k, xs)) (h : litFx op fs = some f) {ρ : Operand → Value} {w : World} (ha : Args E ρ w fs xs) : Yld op ρ w (f.den E) := by
  unfold litFx at h
  split at h <;> simp only [pkOf, Option.some.injEq, Prod.mk.injEq] at e
  all_goals first | (cases h; done) | skip
  all_goals obtain ⟨_, rfl⟩ := e
  all_goals first
    | (split at h
       · rename_i hk
         subst hk
         cases h
         first | exact h_eqlI rfl ha.1 ha.2.1 | exact h_neqI rfl ha.1 ha.2.1 | exact h_lss rfl ha.1 ha.2.1 | exact h_leq rfl ha.1 ha.2.1 | exact h_gtr rfl ha.1 ha.2.1 | exact h_geq rfl ha.1 ha.2.1
       · cases h)
    | (cases h; first | exact h_eqlB rfl ha.1 ha.2.1 | exact h_neqB rfl ha.1 ha.2.1 | exact h_not rfl ha.1)
structure PureE (E:List PF) (Wb:World) where
 k:PK
 xs:List Fx
 r:Fx
 ok:∀ (ρ:Operand→Value) (w:World) (ys:List Operand),Below Wb.heap.size Wb w→Args E ρ w xs ys→Yld (opOf k ys) ρ w (r.den E)
structure CallE (E:List PF) (Wb:World) where
 f:Nat
 xs:List Fx
 r:Fx
 pl:Plainly f
 ok:∀ (w:World) (vs:List Value),Below Wb.heap.size Wb w→Vals E w xs vs→Calls Tryz.prog f vs.toArray w (GivesP (r.den E) w)
def cfOf (EB:List CF) (c:Nat):CF:=EB.getD c zeroIF
structure LoadE (E:List PF) (EB:List CF) where
 T:TypeId
 off:Nat
 c:Nat
 r:Fx
 ok:∀ (w:World) (q:Nat),(cfOf EB c).p q w→∃ v,(Instr.loadAt T (.pointer (some ⟨q,off,none⟩))).run Tryz.prog w = .ok v w∧(r.den E).p v w
structure AllocE (EB:List CF) where
 T:TypeId
 c:Nat
 ob:Obj
 run:∀ w:World,(Instr.alloc T true (.tuple #[])).run Tryz.prog w = .ok (.pointer (some ⟨w.heap.size,0,none⟩)) (w.alloc ob)
 old:∀ w:World,(cfOf EB c).p w.heap.size (w.alloc ob)
structure BoxE (E:List PF) (EB:List CF) where
 T:TypeId
 x:Fx
 c:Nat
 ok:∀ (w:World) (v:Value),(x.den E).p v w→∃ ob,(Instr.box T v).run Tryz.prog w = .ok (.pointer (some ⟨w.heap.size,0,none⟩)) (w.alloc ob)∧(cfOf EB c).p w.heap.size (w.alloc ob)
structure StoreE (E:List PF) (EB:List CF) where
 T:TypeId
 off:Nat
 old:Nat
 x:Fx
 new:Nat
 ok:StoreAtOk T off (cfOf EB old) (x.den E) (cfOf EB new)
structure FldE where
 T:TypeId
 k:Nat
 off:Nat
 ok:∀ (q:Nat) (w:World),(Instr.fieldAt T (.pointer (some ⟨q,0,none⟩)) k).run Tryz.prog w = .ok (.pointer (some ⟨q,off,none⟩)) w
structure IdxE where
 T:TypeId
 k:Int
 off:Nat
 ok:∀ (q:Nat) (w:World),(Instr.indexAt T (.pointer (some ⟨q,0,none⟩)) (.int .i64 k)).run Tryz.prog w = .ok (.pointer (some ⟨q,off,none⟩)) w
structure Tab (E:List PF) (EB:List CF) (Wb:World) where
 pures:List (PureE E Wb):=[]
 calls:List (CallE E Wb):=[]
 loads:List (LoadE E EB):=[]
 allocs:List (AllocE EB):=[]
 boxes:List (BoxE E EB):=[]
 stores:List (StoreE E EB):=[]
 flds:List FldE:=[]
 idxs:List IdxE:=[]
structure BoxY where
 slot:Nat
 al:Option Nat
 st:Option Nat
 old:Nat
 new:Nat
def BoxY.den (EB:List CF) (b:BoxY):BoxS:=⟨b.slot,b.al,b.st,cfOf EB b.old,cfOf EB b.new⟩
def lookS:List (Nat × Fx)→Nat→Option Fx
 | [],_=>none
 | x :: r,t=>if x.1 == t then some x.2 else lookS r t
def denS (E:List PF) (S:List (Nat × Fx)):List (Nat × PF):=S.map fun x=>(x.1,x.2.den E)
def denB (EB:List CF) (B:List (Nat × Nat)):List (Nat × CF):=B.map fun x=>(x.1,cfOf EB x.2)
section
variable (ops : Array Oper) (S : List (Nat × Fx)) (F : List Fx) (BX : List BoxY) (AD : List (Nat × Nat × Nat))
def lowOf (i t:Nat):Option Fx:=match lookS S t with
 | some f=>if lowB ops i t then some f else none
 | none=>none
def srcOf (i:Nat):Operand→Option Fx
 | .const v=>litOf v
 | .tmp t=>match ops.findIdx? fun o=>o.dst == some t with
  | some j=>if (deps ops i).contains j && dstOf ops j == some t then some (F.getD j .any) else lowOf ops S i t
  | none=>lowOf ops S i t
 | _=>none
def srcs (i:Nat):List Operand→Option (List Fx)
 | []=>some []
 | x :: r=>match srcOf ops S F i x,srcs i r with
  | some f,some fs=>some (f :: fs)
  | _,_=>none
def alB (i:Nat) (b:BoxY):Bool:=match b.al with | none=>true | some j=>(deps ops i).contains j
def boxDir (i t:Nat):Option Nat:=match BX.findIdx? fun b=>b.slot == t with
 | some k=>match BX[k]? with
  | some b=>if b.slot == t then (match b.st with
   | some s=>if (deps ops i).contains s && alB ops s b then some b.new else if alB ops i b && reach ops 4 i s then some b.old else none
   | none=>if alB ops i b then some b.old else none) else none
  | none=>none
 | none=>none
def boxAt (i t:Nat):Option (Nat × Nat):=match boxDir ops BX i t with
 | some c=>some (0,c)
 | none=>match AD.find? fun x=>dstOf ops x.1 == some t with
  | some x=>if dstOf ops x.1 == some t && (deps ops i).contains x.1 && AD.contains x then (boxDir ops BX i x.2.1).map fun c=>(x.2.2,c) else none
  | none=>none
end
section
variable {E : List PF} {EB : List CF} {Wb : World} (T : Tab E EB Wb) (ops : Array Oper) (S : List (Nat × Fx)) (F : List Fx) (BX : List BoxY) (AD : List (Nat × Nat × Nat)) (i : Nat)
def guardOf (o:Oper):Option Bool:=match o.guard with
 | none=>some true
 | some (j,b)=>if (deps ops i).contains j && (dstOf ops j).isSome then (match F.getD j .any with | .bool c=>some (c == b) | .undef=>some false | _=>none) else none
def chkMove (op:Op):Bool:=match op with
 | .move x=>decide (srcOf ops S F i x=some (F.getD i .any))
 | .assign x=>decide (srcOf ops S F i x=some (F.getD i .any))
 | _=>false
def chkPick (op:Op):Bool:=match op with
 | .pick c x y=>match srcOf ops S F i c with
  | some (.bool true)=>decide (srcOf ops S F i x=some (F.getD i .any))
  | some (.bool false)=>decide (srcOf ops S F i y=some (F.getD i .any))
  | _=>false
 | _=>false
def partOf (f:Fx) (k:Nat):Option Fx:=match f,k with
 | .tup2 a _,0=>some a
 | .tup2 _ b,1=>some b
 | .tup3 a _ _,0=>some a
 | .tup3 _ b _,1=>some b
 | .tup3 _ _ c,2=>some c
 | _,_=>none
def chkExt (op:Op):Bool:=match op with
 | .extract x k=>match srcOf ops S F i x with
  | some f=>decide (partOf f k=some (F.getD i .any))
  | none=>false
 | _=>false
def chkLoad (op:Op):Bool:=match op with
 | .load U (.tmp t)=>match boxAt ops BX AD i t with
  | some (off,c)=>T.loads.any fun e=>e.T == U && e.off == off && e.c == c && decide (e.r=F.getD i .any)
  | none=>false
 | _=>false
def chkCall (op:Op):Bool:=match op with
 | .call { callee:=.value (.func f),args:=xs,argTypes:=_ }=>match srcs ops S F i xs.toList with
  | some fs=>T.calls.any fun e=>e.f == f && decide (e.xs=fs) && decide (e.r=F.getD i .any)
  | none=>false
 | _=>false
def chkPure (op:Op):Bool:=match pkOf op with
 | some (k,xs)=>match srcs ops S F i xs with
  | some fs=>T.pures.any fun e=>decide (e.k=k) && decide (e.xs=fs) && decide (e.r=F.getD i .any)
  | none=>false
 | none=>false
def chkLit (op:Op):Bool:=match pkOf op with
 | some (_,xs)=>match srcs ops S F i xs with
  | some fs=>(match litFx op fs with | some f=>decide (f=F.getD i .any) | none=>false)
  | none=>false
 | none=>false
def adrB (t off:Nat):Bool:=match BX.findIdx? fun b=>b.slot == t with
 | some k=>match BX[k]? with
  | some b=>b.slot == t && alB ops i b && (dstOf ops i).isSome && decide ((AD.filter fun x=>x.1 == i)=[(i,t,off)]) && decide (F.getD i .any = .any)
  | none=>false
 | none=>false
def chkFld (op:Op):Bool:=match op with
 | .fieldAddr U (.tmp t) k=>match T.flds.find? fun e=>e.T == U && e.k == k with
  | some e=>e.T == U && e.k == k && adrB ops F BX AD i t e.off
  | none=>false
 | .indexAddr U (.tmp t) (.const (.int .i64 k))=>match T.idxs.find? fun e=>e.T == U && decide (e.k=k) with
  | some e=>e.T == U && decide (e.k=k) && adrB ops F BX AD i t e.off
  | none=>false
 | _=>false
def newB (b:BoxY):Bool:=decide (b.al=some i) && decide (dstOf ops i=some b.slot) && (match b.st with | none=>true | some s=>(deps ops s).contains i) && decide ((BX.map (·.al)).count (some i)=1) && (BX.all fun c=>c.st != some i) && decide (F.getD i .any = .any)
def chkNew (op:Op):Bool:=match op with
 | .alloc U=>match BX.findIdx? fun b=>decide (b.al=some i) with
  | some k=>match BX[k]? with
   | some b=>newB ops F BX i b && T.allocs.any fun e=>e.T == U && e.c == b.old
   | none=>false
  | none=>false
 | .box U x=>match BX.findIdx? fun b=>decide (b.al=some i) with
  | some k=>match BX[k]?,srcOf ops S F i x with
   | some b,some f=>newB ops F BX i b && T.boxes.any fun e=>e.T == U && decide (e.x=f) && e.c == b.old
   | _,_=>false
  | none=>false
 | _=>false
def stoB (b:BoxY):Bool:=decide (dstOf ops i=none) && decide (b.st=some i) && decide ((BX.map (·.st)).count (some i)=1) && (BX.all fun c=>c.al != some i) && alB ops i b
def chkStore (op:Op):Bool:=match op with
 | .store U (.tmp t) x=>match BX.findIdx? fun b=>decide (b.st=some i) with
  | some k=>match BX[k]?,srcOf ops S F i x with
   | some b,some f=>stoB ops BX i b && (
    if b.slot == t then T.stores.any fun e=>e.T == U && e.off == 0 && e.old == b.old && decide (e.x=f) && e.new == b.new
    else match AD.find? fun y=>dstOf ops y.1 == some t with
     | some y=>dstOf ops y.1 == some t && y.2.1 == b.slot && (deps ops i).contains y.1 && AD.contains y && T.stores.any fun e=>e.T == U && e.off == y.2.2 && e.old == b.old && decide (e.x=f) && e.new == b.new
     | none=>false)
   | _,_=>false
  | none=>false
 | _=>false
def chkStep:Bool:=match ops[i]? with
 | none=>false
 | some o=>match guardOf ops F i o with
  | none=>false
  | some false=>plainB (BX.map (·.den EB)) i && noAd AD i && (decide (F.getD i .any = .any) || decide (F.getD i .any = .undef))
  | some true =>
   (plainB (BX.map (·.den EB)) i && noAd AD i && (chkMove ops S F i o.op || chkPick ops S F i o.op || chkExt ops S F i o.op || chkLoad T ops F BX AD i o.op || chkCall T ops S F i o.op || chkPure T ops S F i o.op || chkLit ops S F i o.op))
   || (plainB (BX.map (·.den EB)) i && chkFld T ops F BX AD i o.op)
   || (o.guard.isNone && ((noAd AD i && chkNew T ops S F BX i o.op) || chkStore T ops S F BX AD i o.op))
end
theorem getD_den {E:List PF} (F:List Fx) (i:Nat):(F.map (Fx.den E)).getD i anyF=(F.getD i .any).den E:=by
 rw [List.getD_eq_getElem?_getD,List.getD_eq_getElem?_getD,List.getElem?_map]
 cases F[i]? <;> rfl
theorem lookS_get {E:List PF}:∀ {S:List (Nat × Fx)} {t:Nat} {f:Fx},lookS S t=some f→∃ k:Nat,(denS E S)[k]? = some (t,f.den E)
 | [],_,_,h=>by cases h
 | x :: r,t,f,h=>by
  unfold lookS at h
  split at h
  ·rename_i e
   have e:x.1=t:=by simpa using e
   cases h
   exact ⟨0,by simp [denS,e]⟩
  ·obtain ⟨k,hk⟩:=lookS_get (E:=E) h
   exact ⟨k+1,by simpa [denS] using hk⟩
section
variable {E : List PF} {EB : List CF} {Wb W0 : World} {T : Tab E EB Wb} {ops : Array Oper} {N : Nat} {a0 : Act} {S : List (Nat × Fx)} {B : List (Nat × CF)} {F : List Fx} {BX : List BoxY} {AD : List (Nat × Nat × Nat)} {i : Nat}
local instance:Inhabited PF:=⟨anyF⟩
theorem lowOf_sound (hst:St Wb N (denS E S) B a0 W0) {t:Nat} {f:Fx} (h:lowOf ops S i t=some f):Src ops N Wb W0 a0 (F.map (Fx.den E)) (BX.map (·.den EB)) AD i (.tmp t) (f.den E):=by
 unfold lowOf at h
 split at h
 ·rename_i g hg
  split at h
  ·rename_i hl
   cases h
   obtain ⟨k,hk⟩:=lookS_get (E:=E) hg
   exact src_low hst k hk hl
  ·cases h
 ·cases h
theorem srcOf_sound (hst:St Wb N (denS E S) B a0 W0) {x:Operand} {f:Fx} (h:srcOf ops S F i x=some f):Src ops N Wb W0 a0 (F.map (Fx.den E)) (BX.map (·.den EB)) AD i x (f.den E):=by
 unfold srcOf at h
 split at h
 ·rw [litOf_den h]; exact src_const _
 ·split at h
  ·rename_i j _
   split at h
   ·rename_i hj
    rw [Bool.and_eq_true] at hj
    cases h
    exact src_op j hj.1 (by simpa using hj.2) (getD_den F j)
   ·exact lowOf_sound hst h
  ·exact lowOf_sound hst h
 ·cases h
theorem srcs_sound (hst:St Wb N (denS E S) B a0 W0):∀ {xs:List Operand} {fs:List Fx},srcs ops S F i xs=some fs→∀ {m:Array Bool} {a:Act} {w:World},Inv ops N Wb W0 a0 (F.map (Fx.den E)) (BX.map (·.den EB)) AD m a w→i∈Region.ready .any ops m→Args E a.eval w fs xs∧Vals E w fs (xs.map a.eval)
 | [],fs,h,m,a,w,_,_=>by cases h; exact ⟨trivial,trivial⟩
 | x :: r,fs,h,m,a,w,hI,hr=>by
  unfold srcs at h
  split at h
  ·rename_i f gs h1 h2
   cases h
   have h3:=srcOf_sound (EB:=EB) (BX:=BX) (AD:=AD) hst h1 m a w hI hr
   have h4:=srcs_sound hst h2 hI hr
   exact ⟨⟨h3,h4.1⟩,⟨h3,h4.2⟩⟩
  ·cases h
theorem boxDir_sound {t c:Nat} (h:boxDir ops BX i t=some c):BSrc ops N Wb W0 a0 (F.map (Fx.den E)) (BX.map (·.den EB)) AD i t 0 (cfOf EB c):=by
 unfold boxDir at h
 split at h
 ·rename_i k _
  split at h
  ·rename_i b hk
   have hk':(BX.map (·.den EB))[k]? = some (b.den EB):=by rw [List.getElem?_map,hk]; rfl
   split at h
   ·rename_i hs
    have hs:b.slot=t:=by simpa using hs
    split at h
    ·rename_i s hst
     split at h
     ·rename_i hc
      rw [Bool.and_eq_true] at hc
      cases h
      exact bsrc_new k _ s hk' hs rfl hst hc.2 hc.1
     ·split at h
      ·rename_i hc
       rw [Bool.and_eq_true] at hc
       cases h
       exact bsrc_old k _ hk' hs rfl hc.1 (by show (match b.st with | none=>true | some s=>reach ops 4 i s)=true; rw [hst]; exact hc.2)
      ·cases h
    ·rename_i hst
     split at h
     ·rename_i hc
      cases h
      exact bsrc_old k _ hk' hs rfl hc (by show (match b.st with | none=>true | some s=>reach ops 4 i s)=true; rw [hst])
     ·cases h
   ·cases h
  ·cases h
 ·cases h
theorem boxAt_sound {t off c:Nat} (h:boxAt ops BX AD i t=some (off,c)):BSrc ops N Wb W0 a0 (F.map (Fx.den E)) (BX.map (·.den EB)) AD i t off (cfOf EB c):=by
 unfold boxAt at h
 split at h
 ·rename_i c' hc
  cases h
  exact boxDir_sound hc
 ·split at h
  ·rename_i x _
   split at h
   ·rename_i hx
    rw [Bool.and_eq_true,Bool.and_eq_true] at hx
    rw [Option.map_eq_some_iff] at h
    obtain ⟨c',hc,e⟩:=h
    cases e
    obtain ⟨j,t0,off⟩:=x
    exact bsrc_at j (boxDir_sound hc) hx.2 (by simpa using hx.1.1) hx.1.2
   ·cases h
  ·cases h
theorem guardOf_sound {o:Oper} {b:Bool} (h:guardOf ops F i o=some b):Grd ops N Wb W0 a0 (F.map (Fx.den E)) (BX.map (·.den EB)) AD i o.guard b:=by
 unfold guardOf at h
 split at h
 ·rename_i e
  cases h
  rw [e]
  exact grd_none
 ·rename_i j q e
  rw [e]
  split at h
  ·rename_i hc
   rw [Bool.and_eq_true] at hc
   split at h
   ·rename_i c hf
    cases h
    obtain ⟨d,hd⟩:=Option.isSome_iff_exists.1 hc.2
    exact grd_op (c:=c) hc.1 hd ((getD_den F j).trans (by rw [hf]; rfl)) rfl
   ·rename_i hf
    cases h
    obtain ⟨d,hd⟩:=Option.isSome_iff_exists.1 hc.2
    exact grd_undef hc.1 hd ((getD_den F j).trans (by rw [hf]; rfl))
   ·cases h
  ·cases h
theorem op_at {o:Oper} (ho:ops[i]? = some o) {op:Op} (e:o.op=op):IsOp ops i o.guard op:=by
 unfold IsOp
 rw [ho,← e]
 rfl
variable (hP : Plan ops N (BX.map (·.den EB)) AD) (hst : St Wb N (denS E S) B a0 W0) {o : Oper} (ho : ops[i]? = some o)
include hP hst ho
theorem chkMove_sound (hg:Grd ops N Wb W0 a0 (F.map (Fx.den E)) (BX.map (·.den EB)) AD i o.guard true) (hp:plainB (BX.map (·.den EB)) i=true) (hn:noAd AD i=true) (h:chkMove ops S F i o.op=true):Step ops N Wb W0 a0 (F.map (Fx.den E)) (BX.map (·.den EB)) AD i:=by
 unfold chkMove at h
 split at h
 ·rename_i x e
  exact s_move hP (op_at ho e) hp hn hg (srcOf_sound hst (of_decide_eq_true h)) (getD_den F i)
 ·rename_i x e
  exact s_assign hP (op_at ho e) hp hn hg (srcOf_sound hst (of_decide_eq_true h)) (getD_den F i)
 ·cases h
theorem chkPick_sound (hg:Grd ops N Wb W0 a0 (F.map (Fx.den E)) (BX.map (·.den EB)) AD i o.guard true) (hp:plainB (BX.map (·.den EB)) i=true) (hn:noAd AD i=true) (h:chkPick ops S F i o.op=true):Step ops N Wb W0 a0 (F.map (Fx.den E)) (BX.map (·.den EB)) AD i:=by
 unfold chkPick at h
 split at h
 ·rename_i c x y e
  split at h
  ·rename_i hc
   exact s_pickT hP (op_at ho e) hp hn hg (srcOf_sound hst hc) (srcOf_sound hst (of_decide_eq_true h)) (getD_den F i)
  ·rename_i hc
   exact s_pickF hP (op_at ho e) hp hn hg (srcOf_sound hst hc) (srcOf_sound hst (of_decide_eq_true h)) (getD_den F i)
  ·cases h
 ·cases h
theorem chkExt_sound (hg : Grd ops N Wb W0 a0 (F.map (Fx.den E)) (BX.map (·.den EB)) AD i o.guard true) (hp : plainB (BX.map (·.den EB)) i = true) (hn : noAd AD i = true) (h : chkExt ops S F i o.op = true) : Step ops N Wb W0 a0 (F.map (Fx.den E)) (BX.map (·.den EB)) AD i := by
  unfold chkExt at h
  split at h
  · rename_i x k e
    split at h
    · rename_i f hf
      have h := of_decide_eq_true h
      have hx := srcOf_sound (EB := EB) (BX := BX) (AD := AD) hst hf
      unfold partOf at h
      split at h <;> first
        | (cases h; done)
        | (simp only [Option.some.injEq] at h
           refine s_op1 (f := (F.getD i .any).den E) hP (op_at ho e) hp hn hg hx (fun ρ w hx => ?_) (getD_den F i)
           rw [← h]
           first | exact h_ext2_0 hx | exact h_ext2_1 hx | exact h_ext3_0 hx | exact h_ext3_1 hx | exact h_ext3_2 hx)
    · cases h
  · cases h
omit hst in
theorem chkLoad_sound (hg:Grd ops N Wb W0 a0 (F.map (Fx.den E)) (BX.map (·.den EB)) AD i o.guard true) (hp:plainB (BX.map (·.den EB)) i=true) (hn:noAd AD i=true) (h:chkLoad T ops F BX AD i o.op=true):Step ops N Wb W0 a0 (F.map (Fx.den E)) (BX.map (·.den EB)) AD i:=by
 unfold chkLoad at h
 split at h
 ·rename_i U t e
  split at h
  ·rename_i off c hb
   obtain ⟨x,_,hx⟩:=List.any_eq_true.1 h
   simp only [Bool.and_eq_true,beq_iff_eq,decide_eq_true_eq] at hx
   obtain ⟨⟨⟨h1,h2⟩,h3⟩,h4⟩:=hx
   have:=x.ok
   rw [h1,h2,h3,h4] at this
   exact s_load hP (op_at ho e) hp hn hg (boxAt_sound hb) this (getD_den F i)
  ·cases h
 ·cases h
theorem chkCall_sound (hg:Grd ops N Wb W0 a0 (F.map (Fx.den E)) (BX.map (·.den EB)) AD i o.guard true) (hp:plainB (BX.map (·.den EB)) i=true) (hn:noAd AD i=true) (h:chkCall T ops S F i o.op=true):Step ops N Wb W0 a0 (F.map (Fx.den E)) (BX.map (·.den EB)) AD i:=by
 unfold chkCall at h
 split at h
 ·rename_i f xs Ts e
  split at h
  ·rename_i fs hs
   obtain ⟨x,_,hx⟩:=List.any_eq_true.1 h
   simp only [Bool.and_eq_true,beq_iff_eq,decide_eq_true_eq] at hx
   obtain ⟨⟨h1,h2⟩,h3⟩:=hx
   have hpl:=x.pl
   rw [h1] at hpl
   refine step_call hP (op_at ho e) hp hn fun m a w hI hr=>⟨hg m a w hI hr,f,(xs.toList.map a.eval).toArray,fun _ ho=>run_callR ho rfl hpl (by generalize a.eval=ρ; rw [← List.map_toArray,Array.toArray_toList]),?_⟩
   have:=x.ok w _ hI.below (h2 ▸ (srcs_sound hst hs hI hr).2)
   rw [h1,h3] at this
   rw [getD_den]
   exact this
  ·cases h
 ·cases h
theorem chkPure_sound (hg:Grd ops N Wb W0 a0 (F.map (Fx.den E)) (BX.map (·.den EB)) AD i o.guard true) (hp:plainB (BX.map (·.den EB)) i=true) (hn:noAd AD i=true) (h:chkPure T ops S F i o.op=true):Step ops N Wb W0 a0 (F.map (Fx.den E)) (BX.map (·.den EB)) AD i:=by
 unfold chkPure at h
 split at h
 ·rename_i k xs e
  split at h
  ·rename_i fs hs
   obtain ⟨x,_,hx⟩:=List.any_eq_true.1 h
   simp only [Bool.and_eq_true,decide_eq_true_eq] at hx
   obtain ⟨⟨h1,h2⟩,h3⟩:=hx
   refine step_val hP (op_at ho (opOf_pkOf e).symm) hp hn fun m a w hI hr=>⟨hg m a w hI hr,?_⟩
   have:=x.ok a.eval w xs hI.below (h2 ▸ (srcs_sound hst hs hI hr).1)
   rw [h1,h3] at this
   rw [getD_den]
   exact this
  ·cases h
 ·cases h
theorem chkLit_sound (hg:Grd ops N Wb W0 a0 (F.map (Fx.den E)) (BX.map (·.den EB)) AD i o.guard true) (hp:plainB (BX.map (·.den EB)) i=true) (hn:noAd AD i=true) (h:chkLit ops S F i o.op=true):Step ops N Wb W0 a0 (F.map (Fx.den E)) (BX.map (·.den EB)) AD i:=by
 unfold chkLit at h
 split at h
 ·rename_i k xs e
  split at h
  ·rename_i fs hs
   split at h
   ·rename_i f hf
    have h:=of_decide_eq_true h
    refine step_val hP (op_at ho rfl) hp hn fun m a w hI hr=>⟨hg m a w hI hr,?_⟩
    rw [getD_den,← h]
    exact litFx_sound e hf (srcs_sound (E:=E) hst hs hI hr).1
   ·cases h
  ·cases h
 ·cases h
omit hst in
theorem adrB_sound (hg:Grd ops N Wb W0 a0 (F.map (Fx.den E)) (BX.map (·.den EB)) AD i o.guard true) (hp:plainB (BX.map (·.den EB)) i=true) {t off:Nat} {op:Op} (e:o.op=op) (h:adrB ops F BX AD i t off=true)
  (hrun:∀ (ρ:Operand→Value) (q:Nat) (w:World),ρ (.tmp t) = .pointer (some ⟨q,0,none⟩)→(∀ v,ρ (.const v)=v)→∀ o:Oper,o.op=op→(execOp ρ o).run Tryz.prog w = .ok (.value (.pointer (some ⟨q,off,none⟩))) w):Step ops N Wb W0 a0 (F.map (Fx.den E)) (BX.map (·.den EB)) AD i:=by
 unfold adrB at h
 split at h
 ·rename_i k _
  split at h
  ·rename_i b hk
   simp only [Bool.and_eq_true,beq_iff_eq,decide_eq_true_eq] at h
   obtain ⟨⟨⟨⟨h1,h2⟩,h3⟩,h4⟩,h5⟩:=h
   obtain ⟨d,hd⟩:=Option.isSome_iff_exists.1 h3
   have hk':(BX.map (·.den EB))[k]? = some (b.den EB):=by rw [List.getElem?_map,hk]; rfl
   exact step_addrOf hP (op_at ho e) hd hp off h4 ((getD_den F i).trans (by rw [h5]; rfl)) _ k hk' h1 h2 hg hrun
  ·cases h
 ·cases h
omit hst in
theorem chkFld_sound (hg:Grd ops N Wb W0 a0 (F.map (Fx.den E)) (BX.map (·.den EB)) AD i o.guard true) (hp:plainB (BX.map (·.den EB)) i=true) (h:chkFld T ops F BX AD i o.op=true):Step ops N Wb W0 a0 (F.map (Fx.den E)) (BX.map (·.den EB)) AD i:=by
 unfold chkFld at h
 split at h
 ·rename_i U t k e
  split at h
  ·rename_i x _
   simp only [Bool.and_eq_true,beq_iff_eq] at h
   obtain ⟨⟨h1,h2⟩,h3⟩:=h
   have hx:=x.ok
   rw [h1,h2] at hx
   refine adrB_sound hP ho hg hp e h3 fun ρ q w h _ o ho=>?_
   unfold execOp
   rw [ho]
   show Sem.run _ (Instr.fieldAt U (ρ (.tmp t)) k >>= fun x=>pure (Next.value x)) w=_
   rw [h]
   exact run_v (hx q w)
  ·cases h
 ·rename_i U t k e
  split at h
  ·rename_i x _
   simp only [Bool.and_eq_true,beq_iff_eq,decide_eq_true_eq] at h
   obtain ⟨⟨h1,h2⟩,h3⟩:=h
   have hx:=x.ok
   rw [h1,h2] at hx
   refine adrB_sound hP ho hg hp e h3 fun ρ q w h hc o ho=>?_
   unfold execOp
   rw [ho]
   show Sem.run _ (Instr.indexAt U (ρ (.tmp t)) (ρ (.const (.int .i64 k))) >>= fun x=>pure (Next.value x)) w=_
   rw [h,hc]
   exact run_v (hx q w)
  ·cases h
 ·cases h
theorem chkNew_sound (hgn:o.guard=none) (hn:noAd AD i=true) (h:chkNew T ops S F BX i o.op=true):Step ops N Wb W0 a0 (F.map (Fx.den E)) (BX.map (·.den EB)) AD i:=by
 have hop:∀ {op:Op},o.op=op→IsOp ops i none op:=fun e=>hgn ▸ op_at ho e
 have key:∀ {k:Nat} {b:BoxY},BX[k]? = some b→newB ops F BX i b=true→(BX.map (·.den EB))[k]? = some (b.den EB)∧(b.den EB).al=some i∧dstOf ops i=some (b.den EB).slot∧(match (b.den EB).st with | none=>true | some s=>(deps ops s).contains i)=true∧((BX.map (·.den EB)).map (·.al)).count (some i)=1∧((BX.map (·.den EB)).all fun c=>c.st != some i)=true∧(F.map (Fx.den E)).getD i anyF=anyF:=by
  intro k b hk h
  unfold newB at h
  simp only [Bool.and_eq_true,decide_eq_true_eq] at h
  obtain ⟨⟨⟨⟨⟨h1,h2⟩,h3⟩,h4⟩,h5⟩,h6⟩:=h
  refine ⟨by rw [List.getElem?_map,hk]; rfl,h1,h2,h3,?_,?_,(getD_den F i).trans (by rw [h6]; rfl)⟩
  ·rw [List.map_map]; exact h4
  ·rw [List.all_map]; exact h5
 unfold chkNew at h
 split at h
 ·rename_i U e
  split at h
  ·rename_i k _
   split at h
   ·rename_i b hk
    rw [Bool.and_eq_true] at h
    obtain ⟨k1,k2,k3,k4,k5,k6,k7⟩:=key hk h.1
    obtain ⟨x,_,hx⟩:=List.any_eq_true.1 h.2
    simp only [Bool.and_eq_true,beq_iff_eq] at hx
    have r1:=x.run
    have r2:=x.old
    rw [hx.1] at r1
    rw [hx.2] at r2
    exact s_alloc hP k _ (hop e) k3 k1 k2 rfl k4 k5 k6 hn k7 r1 r2
   ·cases h
  ·cases h
 ·rename_i U x e
  split at h
  ·rename_i k _
   split at h
   ·rename_i b f hk hf
    rw [Bool.and_eq_true] at h
    obtain ⟨k1,k2,k3,k4,k5,k6,k7⟩:=key hk h.1
    obtain ⟨y,_,hy⟩:=List.any_eq_true.1 h.2
    simp only [Bool.and_eq_true,beq_iff_eq,decide_eq_true_eq] at hy
    obtain ⟨⟨y1,y2⟩,y3⟩:=hy
    have r1:=y.ok
    rw [y1,y2,y3] at r1
    exact s_box hP k _ (hop e) k3 k1 k2 rfl k4 k5 k6 hn k7 (srcOf_sound hst hf) r1
   ·cases h
  ·cases h
 ·cases h
omit hP in
theorem chkStore_sound (hgn:o.guard=none) (h:chkStore T ops S F BX AD i o.op=true):Step ops N Wb W0 a0 (F.map (Fx.den E)) (BX.map (·.den EB)) AD i:=by
 have hop:∀ {op:Op},o.op=op→IsOp ops i none op:=fun e=>hgn ▸ op_at ho e
 unfold chkStore at h
 split at h
 ·rename_i U t x e
  split at h
  ·rename_i k _
   split at h
   ·rename_i b f hk hf
    rw [Bool.and_eq_true] at h
    obtain ⟨hs,h⟩:=h
    unfold stoB at hs
    simp only [Bool.and_eq_true,decide_eq_true_eq] at hs
    obtain ⟨⟨⟨⟨s1,s2⟩,s3⟩,s4⟩,s5⟩:=hs
    have k1:(BX.map (·.den EB))[k]? = some (b.den EB):=by rw [List.getElem?_map,hk]; rfl
    have k2:((BX.map (·.den EB)).map (·.st)).count (some i)=1:=by rw [List.map_map]; exact s3
    have k3:((BX.map (·.den EB)).all fun c=>c.al != some i)=true:=by rw [List.all_map]; exact s4
    have hx:=srcOf_sound (EB:=EB) (BX:=BX) (AD:=AD) hst hf
    split at h
    ·rename_i ht
     have ht:b.slot=t:=by simpa using ht
     obtain ⟨y,_,hy⟩:=List.any_eq_true.1 h
     simp only [Bool.and_eq_true,beq_iff_eq,decide_eq_true_eq] at hy
     obtain ⟨⟨⟨⟨y1,y2⟩,y3⟩,y4⟩,y5⟩:=hy
     have r:=y.ok
     rw [y1,y2,y3,y4,y5] at r
     exact s_store k _ (hop e) s1 k1 ht s2 k2 k3 s5 hx r
    ·split at h
     ·rename_i z _
      simp only [Bool.and_eq_true,beq_iff_eq] at h
      obtain ⟨⟨⟨⟨z1,z2⟩,z3⟩,z4⟩,h⟩:=h
      obtain ⟨y,_,hy⟩:=List.any_eq_true.1 h
      simp only [Bool.and_eq_true,beq_iff_eq,decide_eq_true_eq] at hy
      obtain ⟨⟨⟨⟨y1,y2⟩,y3⟩,y4⟩,y5⟩:=hy
      have r:=y.ok
      rw [y1,y2,y3,y4,y5] at r
      obtain ⟨j,t0,off⟩:=z
      exact s_storeAt (d:=t) k _ j (hop e) s1 k1 z2.symm s2 k2 k3 s5 z4 z1 z3 hx r
     ·cases h
   ·cases h
  ·cases h
 ·cases h
omit ho in
theorem chkStep_sound (h:chkStep T ops S F BX AD i=true):Step ops N Wb W0 a0 (F.map (Fx.den E)) (BX.map (·.den EB)) AD i:=by
 unfold chkStep at h
 split at h
 ·cases h
 ·rename_i o ho
  split at h
  ·cases h
  ·rename_i hg
   simp only [Bool.and_eq_true,Bool.or_eq_true,decide_eq_true_eq] at h
   rcases h.2 with h2 | h2
   ·exact s_skip hP (op_at ho rfl) h.1.1 h.1.2 (guardOf_sound hg) ((getD_den F i).trans (by rw [h2]; rfl))
   ·exact s_skipU hP (op_at ho rfl) h.1.1 h.1.2 (guardOf_sound hg) ((getD_den F i).trans (by rw [h2]; rfl))
  ·rename_i hg
   have hg:=guardOf_sound (E:=E) (EB:=EB) (Wb:=Wb) (W0:=W0) (N:=N) (a0:=a0) (BX:=BX) (AD:=AD) hg
   rw [Bool.or_eq_true,Bool.or_eq_true] at h
   rcases h with (h | h) | h
   ·simp only [Bool.and_eq_true,Bool.or_eq_true] at h
    obtain ⟨⟨hp,hn⟩,h⟩:=h
    rcases h with (((((h | h) | h) | h) | h) | h) | h
    ·exact chkMove_sound hP hst ho hg hp hn h
    ·exact chkPick_sound hP hst ho hg hp hn h
    ·exact chkExt_sound hP hst ho hg hp hn h
    ·exact chkLoad_sound hP ho hg hp hn h
    ·exact chkCall_sound hP hst ho hg hp hn h
    ·exact chkPure_sound hP hst ho hg hp hn h
    ·exact chkLit_sound hP hst ho hg hp hn h
   ·rw [Bool.and_eq_true] at h
    exact chkFld_sound hP ho hg h.1 h.2
   ·rw [Bool.and_eq_true,Bool.or_eq_true,Bool.and_eq_true] at h
    obtain ⟨h0,h⟩:=h
    have h0:o.guard=none:=by simpa using h0
    rcases h with h | h
    ·exact chkNew_sound hP hst ho h0 h.1 h.2
    ·exact chkStore_sound hst ho h0 h
end
end Go.Proofs.YtgaehhapjnbieaaGreat
namespace Go.Proofs.YtgaehhapjnbieaaGreat
open Go.RowKit
structure Sy where
 S:List (Nat × Fx)
 B:List (Nat × Nat)
structure Bld where
 F:List Fx
 BX:List BoxY
 AD:List (Nat × Nat × Nat)
section
variable {E : List PF} {EB : List CF} {Wb : World} (T : Tab E EB Wb) (N : Nat)
section
variable (ops : Array Oper) (S : List (Nat × Fx))
def pureFx (st:Bld) (i:Nat) (op:Op):Fx:=match pkOf op with
 | some (k,xs)=>match srcs ops S st.F i xs with
  | some fs=>match T.pures.find? fun e=>decide (e.k=k) && decide (e.xs=fs) with
   | some e=>e.r
   | none=>(litFx op fs).getD .any
  | none=>.any
 | none=>.any
def guess (st:Bld) (i:Nat) (o:Oper):Fx:=match guardOf ops st.F i o with
 | some true=>match o.op with
  | .move x=>(srcOf ops S st.F i x).getD .any
  | .assign x=>(srcOf ops S st.F i x).getD .any
  | .pick c x y=>match srcOf ops S st.F i c with
   | some (.bool true)=>(srcOf ops S st.F i x).getD .any
   | some (.bool false)=>(srcOf ops S st.F i y).getD .any
   | _=>.any
  | .extract x k=>match srcOf ops S st.F i x with
   | some f=>(partOf f k).getD .any
   | none=>.any
  | .load U (.tmp t)=>match boxAt ops st.BX st.AD i t with
   | some (off,c)=>match T.loads.find? fun e=>e.T == U && e.off == off && e.c == c with
    | some e=>e.r
    | none=>.any
   | none=>pureFx T ops S st i o.op
  | .call { callee:=.value (.func f),args:=xs,argTypes:=_ }=>match srcs ops S st.F i xs.toList with
   | some fs=>match T.calls.find? fun e=>e.f == f && decide (e.xs=fs) with
    | some e=>e.r
    | none=>.any
   | none=>.any
  | op=>pureFx T ops S st i op
 | _=>.any
def setSt (BX:List BoxY) (t i n:Nat):List BoxY:=BX.map fun b=>if b.slot == t then { b with st:=some i,new:=n } else b
def bstep (st:Bld) (i:Nat):Bld:=match ops[i]? with
 | none=>st
 | some o=>if guardOf ops st.F i o=some false then ⟨st.F ++ [.undef],st.BX,st.AD⟩ else match o.op,o.dst with
  | .alloc U,some d=>match T.allocs.find? fun e=>e.T == U with
   | some e=>⟨st.F ++ [.any],st.BX ++ [⟨d,some i,none,e.c,e.c⟩],st.AD⟩
   | none=>st
  | .box U x,some d=>match srcOf ops S st.F i x with
   | some f=>match T.boxes.find? fun e=>e.T == U && decide (e.x=f) with
    | some e=>⟨st.F ++ [.any],st.BX ++ [⟨d,some i,none,e.c,e.c⟩],st.AD⟩
    | none=>st
   | none=>st
  | .store U (.tmp t) x,_=>match srcOf ops S st.F i x with
   | some f=>match st.BX.find? fun b=>b.slot == t with
    | some b=>match T.stores.find? fun e=>e.T == U && e.off == 0 && e.old == b.old && decide (e.x=f) with
     | some e=>⟨st.F ++ [.any],setSt st.BX t i e.new,st.AD⟩
     | none=>st
    | none=>match st.AD.find? fun y=>dstOf ops y.1 == some t with
     | some y=>match st.BX.find? fun b=>b.slot == y.2.1 with
      | some b=>match T.stores.find? fun e=>e.T == U && e.off == y.2.2 && e.old == b.old && decide (e.x=f) with
       | some e=>⟨st.F ++ [.any],setSt st.BX y.2.1 i e.new,st.AD⟩
       | none=>st
      | none=>st
     | none=>st
   | none=>st
  | .fieldAddr U (.tmp t) k,_=>match T.flds.find? fun e=>e.T == U && e.k == k with
   | some e=>⟨st.F ++ [.any],st.BX,st.AD ++ [(i,t,e.off)]⟩
   | none=>st
  | .indexAddr U (.tmp t) (.const (.int .i64 k)),_=>if st.BX.any fun b=>b.slot == t then (match T.idxs.find? fun e=>e.T == U && decide (e.k=k) with
   | some e=>⟨st.F ++ [.any],st.BX,st.AD ++ [(i,t,e.off)]⟩
   | none=>st) else ⟨st.F ++ [guess T ops S st i o],st.BX,st.AD⟩
  | _,_=>⟨st.F ++ [guess T ops S st i o],st.BX,st.AD⟩
def build (B:List (Nat × Nat)):Bld:=(List.range ops.size).foldl (bstep T ops S) ⟨[],B.map fun x=>⟨x.1,none,none,x.2,x.2⟩,[]⟩
def planB (BX:List BoxS) (AD:List (Nat × Nat × Nat)):Bool:=dagB ops && dstsB ops && slotsB ops BX && adB ops BX AD && (BX.all fun b=>match b.st with | none=>true | some s=>decide (s<ops.size)) && (ops.all fun o=>match o.dst with | none=>true | some d=>decide (d<N))
def startB (B:List (Nat × Nat)) (BX:List BoxY):Bool:=decide ((BX.take B.length).map (fun b=>(b.slot,b.old))=B) && (BX.take B.length).all (fun b=>b.al.isNone) && (BX.drop B.length).all fun b=>b.al.isSome
def outS (F:List Fx):List (Nat × Fx):=((List.range ops.size).filterMap fun i=>match dstOf ops i,F.getD i .any with
 | none,_=>none
 | some _,.any=>none
 | some _,.undef=>none
 | some d,f=>some (d,f)) ++ S.filter fun x=>ops.all fun o=>o.dst != some x.1
end
def outB (BX:List BoxY):List (Nat × Nat):=BX.map fun b=>(b.slot,match b.st with | none=>b.old | some _=>b.new)
def execR (ops:Array Oper) (s:Sy):Option Sy:=match build T ops s.S s.B with
 | ⟨F,BX,AD⟩=>if planB N ops (BX.map (·.den EB)) AD && startB s.B BX && (List.range ops.size).all (chkStep T ops s.S F BX AD) then some ⟨outS ops s.S F,outB BX⟩ else none
inductive Out where
 | fall (s:Sy)
 | ret (s:Sy)
 | exit (n:Nat) (s:Sy)
 | bad
def runC:Code→Sy→Out
 | .skip,s=>.fall s
 | .region _ ops _,s=>match execR T N ops s with
  | some s'=>.fall s'
  | none=>.bad
 | .seq a b,s=>match runC a s with
  | .fall s'=>runC b s'
  | .ret s'=>.ret s'
  | .exit n s'=>.exit n s'
  | .bad=>.bad
 | .cond (.tmp t) a b,s=>match lookS s.S t with
  | some (.bool true)=>runC a s
  | some (.bool false)=>runC b s
  | _=>.bad
 | .block n c,s=>match runC c s with
  | .fall s'=>.fall s'
  | .ret s'=>.ret s'
  | .exit m s'=>if m=n then .fall s' else .exit m s'
  | .bad=>.bad
 | .exit n,s=>.exit n s
 | .ret,s=>.ret s
 | _,_=>.bad
def OutOk (E:List PF) (EB:List CF) (Wb:World) (N:Nat) (Q:Exit→Act→World→Prop):Out→Prop
 | .fall s=>∀ a w,St Wb N (denS E s.S) (denB EB s.B) a w→Q .normal a w
 | .ret s=>∀ a w,St Wb N (denS E s.S) (denB EB s.B) a w→Q .ret a w
 | .exit n s=>∀ a w,St Wb N (denS E s.S) (denB EB s.B) a w→Q (.exit n) a w
 | .bad=>False
end
theorem slots_of {a:Act} {w:World}:∀ {L:List (Nat × PF)},(∀ x∈L,∃ v,a.tmps[x.1]? = some v∧x.2.p v w)→SlotsOk L a w
 | [],_=>trivial
 | x :: _,h=>⟨h x (by simp),slots_of fun y hy=>h y (by simp [hy])⟩
section
variable {E : List PF} {EB : List CF} {Wb : World} {T : Tab E EB Wb} {N : Nat}
theorem execR_sound {ops:Array Oper} {s s':Sy} (h:execR T N ops s=some s') {id:Nat} {dr:Bool} {Q:Exit→Act→World→Prop} {a0:Act} {W0:World} (hst:St Wb N (denS E s.S) (denB EB s.B) a0 W0)
  (fin:∀ a w,St Wb N (denS E s'.S) (denB EB s'.B) a w→Q .normal a w):(Code.region id ops dr).wp Tryz.prog Q a0 W0:=by
 unfold execR at h
 generalize build T ops s.S s.B=bl at h
 obtain ⟨F,BX,AD⟩:=bl
 simp only [] at h
 split at h
 ·rename_i hc
  simp only [Option.some.injEq] at h
  subst h
  simp only [Bool.and_eq_true] at hc
  obtain ⟨⟨hp,hs⟩,hall⟩:=hc
  have hP:Plan ops N (BX.map (·.den EB)) AD:=by
   unfold planB at hp
   simp only [Bool.and_eq_true] at hp
   obtain ⟨⟨⟨⟨⟨h1,h2⟩,h3⟩,h4⟩,h5⟩,h6⟩:=hp
   exact ⟨h1,h2,h3,h4,h5,h6⟩
  unfold startB at hs
  simp only [Bool.and_eq_true,decide_eq_true_eq] at hs
  obtain ⟨⟨hs1,hs2⟩,hs3⟩:=hs
  have hlen:(denB EB s.B).length=s.B.length:=by simp [denB]
  refine region_st (F:=F.map (Fx.den E)) (BX:=BX.map (·.den EB)) (AD:=AD) (S':=denS E (outS ops s.S F)) hP hst ?_ ?_ ?_ ?_ ?_
  ·rw [hlen,← List.map_take]
   conv=>lhs; rw [← List.take_append_drop s.B.length BX,List.map_append,List.filter_append]
   have e1:((BX.take s.B.length).map (·.den EB)).filter (fun b=>b.al.isNone)=(BX.take s.B.length).map (·.den EB):=List.filter_eq_self.2 fun b hb=>by
    obtain ⟨c,hc,rfl⟩:=List.mem_map.1 hb
    exact List.all_eq_true.1 hs2 c hc
   have e2:((BX.drop s.B.length).map (·.den EB)).filter (fun b=>b.al.isNone)=[]:=List.filter_eq_nil_iff.2 fun b hb=>by
    obtain ⟨c,hc,rfl⟩:=List.mem_map.1 hb
    have:=List.all_eq_true.1 hs3 c hc
    show ¬ c.al.isNone=true
    cases e:c.al with
    | none=>rw [e] at this; cases this
    | some _=>simp
   rw [e1,e2,List.append_nil]
  ·rw [hlen,← List.map_take,List.map_map]
   have:denB EB s.B=denB EB ((BX.take s.B.length).map fun b=>(b.slot,b.old)):=by rw [hs1]
   rw [this]
   simp [denB,BoxY.den,Function.comp_def]
  ·intro i hi
   exact chkStep_sound hP hst (List.all_eq_true.1 hall i (List.mem_range.2 hi))
  ·intro m a w hI hm
   refine slots_of fun x hx=>?_
   unfold denS outS at hx
   rw [List.map_append,List.mem_append] at hx
   rcases hx with hx | hx
   ·obtain ⟨y,hy,rfl⟩:=List.mem_map.1 hx
    obtain ⟨i,_,hi⟩:=List.mem_filterMap.1 hy
    have key:∀ d f,dstOf ops i=some d→F.getD i .any=f→y=(d,f)→∃ v,a.tmps[y.1]? = some v∧(y.2.den E).p v w:=by
     rintro d f hd hf rfl
     exact out_op hI hm i d _ hd ((getD_den F i).trans (by rw [hf]))
    split at hi
    ·cases hi
    ·cases hi
    ·cases hi
    ·rename_i d f hd hf
     exact key _ _ ‹_› rfl (by simpa using hi.symm)
   ·obtain ⟨y,hy,rfl⟩:=List.mem_map.1 hx
    obtain ⟨hy1,hy2⟩:=List.mem_filter.1 hy
    obtain ⟨k,hk⟩:=List.getElem?_of_mem hy1
    exact low_fact hst k (show (denS E s.S)[k]? = some (y.1,y.2.den E) by unfold denS; rw [List.getElem?_map,hk]; rfl) hy2 hI
  ·intro a w h
   refine fin a w ?_
   have e:(BX.map (·.den EB)).map (fun b=>(b.slot,b.fin))=denB EB (outB BX):=by
    unfold denB outB
    rw [List.map_map,List.map_map]
    refine List.map_congr_left fun b _=>?_
    simp only [Function.comp_def]
    unfold BoxS.fin BoxY.den
    cases b.st <;> rfl
   rw [e] at h
   exact h
 ·cases h
theorem runC_sound:∀ (c:Code) {s:Sy} {Q:Exit→Act→World→Prop} {a:Act} {w:World},St Wb N (denS E s.S) (denB EB s.B) a w→OutOk E EB Wb N Q (runC T N c s)→c.wp Tryz.prog Q a w:=by
 intro c
 induction c with
 | skip=>intro s Q a w hst h; exact wp_skip (h a w hst)
 | region id ops dr =>
  intro s Q a w hst h
  unfold runC at h
  split at h
  ·rename_i s' hs
   exact execR_sound hs hst h
  ·exact h.elim
 | seq x y ihx ihy =>
  intro s Q a w hst h
  refine wp_seq (ihx hst ?_)
  unfold runC at h
  generalize runC T N x s=o at h
  cases o with
  | fall s'=>exact fun a w hst=>ihy hst h
  | ret s'=>exact h
  | exit n s'=>exact h
  | bad=>exact h
 | cond c x y ihx ihy =>
  intro s Q a w hst h
  cases c with
  | tmp t =>
   have key:∀ b,lookS s.S t=some (.bool b)→a.eval (.tmp t) = .bool b:=fun b hl=>by
    obtain ⟨k,hk⟩:=lookS_get (E:=E) hl
    exact st_bool hst k hk
   simp only [runC] at h
   split at h
   ·rename_i hl
    exact wp_cond_true (key _ hl) (ihx hst h)
   ·rename_i hl
    exact wp_cond_false (key _ hl) (ihy hst h)
   ·exact h.elim
  | _=>exact h.elim
 | block n x ih =>
  intro s Q a w hst h
  refine wp_block (ih hst ?_)
  unfold runC at h
  generalize runC T N x s=o at h
  cases o with
  | fall s'=>exact h
  | ret s'=>exact h
  | exit m s' =>
   simp only [] at h
   intro a w hst
   show if m=n then Q .normal a w else Q (.exit m) a w
   split at h
   ·rename_i e; rw [if_pos e]; exact h a w hst
   ·rename_i e; rw [if_neg e]; exact h a w hst
  | bad=>exact h
 | exit n=>intro s Q a w hst h; exact wp_exit (h a w hst)
 | ret=>intro s Q a w hst h; exact wp_ret (h a w hst)
 | _=>intro s Q a w hst h; exact h.elim
def lookB:List (Nat × Nat)→Nat→Option Nat
 | [],_=>none
 | x :: r,t=>if x.1 == t then some x.2 else lookB r t
theorem lookB_get:∀ {B:List (Nat × Nat)} {t c:Nat},lookB B t=some c→∃ k:Nat,(denB EB B)[k]? = some (t,cfOf EB c)
 | [],_,_,h=>by cases h
 | x :: r,t,c,h=>by
  unfold lookB at h
  split at h
  ·rename_i e
   have e:x.1=t:=by simpa using e
   cases h
   exact ⟨0,by simp [denB,e]⟩
  ·obtain ⟨k,hk⟩:=lookB_get h
   exact ⟨k+1,by simpa [denB] using hk⟩
def resOf (T:Tab E EB Wb) (s:Sy):ResultVar→Option Fx
 | .tmp t=>lookS s.S t
 | .cell t U=>match lookB s.B t with
  | some c=>match T.loads.find? fun e=>e.T == U && e.off == 0 && e.c == c with
   | some e=>if e.T == U && e.off == 0 && e.c == c then some e.r else none
   | none=>none
  | none=>none
def resRun (tmps:Array Value):ResultVar→Sem Value
 | .tmp t=>pure (tmps.getD t undef)
 | .cell a t=>do loadVar t (← asAddr (tmps.getD a undef))
theorem loadAt_var {U:TypeId} {q:Nat} {w:World} {v:Value} (h:(Instr.loadAt U (.pointer (some ⟨q,0,none⟩))).run Tryz.prog w = .ok v w):(loadVar U ⟨q,0,none⟩).run Tryz.prog w = .ok v w:=h
theorem resOf_sound {s:Sy} {rv:ResultVar} {f:Fx} (h:resOf T s rv=some f) {a:Act} {w:World} (hst:St Wb N (denS E s.S) (denB EB s.B) a w):∃ v,(resRun a.tmps rv).run Tryz.prog w = .ok v w∧(f.den E).p v w:=by
 cases rv with
 | tmp t =>
  obtain ⟨k,hk⟩:=lookS_get (E:=E) h
  obtain ⟨v,h1,h2⟩:=hst.slots.get hk
  refine ⟨v,?_,h2⟩
  have hv:a.tmps.getD t undef=v:=by
   have:=eval_of h1
   simpa [Act.eval] using this
  show (pure (a.tmps.getD t undef):Sem Value).run _ _=_
  rw [hv]
  rfl
 | cell t U =>
  simp only [resOf] at h
  split at h
  ·rename_i c hc
   split at h
   ·rename_i e _
    split at h
    ·rename_i he
     simp only [Bool.and_eq_true,beq_iff_eq] at he
     obtain ⟨⟨e1,e2⟩,e3⟩:=he
     cases h
     obtain ⟨k,hk⟩:=lookB_get (EB:=EB) hc
     obtain ⟨q,h1,_,h2⟩:=hst.boxes.get hk
     have:=e.ok
     rw [e1,e2,e3] at this
     obtain ⟨v,h3,h4⟩:=this w q h2
     refine ⟨v,?_,h4⟩
     have hv:a.tmps.getD t undef = .pointer (some ⟨q,0,none⟩):=by
      have:=eval_of h1
      simpa [Act.eval] using this
     show (asAddr (a.tmps.getD t undef) >>= fun p=>loadVar U p).run _ _=_
     rw [hv]
     exact loadAt_var h3
    ·cases h
   ·cases h
  ·cases h
def retOf (T:Tab E EB Wb) (s:Sy):List ResultVar→Option Fx
 | [x]=>resOf T s x
 | [x,y]=>match resOf T s x,resOf T s y with
  | some f,some g=>some (.tup2 f g)
  | _,_=>none
 | [x,y,z]=>match resOf T s x,resOf T s y,resOf T s z with
  | some f,some g,some h=>some (.tup3 f g h)
  | _,_,_=>none
 | _=>none
theorem retOf_sound {s:Sy} {fn:Func} {r:Fx} (h:retOf T s fn.results.toList=some r) {a:Act} {w:World} (hst:St Wb N (denS E s.S) (denB EB s.B) a w):a.defers=[]∧∃ v,(results fn a.tmps).run Tryz.prog w = .ok v w∧GivesP (r.den E) Wb (.returned v) w:=by
 refine ⟨hst.defers,?_⟩
 have hres:(results fn a.tmps)=(do
   let vs ← fn.results.mapM (resRun a.tmps)
   pure (if h:vs.size=1 then vs[0] else .tuple vs)):=by
  unfold results
  congr 1
 generalize hl:fn.results.toList=l at h
 have hl':fn.results=l.toArray:=by rw [← hl,Array.toArray_toList]
 unfold retOf at h
 split at h
 ·rename_i x
  obtain ⟨v,h1,h2⟩:=resOf_sound h hst
  exact ⟨v,by rw [hres,hl']; simp [Sem.run_bind,h1],v,rfl,h2,hst.below⟩
 ·rename_i x y
  split at h
  ·rename_i f g hf hg
   cases h
   obtain ⟨v,h1,h2⟩:=resOf_sound hf hst
   obtain ⟨u,h3,h4⟩:=resOf_sound hg hst
   exact ⟨.tuple #[v,u],by rw [hres,hl']; simp [Sem.run_bind,h1,h3],_,rfl,⟨v,u,rfl,h2,h4⟩,hst.below⟩
  ·cases h
 ·rename_i x y z
  split at h
  ·rename_i f g k hf hg hk
   cases h
   obtain ⟨v,h1,h2⟩:=resOf_sound hf hst
   obtain ⟨u,h3,h4⟩:=resOf_sound hg hst
   obtain ⟨t,h5,h6⟩:=resOf_sound hk hst
   exact ⟨.tuple #[v,u,t],by rw [hres,hl']; simp [Sem.run_bind,h1,h3,h5],_,rfl,⟨v,u,t,rfl,h2,h4,h6⟩,hst.below⟩
  ·cases h
 ·cases h
def numb:Nat→List Fx→List (Nat × Fx)
 | _,[]=>[]
 | k,f :: r=>(k,f) :: numb (k+1) r
def chkRet (T:Tab E EB Wb) (fn:Func) (r:Fx):Out→Bool
 | .ret s=>decide (retOf T s fn.results.toList=some r)
 | .fall s=>decide (retOf T s fn.results.toList=some r)
 | _=>false
theorem chkRet_sound {fn:Func} {r:Fx} {o:Out} (h:chkRet T fn r o=true):OutOk E EB Wb N (bodyPost Tryz.prog fn (GivesP (r.den E) Wb)) o:=by
 unfold chkRet at h
 split at h
 ·exact fun a w hst=>retOf_sound (of_decide_eq_true h) hst
 ·exact fun a w hst=>retOf_sound (of_decide_eq_true h) hst
 ·cases h
def chkFn (T:Tab E EB Wb) (fn:Func) (fs:List Fx) (r:Fx):Bool:=fn.body.isSome && decide (fs.length≤fn.ntmps) && chkRet T fn r (runC T fn.ntmps (bodyOf fn) ⟨numb 0 fs,[]⟩)
theorem auto_calls (T:Tab E EB Wb) {f:FuncId} {fn:Func} {fs:List Fx} {vs:List Value} {r:Fx} (hf:Tryz.prog.funcs[f]? = some fn) (hv:Vals E Wb fs vs) (h:chkFn T fn fs r=true):Calls Tryz.prog f vs.toArray Wb (GivesP (r.den E) Wb):=by
 unfold chkFn at h
 simp only [Bool.and_eq_true,decide_eq_true_eq] at h
 obtain ⟨⟨h1,h2⟩,h3⟩:=h
 have hlen:∀ {fs:List Fx} {vs:List Value},Vals E Wb fs vs→vs.length=fs.length:=by
  intro fs
  induction fs with
  | nil=>intro vs h; cases vs with | nil=>rfl | cons=>exact h.elim
  | cons f r ih=>intro vs h; cases vs with | nil=>exact h.elim | cons v s=>exact congrArg (· + 1) (ih h.2)
 refine calls_stW (S:=denS E (numb 0 fs)) hf h1 rfl (by simpa [hlen hv] using h2) ?_ fun a w hst=>runC_sound (T:=T) (s:=⟨numb 0 fs,[]⟩) _ hst (chkRet_sound h3)
 have key:∀ (fs:List Fx) (vs pre:List Value),Vals E Wb fs vs→∀ x∈denS E (numb pre.length fs),∃ v,(pre ++ vs)[x.1]? = some v∧x.2.p v Wb:=by
  intro fs
  induction fs with
  | nil=>intro vs pre _ x hx; cases hx
  | cons f r ih =>
   intro vs pre h x hx
   cases vs with
   | nil=>exact h.elim
   | cons v s =>
    unfold numb denS at hx
    rw [List.map_cons,List.mem_cons] at hx
    rcases hx with rfl | hx
    ·exact ⟨v,by simp,h.1⟩
    ·have:=ih s (pre ++ [v]) h.2 x (by rw [List.length_append]; exact hx)
     simpa using this
 intro x hx
 have:=key fs vs [] hv x hx
 simpa using this
def subB (s s2:Sy):Bool:=(s2.S.all fun x=>decide (lookS s.S x.1=some x.2)) && decide (s.B.take s2.B.length=s2.B)
theorem subB_sound {s s2:Sy} (h:subB s s2=true) {a:Act} {w:World} (hst:St Wb N (denS E s.S) (denB EB s.B) a w):St Wb N (denS E s2.S) (denB EB s2.B) a w:=by
 unfold subB at h
 rw [Bool.and_eq_true] at h
 have h1:SlotsOk (denS E s2.S) a w:=slots_of fun x hx=>by
  obtain ⟨y,hy,rfl⟩:=List.mem_map.1 hx
  obtain ⟨k,hk⟩:=lookS_get (E:=E) (of_decide_eq_true (List.all_eq_true.1 h.1 y hy))
  exact hst.slots.get hk
 have h2:=(hst.to h1).firstB s2.B.length
 have e:(denB EB s.B).take s2.B.length=denB EB s2.B:=by
  unfold denB
  rw [← List.map_take,of_decide_eq_true h.2]
 rw [e] at h2
 exact h2
end
section
variable {E : List PF} {EB : List CF} {Wb : World} {N : Nat}
def regB (T:Tab E EB Wb) (N:Nat) (ops:Array Oper) (s s2:Sy):Bool:=match execR T N ops s with
 | some s'=>subB s' s2
 | none=>false
theorem region_auto {s:Sy} (T:Tab E EB Wb) (s2:Sy) {ops:Array Oper} {id:Nat} {dr:Bool} {Q:Exit→Act→World→Prop} {a0:Act} {W0:World} (hst:St Wb N (denS E s.S) (denB EB s.B) a0 W0) (h:regB T N ops s s2=true)
  (fin:∀ a w,St Wb N (denS E s2.S) (denB EB s2.B) a w→Q .normal a w):(Code.region id ops dr).wp Tryz.prog Q a0 W0:=by
 unfold regB at h
 split at h
 ·rename_i s' hs
  exact execR_sound hs hst fun a w hst=>fin a w (subB_sound h hst)
 ·cases h
structure RA (N:Nat) (E:List PF) (EB:List CF) (s s2:Sy) (Wb:World) (id:Nat) (ops:Array Oper) (dr:Bool):Prop where
 run:∀ {Q:Exit→Act→World→Prop} {a0:Act} {W0:World},St Wb N (denS E s.S) (denB EB s.B) a0 W0→(∀ a w,St Wb N (denS E s2.S) (denB EB s2.B) a w→Q .normal a w)→(Code.region id ops dr).wp Tryz.prog Q a0 W0
theorem RA.of {s s2:Sy} {ops:Array Oper} {id:Nat} {dr:Bool} (T:Tab E EB Wb) (h:regB T N ops s s2=true):RA N E EB s s2 Wb id ops dr:=⟨fun hst fin=>region_auto T s2 hst h fin⟩
theorem h_loadP {T:TypeId} {x:Operand} {p:Addr} {v:Value} {ρ:Operand→Value} {w:World} (hc:Wb.cell? p=some v) (hb:Below Wb.heap.size Wb w) (hrun:∀ w:World,w.cell? p=some v→(Instr.loadAt T (.pointer (some p))).run Tryz.prog w = .ok v w) (hx:(eqF (.pointer (some p))).p (ρ x) w):Yld (.load T x) ρ w (eqF v):=by
 have e:ρ x = .pointer (some p):=hx
 refine yld_mk fun o ho=>?_
 unfold execOp
 rw [ho]
 show Sem.run _ (Instr.loadAt T (ρ x) >>= fun x=>pure (Next.value x)) w=_
 rw [e]
 exact run_v (hrun w ((hb.cell (World.block_lt_of_cell? _ _ hc)).trans hc))
end
section
variable {E : List PF} {EB : List CF} {Wb : World}
def c0 (f:Nat) (r:Fx) (h:∀ w,Below Wb.heap.size Wb w→Calls Tryz.prog f #[] w (GivesP (r.den E) w)) (pl:Plainly f:=by intro _ _; simp [go_sem]):CallE E Wb:=⟨f,[],r,pl,fun w vs hb hv=>by
 match vs,hv with
 | [],_=>exact h w hb⟩
def c1 (f:Nat) (x r:Fx) (h:∀ w v0,Below Wb.heap.size Wb w→(x.den E).p v0 w→Calls Tryz.prog f #[v0] w (GivesP (r.den E) w)) (pl:Plainly f:=by intro _ _; simp [go_sem]):CallE E Wb:=⟨f,[x],r,pl,fun w vs hb hv=>by
 match vs,hv with
 | [v0],h0=>exact h w v0 hb h0.1⟩
def c2 (f:Nat) (x y r:Fx) (h:∀ w v0 v1,Below Wb.heap.size Wb w→(x.den E).p v0 w→(y.den E).p v1 w→Calls Tryz.prog f #[v0,v1] w (GivesP (r.den E) w)) (pl:Plainly f:=by intro _ _; simp [go_sem]):CallE E Wb:=⟨f,[x,y],r,pl,fun w vs hb hv=>by
 match vs,hv with
 | [v0,v1],h0=>exact h w v0 v1 hb h0.1 h0.2.1⟩
def c3 (f:Nat) (x y z r:Fx) (h:∀ w v0 v1 v2,Below Wb.heap.size Wb w→(x.den E).p v0 w→(y.den E).p v1 w→(z.den E).p v2 w→Calls Tryz.prog f #[v0,v1,v2] w (GivesP (r.den E) w)) (pl:Plainly f:=by intro _ _; simp [go_sem]):CallE E Wb:=⟨f,[x,y,z],r,pl,fun w vs hb hv=>by
 match vs,hv with
 | [v0,v1,v2],h0=>exact h w v0 v1 v2 hb h0.1 h0.2.1 h0.2.2.1⟩
def c4 (f:Nat) (x y z u r:Fx) (h:∀ w v0 v1 v2 v3,Below Wb.heap.size Wb w→(x.den E).p v0 w→(y.den E).p v1 w→(z.den E).p v2 w→(u.den E).p v3 w→Calls Tryz.prog f #[v0,v1,v2,v3] w (GivesP (r.den E) w)) (pl:Plainly f:=by intro _ _; simp [go_sem]):CallE E Wb:=⟨f,[x,y,z,u],r,pl,fun w vs hb hv=>by
 match vs,hv with
 | [v0,v1,v2,v3],h0=>exact h w v0 v1 v2 v3 hb h0.1 h0.2.1 h0.2.2.1 h0.2.2.2.1⟩
def p0 (k:PK) (r:Fx) (h:∀ ρ w,Below Wb.heap.size Wb w→Yld (opOf k []) ρ w (r.den E)):PureE E Wb:=⟨k,[],r,fun ρ w ys hb hv=>by
 match ys,hv with
 | [],_=>exact h ρ w hb⟩
def p1 (k:PK) (x r:Fx) (h:∀ (ρ:Operand→Value) w a,Below Wb.heap.size Wb w→(x.den E).p (ρ a) w→Yld (opOf k [a]) ρ w (r.den E)):PureE E Wb:=⟨k,[x],r,fun ρ w ys hb hv=>by
 match ys,hv with
 | [a],h0=>exact h ρ w a hb h0.1⟩
def p2 (k:PK) (x y r:Fx) (h:∀ (ρ:Operand→Value) w a b,Below Wb.heap.size Wb w→(x.den E).p (ρ a) w→(y.den E).p (ρ b) w→Yld (opOf k [a,b]) ρ w (r.den E)):PureE E Wb:=⟨k,[x,y],r,fun ρ w ys hb hv=>by
 match ys,hv with
 | [a,b],h0=>exact h ρ w a b hb h0.1 h0.2.1⟩
def p3 (k:PK) (x y z r:Fx) (h:∀ (ρ:Operand→Value) w a b c,Below Wb.heap.size Wb w→(x.den E).p (ρ a) w→(y.den E).p (ρ b) w→(z.den E).p (ρ c) w→Yld (opOf k [a,b,c]) ρ w (r.den E)):PureE E Wb:=⟨k,[x,y,z],r,fun ρ w ys hb hv=>by
 match ys,hv with
 | [a,b,c],h0=>exact h ρ w a b c hb h0.1 h0.2.1 h0.2.2.1⟩
end
end Go.Proofs.YtgaehhapjnbieaaGreat
