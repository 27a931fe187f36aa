/- An abstract machine: the contracts of numbers. -/
import Derived.Test.YtgaehhapjnbieaaGreatqVi
import Derived.Test.YtgaehhapjnbieaaGreatqQr
set_option linter.unusedSectionVars false
set_option linter.unusedVariables false
set_option linter.unusedSimpArgs false
namespace Go.Proofs.YtgaehhapjnbieaaGreat
open Go.RowKit
variable [Env]
section
variable {ρ : Rho} {M : Nat → Prop} {w : World} {v : Value}
theorem int_shape {x y:Value} {z:Int} (h:IntAt w (.agg #[x,y]) z):∃ b A k c,x = .bool b∧y = .slice A k c:=by
 obtain ⟨s,e,A,c,e2,_⟩:=h
 simp only [Value.agg.injEq] at e
 have e:=congrArg Array.toList e
 simp only [List.cons.injEq] at e
 exact ⟨_,_,_,_,e.1,e.2.1.trans e2⟩
theorem pair_in {n d:Int} {q:Rat} (hn:q.num=n) (hd:(q.den:Int)=d) (h:(pairF n d).p v w):RV1 ρ M w (.rat q) v:=by
 obtain ⟨b,A,k,c,b',A',k',c',rfl,h1,h2⟩:=h
 refine ⟨_,rfl,?_⟩
 unfold Rp
 exact ⟨_,_,_,_,rfl,hn ▸ h1,hd ▸ h2⟩
theorem rat_in {q:Rat} (h:(ratF q).p v w):RV1 ρ M w (.rat q) v:=pair_in rfl rfl h
theorem pair_agg {n d:Int} (h:(pairF n d).p v w):RV1 ρ M w (.agg [.num n,.num d]) v:=by
 obtain ⟨b,A,k,c,b',A',k',c',rfl,h1,h2⟩:=h
 refine ⟨_,rfl,?_⟩
 unfold Rps
 refine ⟨[_,_],[_,_],rfl,by unfold Rp; exact ⟨_,_,rfl,h1⟩,Rps.one ?_⟩
 unfold Rp
 exact ⟨_,_,rfl,h2⟩
theorem num_in {z:Int} (h:(intF z).p v w):RV1 ρ M w (.num z) v:=by
 obtain ⟨s,e,hs⟩:=h
 refine ⟨#[.bool (decide (z<0)),s],e,?_⟩
 unfold Rp
 exact ⟨_,_,rfl,s,rfl,hs⟩
def asRat:AV→Option Rat
 | .rat q=>some q
 | .agg [.rat q]=>some q
 | .agg [.num a,.num b]=>if decide ((mkRat a b.toNat).num=a) && decide (((mkRat a b.toNat).den:Int)=b) then some (mkRat a b.toNat) else none
 | _=>none
theorem rp_pair {q:Rat} {cs:List Value} (h:Rp ρ M w (.rat q) cs):(ratF q).p (.agg cs.toArray) w:=by
 unfold Rp at h
 obtain ⟨a,b,c,d,rfl,h1,h2⟩:=h
 obtain ⟨x,A,k,e,rfl,rfl⟩:=int_shape h1
 obtain ⟨x',A',k',e',rfl,rfl⟩:=int_shape h2
 exact ⟨x,A,k,e,x',A',k',e',rfl,h1,h2⟩
theorem asRat_sound {a:AV} {q:Rat} (h:asRat a=some q) (hv:RV1 ρ M w a v):(ratF q).p v w:=by
 unfold asRat at h
 split at h
 ·cases h
  obtain ⟨cs,rfl,hc⟩:=hv
  have:=rp_pair hc
  rwa [Array.toArray_toList] at this
 ·cases h
  obtain ⟨cs,rfl,hc⟩:=hv
  have:=rp_pair hc.one'
  rwa [Array.toArray_toList] at this
 ·rename_i a b
  split at h
  ·rename_i hc
   cases h
   rw [Bool.and_eq_true] at hc
   have e1:=of_decide_eq_true hc.1
   have e2:=of_decide_eq_true hc.2
   obtain ⟨cs,rfl,hcs⟩:=hv
   unfold Rps at hcs
   obtain ⟨x,y,e,r1,r2⟩:=hcs
   have r2:=r2.one'
   unfold Rp at r1 r2
   obtain ⟨x1,x2,rfl,i1⟩:=r1
   obtain ⟨y1,y2,rfl,i2⟩:=r2
   obtain ⟨b1,A,k,c,rfl,rfl⟩:=int_shape i1
   obtain ⟨b2,A',k',c',rfl,rfl⟩:=int_shape i2
   refine ⟨b1,A,k,c,b2,A',k',c',?_,e1.symm ▸ i1,e2.symm ▸ i2⟩
   congr 1
   apply Array.ext'
   exact e
  ·cases h
 ·cases h
def asNum:AV→Option Int
 | .num z=>some z
 | .agg [.num z]=>some z
 | _=>none
theorem rp_num {z:Int} {cs:List Value} (h:Rp ρ M w (.num z) cs):(intF z).p (.agg cs.toArray) w:=by
 unfold Rp at h
 obtain ⟨a,b,rfl,h⟩:=h
 exact h
theorem asNum_sound {a:AV} {z:Int} (h:asNum a=some z) (hv:RV1 ρ M w a v):(intF z).p v w:=by
 unfold asNum at h
 split at h
 ·cases h
  obtain ⟨cs,rfl,hc⟩:=hv
  have:=rp_num hc
  rwa [Array.toArray_toList] at this
 ·cases h
  obtain ⟨cs,rfl,hc⟩:=hv
  have:=rp_num hc.one'
  rwa [Array.toArray_toList] at this
 ·cases h
end
def smQ (q:Rat):Bool:=Nat.blt q.num.natAbs (4294967296 ^ 100) && Nat.blt q.den (4294967296 ^ 100)
theorem smQ_sound {q:Rat} (h:smQ q=true):RSm q 100:=by
 unfold smQ at h
 rw [Bool.and_eq_true] at h
 have h1:=Nat.le_of_ble_eq_true h.1
 have h2:=Nat.le_of_ble_eq_true h.2
 exact ⟨h1,by unfold Sm; rw [Int.natAbs_natCast]; exact h2⟩
def smZ (z:Int):Bool:=Nat.blt z.natAbs (4294967296 ^ 100)
theorem smZ_sound {z:Int} (h:smZ z=true):Sm z 100:=Nat.le_of_ble_eq_true h
def i64B (z:Int):Bool:=decide (-9223372036854775808≤z) && decide (z≤9223372036854775807)
theorem i64B_sound {z:Int} (h:i64B z=true) : -9223372036854775808≤z∧z≤9223372036854775807:=by
 unfold i64B at h
 rw [Bool.and_eq_true] at h
 exact ⟨of_decide_eq_true h.1,of_decide_eq_true h.2⟩
structure PE where
 f:Nat
 g:List AV→Option AV
def PE.ok (e:PE):Prop:=∀ xs r,e.g xs=some r→Plainly e.f∧∀ (ρ:Rho) (M:Nat→Prop) (w:World) (vs:List Value),(∀ b,M b→b<w.heap.size)→RVs ρ M w xs vs →
 Calls Tryz.prog e.f vs.toArray w fun e w'=>∃ v,e = .returned v∧RV ρ M w' r v∧Below w.heap.size w w'
def lkP:List PE→Nat→Option (List AV→Option AV)
 | [],_=>none
 | e :: l,f=>if Nat.beq e.f f then some e.g else lkP l f
def primOf (l:List PE):Prim:=fun f xs=>match lkP l f with
 | some g=>g xs
 | none=>none
theorem primOf_ok {l:List PE} (h:∀ e∈l,e.ok):PrimOK (primOf l):=by
 intro f xs r e
 unfold primOf at e
 split at e
 ·rename_i g hg
  have key:∀ l:List PE,(∀ e∈l,e.ok)→lkP l f=some g→∃ e∈l,e.f=f∧e.g=g:=by
   intro l
   induction l with
   | nil=>intro _ h; cases h
   | cons x r ih =>
    intro h hl
    unfold lkP at hl
    split at hl
    ·rename_i hb
     exact ⟨x,by simp,Nat.eq_of_beq_eq_true hb,Option.some.inj hl⟩
    ·obtain ⟨e,h1,h2⟩:=ih (fun e he=>h e (by simp [he])) hl
     exact ⟨e,by simp [h1],h2⟩
  obtain ⟨e0,h1,rfl,rfl⟩:=key l h hg
  exact h e0 h1 xs r e
 ·cases e
section
variable {f : Nat}
def r2 (g:Rat→Rat→Option AV):List AV→Option AV
 | [x,y]=>match asRat x,asRat y with
  | some a,some b=>if smQ a && smQ b then g a b else none
  | _,_=>none
 | _=>none
def r1 (g:Rat→Option AV):List AV→Option AV
 | [x]=>match asRat x with
  | some a=>if smQ a then g a else none
  | none=>none
 | _=>none
def z2 (g:Int→Int→Option AV):List AV→Option AV
 | [x,y]=>match asNum x,asNum y with
  | some a,some b=>if smZ a && smZ b then g a b else none
  | _,_=>none
 | _=>none
def z1 (g:Int→Option AV):List AV→Option AV
 | [x]=>match asNum x with
  | some a=>if smZ a then g a else none
  | none=>none
 | _=>none
def n1 (g:Int→Option AV):List AV→Option AV
 | [.val (.int .i64 z)]=>if i64B z then g z else none
 | _=>none
def n2 (g:Int→Int→Option AV):List AV→Option AV
 | [.val (.int .i64 y),.val (.int .i64 z)]=>if i64B y && i64B z then g y z else none
 | _=>none
theorem r2_ok {g:Rat→Rat→Option AV} (pl:Plainly f) (h:∀ a b r,RSm a 100→RSm b 100→g a b=some r→∀ ρ M w va vb,(ratF a).p va w→(ratF b).p vb w→∃ R:PF,Calls Tryz.prog f #[va,vb] w (GivesP R w)∧∀ v w',R.p v w'→RV ρ M w' r v):PE.ok ⟨f,r2 g⟩:=by
 intro xs r e
 change r2 g xs=some r at e
 refine ⟨pl,fun ρ M w vs _ hv=>?_⟩
 unfold r2 at e
 split at e
 ·rename_i x y
  split at e
  ·rename_i a b ha hb
   split at e
   ·rename_i hs
    rw [Bool.and_eq_true] at hs
    obtain ⟨va,_,rfl,h1,vb,_,rfl,h2,h3⟩:=hv
    have h3:_=[]:=h3
    subst h3
    obtain ⟨R,hc,hR⟩:=h a b r (smQ_sound hs.1) (smQ_sound hs.2) e ρ M w va vb (asRat_sound ha h1) (asRat_sound hb h2)
    exact Calls.mono hc fun e w' ⟨v,e1,e2,e3⟩=>⟨v,e1,hR v w' e2,e3⟩
   ·cases e
  ·cases e
 ·cases e
theorem r1_ok {g:Rat→Option AV} (pl:Plainly f) (h:∀ a r,RSm a 100→g a=some r→∀ ρ M w va,(ratF a).p va w→∃ R:PF,Calls Tryz.prog f #[va] w (GivesP R w)∧∀ v w',R.p v w'→RV ρ M w' r v):PE.ok ⟨f,r1 g⟩:=by
 intro xs r e
 change r1 g xs=some r at e
 refine ⟨pl,fun ρ M w vs _ hv=>?_⟩
 unfold r1 at e
 split at e
 ·rename_i x
  split at e
  ·rename_i a ha
   split at e
   ·rename_i hs
    obtain ⟨va,_,rfl,h1,h3⟩:=hv
    have h3:_=[]:=h3
    subst h3
    obtain ⟨R,hc,hR⟩:=h a r (smQ_sound hs) e ρ M w va (asRat_sound ha h1)
    exact Calls.mono hc fun e w' ⟨v,e1,e2,e3⟩=>⟨v,e1,hR v w' e2,e3⟩
   ·cases e
  ·cases e
 ·cases e
theorem z2_ok {g:Int→Int→Option AV} (pl:Plainly f) (h:∀ a b r,Sm a 100→Sm b 100→g a b=some r→∀ ρ M w va vb,(intF a).p va w→(intF b).p vb w→∃ R:PF,Calls Tryz.prog f #[va,vb] w (GivesP R w)∧∀ v w',R.p v w'→RV ρ M w' r v):PE.ok ⟨f,z2 g⟩:=by
 intro xs r e
 change z2 g xs=some r at e
 refine ⟨pl,fun ρ M w vs _ hv=>?_⟩
 unfold z2 at e
 split at e
 ·rename_i x y
  split at e
  ·rename_i a b ha hb
   split at e
   ·rename_i hs
    rw [Bool.and_eq_true] at hs
    obtain ⟨va,_,rfl,h1,vb,_,rfl,h2,h3⟩:=hv
    have h3:_=[]:=h3
    subst h3
    obtain ⟨R,hc,hR⟩:=h a b r (smZ_sound hs.1) (smZ_sound hs.2) e ρ M w va vb (asNum_sound ha h1) (asNum_sound hb h2)
    exact Calls.mono hc fun e w' ⟨v,e1,e2,e3⟩=>⟨v,e1,hR v w' e2,e3⟩
   ·cases e
  ·cases e
 ·cases e
theorem z1_ok {g:Int→Option AV} (pl:Plainly f) (h:∀ a r,Sm a 100→g a=some r→∀ ρ M w va,(intF a).p va w→∃ R:PF,Calls Tryz.prog f #[va] w (GivesP R w)∧∀ v w',R.p v w'→RV ρ M w' r v):PE.ok ⟨f,z1 g⟩:=by
 intro xs r e
 change z1 g xs=some r at e
 refine ⟨pl,fun ρ M w vs _ hv=>?_⟩
 unfold z1 at e
 split at e
 ·rename_i x
  split at e
  ·rename_i a ha
   split at e
   ·rename_i hs
    obtain ⟨va,_,rfl,h1,h3⟩:=hv
    have h3:_=[]:=h3
    subst h3
    obtain ⟨R,hc,hR⟩:=h a r (smZ_sound hs) e ρ M w va (asNum_sound ha h1)
    exact Calls.mono hc fun e w' ⟨v,e1,e2,e3⟩=>⟨v,e1,hR v w' e2,e3⟩
   ·cases e
  ·cases e
 ·cases e
theorem n1_ok {g:Int→Option AV} (pl:Plainly f) (h:∀ z r,-9223372036854775808≤z→z≤9223372036854775807→g z=some r→∀ ρ M w,∃ R:PF,Calls Tryz.prog f #[.int .i64 z] w (GivesP R w)∧∀ v w',R.p v w'→RV ρ M w' r v):PE.ok ⟨f,n1 g⟩:=by
 intro xs r e
 change n1 g xs=some r at e
 refine ⟨pl,fun ρ M w vs _ hv=>?_⟩
 unfold n1 at e
 split at e
 ·rename_i z
  split at e
  ·rename_i hs
   obtain ⟨va,_,rfl,h1,h3⟩:=hv
   have h3:_=[]:=h3
   have h1:va = .int .i64 z:=h1
   subst h3
   subst h1
   obtain ⟨R,hc,hR⟩:=h z r (i64B_sound hs).1 (i64B_sound hs).2 e ρ M w
   exact Calls.mono hc fun e w' ⟨v,e1,e2,e3⟩=>⟨v,e1,hR v w' e2,e3⟩
  ·cases e
 ·cases e
theorem n2_ok {g:Int→Int→Option AV} (pl:Plainly f) (h:∀ y z r,-9223372036854775808≤y→y≤9223372036854775807 → -9223372036854775808≤z→z≤9223372036854775807→g y z=some r→∀ ρ M w,∃ R:PF,Calls Tryz.prog f #[.int .i64 y,.int .i64 z] w (GivesP R w)∧∀ v w',R.p v w'→RV ρ M w' r v):PE.ok ⟨f,n2 g⟩:=by
 intro xs r e
 change n2 g xs=some r at e
 refine ⟨pl,fun ρ M w vs _ hv=>?_⟩
 unfold n2 at e
 split at e
 ·rename_i y z
  split at e
  ·rename_i hs
   rw [Bool.and_eq_true] at hs
   obtain ⟨va,_,rfl,h1,vb,_,rfl,h2,h3⟩:=hv
   have h3:_=[]:=h3
   have h1:va = .int .i64 y:=h1
   have h2:vb = .int .i64 z:=h2
   subst h3
   subst h1
   subst h2
   obtain ⟨R,hc,hR⟩:=h y z r (i64B_sound hs.1).1 (i64B_sound hs.1).2 (i64B_sound hs.2).1 (i64B_sound hs.2).2 e ρ M w
   exact Calls.mono hc fun e w' ⟨v,e1,e2,e3⟩=>⟨v,e1,hR v w' e2,e3⟩
  ·cases e
 ·cases e
end
theorem val_in {ρ:Rho} {M:Nat→Prop} {w:World} {u v:Value} (h:(eqF u).p v w):RV ρ M w (.val u) v:=h
theorem tupQ_in {ρ:Rho} {M:Nat→Prop} {w:World} {q:Rat} {u v:Value} (h:(tup2F (ratF q) (eqF u)).p v w):RV ρ M w (.tup [.rat q,.val u]) v:=by
 obtain ⟨a,b,rfl,h1,h2⟩:=h
 exact ⟨_,rfl,a,_,rfl,rat_in h1,b,_,rfl,h2,rfl⟩
theorem tupP_in {ρ:Rho} {M:Nat→Prop} {w:World} {u v:Value} (h:(tup2F (pairF 0 0) (eqF u)).p v w):RV ρ M w (.tup [.agg [.num 0,.num 0],.val u]) v:=by
 obtain ⟨a,b,rfl,h1,h2⟩:=h
 exact ⟨_,rfl,a,_,rfl,pair_agg h1,b,_,rfl,h2,rfl⟩
def gDiv (a b:Rat):Option AV:=if b=0 then some (.tup [.agg [.num 0,.num 0],.val (.int .i64 3)]) else some (.tup [.rat (a / b),.val (.int .i64 0)])
noncomputable def pAddQ:PE:=⟨72,r2 fun a b=>some (.rat (a+b))⟩
noncomputable def pSubQ:PE:=⟨57,r2 fun a b=>some (.rat (a - b))⟩
noncomputable def pMulQ:PE:=⟨58,r2 fun a b=>some (.rat (a*b))⟩
noncomputable def pDivQ:PE:=⟨99,r2 gDiv⟩
noncomputable def pCmpQ:PE:=⟨84,r2 fun a b=>some (.val (.int .i64 (cmpR a b)))⟩
noncomputable def pSignQ:PE:=⟨100,r1 fun a=>some (.val (.int .i64 (cmpR a 0)))⟩
noncomputable def pNegQ:PE:=⟨102,r1 fun a=>some (.rat (-a))⟩
noncomputable def pWholeQ:PE:=⟨63,n1 fun z=>some (.rat (z:Rat))⟩
noncomputable def pAddP:PE:=⟨40,r2 fun a b=>some (.rat (a+b))⟩
noncomputable def pSubP:PE:=⟨81,r2 fun a b=>some (.rat (a - b))⟩
noncomputable def pMulP:PE:=⟨42,r2 fun a b=>some (.rat (a*b))⟩
noncomputable def pDivP:PE:=⟨105,r2 gDiv⟩
noncomputable def pCmpP:PE:=⟨32,r2 fun a b=>some (.val (.int .i64 (cmpR a b)))⟩
noncomputable def pSignP:PE:=⟨48,r1 fun a=>some (.val (.int .i64 (cmpR a 0)))⟩
noncomputable def pNegP:PE:=⟨41,r1 fun a=>some (.rat (-a))⟩
noncomputable def pWholeP:PE:=⟨39,n1 fun z=>some (.rat (z:Rat))⟩
noncomputable def pMadeP:PE:=⟨50,n2 fun y z=>if z=0 then none else some (.rat (Rat.divInt y z))⟩
noncomputable def pValidZ:PE:=⟨111,z1 fun _=>some (.val (.bool true))⟩
noncomputable def pSignZ:PE:=⟨112,z1 fun a=>some (.val (.int .i64 a.sign))⟩
noncomputable def pGcdZ:PE:=⟨114,z2 fun a b=>some (.num ((Int.gcd a b:Nat):Int))⟩
noncomputable def pOneZ:PE:=⟨113,z1 fun a=>some (.val (.bool (decide (a=1))))⟩
noncomputable def pLenB:PE:=⟨120,fun xs=>match xs with | [.val (.int .u64 z)]=>if decide (0≤z) && decide (z≤18446744073709551615) then some (.val (.int .i64 (Lib.bitLen z.toNat))) else none | _=>none⟩
section
theorem pAddQ_ok:pAddQ.ok:=r2_ok (fun _ _=>by simp [go_sem]) fun a b r sa sb e ρ M w va vb ha hb=>by cases e; exact ⟨_,kQAdd ha hb sa sb (by decide) (by decide),fun v w' h=>(rat_in h).rv⟩
theorem pSubQ_ok:pSubQ.ok:=r2_ok (fun _ _=>by simp [go_sem]) fun a b r sa sb e ρ M w va vb ha hb=>by cases e; exact ⟨_,kQSub ha hb sa sb (by decide) (by decide),fun v w' h=>(rat_in h).rv⟩
theorem pMulQ_ok:pMulQ.ok:=r2_ok (fun _ _=>by simp [go_sem]) fun a b r sa sb e ρ M w va vb ha hb=>by cases e; exact ⟨_,kQMul ha hb sa sb (by decide) (by decide),fun v w' h=>(rat_in h).rv⟩
theorem pDivQ_ok:pDivQ.ok:=r2_ok (fun _ _=>by simp [go_sem]) fun a b r sa sb e ρ M w va vb ha hb=>by
 unfold gDiv at e
 split at e
 ·rename_i h0
  cases e
  exact ⟨_,kQDiv0 ha hb sa sb (by decide) (by decide) h0,fun v w' h=>tupP_in h⟩
 ·rename_i h0
  cases e
  exact ⟨_,kQDiv ha hb sa sb (by decide) (by decide) h0,fun v w' h=>tupQ_in h⟩
theorem pCmpQ_ok:pCmpQ.ok:=r2_ok (fun _ _=>by simp [go_sem]) fun a b r sa sb e ρ M w va vb ha hb=>by cases e; exact ⟨_,kQCmp ha hb sa sb (by decide) (by decide),fun v w' h=>val_in h⟩
theorem pSignQ_ok:pSignQ.ok:=r1_ok (fun _ _=>by simp [go_sem]) fun a r sa e ρ M w va ha=>by cases e; exact ⟨_,kQSign ha sa (by decide),fun v w' h=>val_in h⟩
theorem pNegQ_ok:pNegQ.ok:=r1_ok (fun _ _=>by simp [go_sem]) fun a r sa e ρ M w va ha=>by cases e; exact ⟨_,kQNeg ha sa (by decide),fun v w' h=>(rat_in h).rv⟩
theorem pWholeQ_ok:pWholeQ.ok:=n1_ok (fun _ _=>by simp [go_sem]) fun z r h0 h1 e ρ M w=>by cases e; exact ⟨_,kQWhole z h0 h1 rfl,fun v w' h=>(rat_in h).rv⟩
theorem pAddP_ok:pAddP.ok:=r2_ok (fun _ _=>by simp [go_sem]) fun a b r sa sb e ρ M w va vb ha hb=>by cases e; exact ⟨_,kPAdd ha hb sa sb (by decide) (by decide),fun v w' h=>(rat_in h).rv⟩
theorem pSubP_ok:pSubP.ok:=r2_ok (fun _ _=>by simp [go_sem]) fun a b r sa sb e ρ M w va vb ha hb=>by cases e; exact ⟨_,kPSub ha hb sa sb (by decide) (by decide),fun v w' h=>(rat_in h).rv⟩
theorem pMulP_ok:pMulP.ok:=r2_ok (fun _ _=>by simp [go_sem]) fun a b r sa sb e ρ M w va vb ha hb=>by cases e; exact ⟨_,kPMul ha hb sa sb (by decide) (by decide),fun v w' h=>(rat_in h).rv⟩
theorem pDivP_ok:pDivP.ok:=r2_ok (fun _ _=>by simp [go_sem]) fun a b r sa sb e ρ M w va vb ha hb=>by
 unfold gDiv at e
 split at e
 ·rename_i h0
  cases e
  exact ⟨_,kPDiv0 ha hb sa sb (by decide) (by decide) h0,fun v w' h=>tupP_in h⟩
 ·rename_i h0
  cases e
  exact ⟨_,kPDiv ha hb sa sb (by decide) (by decide) h0,fun v w' h=>tupQ_in h⟩
theorem pCmpP_ok:pCmpP.ok:=r2_ok (fun _ _=>by simp [go_sem]) fun a b r sa sb e ρ M w va vb ha hb=>by cases e; exact ⟨_,kPCmp ha hb sa sb (by decide) (by decide),fun v w' h=>val_in h⟩
theorem pSignP_ok:pSignP.ok:=r1_ok (fun _ _=>by simp [go_sem]) fun a r sa e ρ M w va ha=>by cases e; exact ⟨_,kPSign ha sa (by decide),fun v w' h=>val_in h⟩
theorem pNegP_ok:pNegP.ok:=r1_ok (fun _ _=>by simp [go_sem]) fun a r sa e ρ M w va ha=>by cases e; exact ⟨_,kPNeg ha sa (by decide),fun v w' h=>(rat_in h).rv⟩
theorem pWholeP_ok:pWholeP.ok:=n1_ok (fun _ _=>by simp [go_sem]) fun z r h0 h1 e ρ M w=>by cases e; exact ⟨_,kPWhole z h0 h1 rfl,fun v w' h=>(rat_in h).rv⟩
theorem pMadeP_ok:pMadeP.ok:=n2_ok (fun _ _=>by simp [go_sem]) fun y z r h0 h1 h2 h3 e ρ M w=>by
 split at e
 ·cases e
 ·rename_i hz
  cases e
  exact ⟨_,kPMade rfl rfl h0 h1 h2 h3 hz,fun v w' h=>(rat_in h).rv⟩
theorem pValidZ_ok:pValidZ.ok:=z1_ok (fun _ _=>by simp [go_sem]) fun a r sa e ρ M w va ha=>by cases e; exact ⟨_,kValid ha sa (by decide),fun v w' h=>val_in h⟩
theorem pSignZ_ok:pSignZ.ok:=z1_ok (fun _ _=>by simp [go_sem]) fun a r sa e ρ M w va ha=>by cases e; exact ⟨_,kSign ha sa (by decide),fun v w' h=>val_in h⟩
theorem pGcdZ_ok:pGcdZ.ok:=z2_ok (fun _ _=>by simp [go_sem]) fun a b r sa sb e ρ M w va vb ha hb=>by cases e; exact ⟨_,kGcd ha hb sa sb (by decide) (by decide),fun v w' h=>(num_in h).rv⟩
theorem pOneZ_ok:pOneZ.ok:=z1_ok (fun _ _=>by simp [go_sem]) fun a r sa e ρ M w va ha=>by cases e; exact ⟨_,kOne ha sa (by decide),fun v w' h=>val_in h⟩
theorem pLenB_ok:pLenB.ok:=by
 intro xs r e
 refine ⟨fun _ _=>by simp [pLenB,go_sem],fun ρ M w vs _ hv=>?_⟩
 simp only [pLenB] at e
 split at e
 ·rename_i z
  split at e
  ·rename_i hc
   cases e
   rw [Bool.and_eq_true] at hc
   obtain ⟨va,_,rfl,h1,h3⟩:=hv
   have h3:_=[]:=h3
   have h1:va = .int .u64 z:=h1
   subst h3
   subst h1
   refine (Tryz.bits_Len z w (of_decide_eq_true hc.1) (of_decide_eq_true hc.2)).mono ?_
   rintro e w' ⟨rfl,rfl⟩
   exact ⟨_,rfl,rfl,Below.refl _ _⟩
  ·cases e
 ·cases e
end
noncomputable def primL:List PE:=[pAddQ,pMulQ,pSubQ,pCmpP,pSignQ,pSignP,pAddP,pMulP,pDivQ,pWholeQ,pWholeP,pCmpQ,pNegQ,pSubP,pDivP,pNegP,pMadeP,pValidZ,pSignZ,pGcdZ,pOneZ,pLenB]
theorem primL_mem:∀ e∈primL,PE.ok e:=fun e he=>by
 simp only [primL,List.mem_cons,List.not_mem_nil,or_false] at he
 rcases he with rfl | rfl | rfl | rfl | rfl | rfl | rfl | rfl | rfl | rfl | rfl | rfl | rfl | rfl | rfl | rfl | rfl | rfl | rfl | rfl | rfl | rfl
 ·exact pAddQ_ok
 ·exact pMulQ_ok
 ·exact pSubQ_ok
 ·exact pCmpP_ok
 ·exact pSignQ_ok
 ·exact pSignP_ok
 ·exact pAddP_ok
 ·exact pMulP_ok
 ·exact pDivQ_ok
 ·exact pWholeQ_ok
 ·exact pWholeP_ok
 ·exact pCmpQ_ok
 ·exact pNegQ_ok
 ·exact pSubP_ok
 ·exact pDivP_ok
 ·exact pNegP_ok
 ·exact pMadeP_ok
 ·exact pValidZ_ok
 ·exact pSignZ_ok
 ·exact pGcdZ_ok
 ·exact pOneZ_ok
 ·exact pLenB_ok
theorem primL_ok:PrimOK (primOf primL):=primOf_ok primL_mem
end Go.Proofs.YtgaehhapjnbieaaGreat
namespace Go.Proofs.YtgaehhapjnbieaaGreat
open Go.RowKit
noncomputable def plainL:List Nat:=[66,67,107,20,30,80,13,37,83,33,15,18,28,24,77,46,26,79,35,44,22,52,38,64,93,109,76,71,108,62,91,95,56,68,92,65,94,55,6,5,7,3,9,4,8,43,11,12,10,21,96,31,14,17,34,16,19,49,60,53,29,25,75,59,45,70,47,51,27,36,23,97,74,73,61,69,78,85,54,82]
theorem plainL_ok:∀ f∈plainL,Plainly f:=fun f h=>by
 simp only [plainL,List.mem_cons,List.not_mem_nil,or_false] at h
 rcases h with rfl | rfl | rfl | rfl | rfl | rfl | rfl | rfl | rfl | rfl | rfl | rfl | rfl | rfl | rfl | rfl | rfl | rfl | rfl | rfl | rfl | rfl | rfl | rfl | rfl | rfl | rfl | rfl | rfl | rfl | rfl | rfl | rfl | rfl | rfl | rfl | rfl | rfl | rfl | rfl | rfl | rfl | rfl | rfl | rfl | rfl | rfl | rfl | rfl | rfl | rfl | rfl | rfl | rfl | rfl | rfl | rfl | rfl | rfl | rfl | rfl | rfl | rfl | rfl | rfl | rfl | rfl | rfl | rfl | rfl | rfl | rfl | rfl | rfl | rfl | rfl | rfl | rfl | rfl | rfl
 all_goals exact fun _ _=>by simp [go_sem]
end Go.Proofs.YtgaehhapjnbieaaGreat
namespace Go.Proofs.YtgaehhapjnbieaaGreat
open Go.RowKit
structure VL where
 z:Nat→Int
 l:Nat→List Rat
 q:Nat→Rat
 r:Nat→List (Option Rat)
abbrev CE.i (k:Nat) (c:Int):CE:=.ap 1 (.v k) (.lit c)
def zD (V:VL):CE→Int
 | .ap 1 (.v k) (.lit c)=>V.z k+c
 | .ap 2 (.v k) (.lit c)=>((V.l k).getD c.toNat 0).num
 | _=>0
def trimC (l:List Rat):List Rat:=(l.reverse.dropWhile (fun x=>decide (x=0))).reverse
def addC (a b:List Rat):List Rat:=trimC ((List.range (max a.length b.length)).map fun i=>a.getD i 0+b.getD i 0)
def subC (a b:List Rat):List Rat:=trimC ((List.range (max a.length b.length)).map fun i=>a.getD i 0 - b.getD i 0)
def scaleC (a:List Rat) (c:Rat):List Rat:=trimC (a.map fun x=>c*x)
def diffC (a:List Rat):List Rat:=trimC ((List.range (a.length - 1)).map fun i=>(((i+1:Nat):Int):Rat)*a.getD (i+1) 0)
def innR (R:List Rat) (x:Rat) (b:List Rat) (i:Nat):Nat→List Rat
 | 0=>R
 | j+1=>(innR R x b i j).set (i+j) ((innR R x b i j).getD (i+j) 0+x*b.getD j 0)
def outR (a b:List Rat):Nat→List Rat
 | 0=>List.replicate (a.length+b.length - 1) 0
 | i+1=>innR (outR a b i) (a.getD i 0) b i b.length
def mulL (a b:List Rat):List Rat:=if a=[] ∨ b=[] then [] else outR a b a.length
def evalC (a:List Rat) (x:Rat):Rat:=a.foldr (fun c y=>y*x+c) 0
def shiftC:List Rat→Rat→List Rat
 | [],_=>[]
 | a :: l,c =>
  let s:=shiftC l c
  (List.range (s.length+1)).map fun i=>(if i=0 then a else 0)+(if i=0 then 0 else s.getD (i - 1) 0)+c*s.getD i 0
mutual
def lD (V:VL):CE→List Rat
 | .v k=>V.l k
 | .ap 20 e i=>(lD V e).take (zD V i).toNat
 | .ap 70 e _=>trimC (lD V e)
 | .ap 71 a b=>addC (lD V a) (lD V b)
 | .ap 72 a b=>subC (lD V a) (lD V b)
 | .ap 73 a b=>mulL (lD V a) (lD V b)
 | .ap 74 a c=>scaleC (lD V a) (qD V c)
 | .ap 75 a _=>diffC (lD V a)
 | .ap 76 a c=>trimC (shiftC (lD V a) (qD V c))
 | .ap 77 e _=>(lD V e).take ((lD V e).length / 2)
 | .ap 80 q e=>qD V q :: lD V e
 | _=>[]
def qD (V:VL):CE→Rat
 | .v k=>V.q k
 | .ap 30 e i=>(lD V e).getD (zD V i).toNat 0
 | .ap 31 a b=>qD V a+qD V b
 | .ap 32 a b=>qD V a - qD V b
 | .ap 33 a b=>qD V a*qD V b
 | .ap 34 a _=>-qD V a
 | .ap 35 r i=>((rD V r).getD (zD V i).toNat none).getD 0
 | .ap 36 (.lit n) (.lit d)=>mkRat n d.toNat
 | .ap 37 i _=>((zD V i:Int):Rat)
 | .ap 38 e x=>evalC (lD V e) (qD V x)
 | .ap 39 i j=>if zD V j=0 then (zD V i:Rat) else Rat.divInt (zD V i) (zD V j)
 | _=>0
def rD (V:VL):CE→List (Option Rat)
 | .v k=>V.r k
 | .ap 40 n _=>List.replicate (zD V n).toNat none
 | .ap 41 r (.ap 0 i (.ap 52 q _))=>(rD V r).set (zD V i).toNat (some (qD V q))
 | .ap 42 e _=>(lD V e).map some
 | .ap 45 r i=>(rD V r).drop (zD V i).toNat
 | _=>[]
end
def OptCells (w:World):List (Option Rat)→List Value→Prop
 | [],cs=>cs=[]
 | some q :: l,cs=>∃ a b c d r,cs=a :: b :: c :: d :: r∧IntAt w (.agg #[a,b]) q.num∧IntAt w (.agg #[c,d]) (q.den:Int)∧OptCells w l r
 | none :: l,cs=>∃ r,cs = .bool false :: .slice none 0 0 :: .bool false :: .slice none 0 0 :: r∧OptCells w l r
theorem OptCells.grow {w w':World} (h:Grow w w'):∀ {l:List (Option Rat)} {cs:List Value},OptCells w l cs→OptCells w' l cs
 | [],_,r=>r
 | some _ :: _,_,⟨a,b,c,d,r,e,h1,h2,h3⟩=>⟨a,b,c,d,r,e,h1.grow h,h2.grow h,OptCells.grow h h3⟩
 | none :: _,_,⟨r,e,h3⟩=>⟨r,e,OptCells.grow h h3⟩
theorem int_sh {w:World} {x y:Value} {z:Int} (h:IntAt w (.agg #[x,y]) z):∃ b A k c,x = .bool b∧y = .slice A k c:=by
 obtain ⟨s,e,A,c,e2,_⟩:=h
 simp only [Value.agg.injEq] at e
 have e:=congrArg Array.toList e
 simp only [List.cons.injEq] at e
 exact ⟨_,_,_,_,e.1,e.2.1.trans e2⟩
theorem int_one {w:World} {x y:Value} {z:Int} (h:IntAt w (.agg #[x,y]) z):x.oneCell'=true∧y.oneCell'=true:=by
 obtain ⟨b,A,k,c,rfl,rfl⟩:=int_sh h
 exact ⟨rfl,rfl⟩
theorem OptCells.one {w:World}:∀ {l:List (Option Rat)} {cs:List Value},OptCells w l cs→∀ v∈cs,v.oneCell'=true
 | [],_,h,v,hv=>by have h:_=[]:=h; subst h; cases hv
 | some _ :: _,_,⟨a,b,c,d,r,e,h1,h2,h3⟩,v,hv=>by
  subst e
  simp only [List.mem_cons] at hv
  rcases hv with rfl | rfl | rfl | rfl | hv
  ·exact (int_one h1).1
  ·exact (int_one h1).2
  ·exact (int_one h2).1
  ·exact (int_one h2).2
  ·exact OptCells.one h3 v hv
 | none :: _,_,⟨r,e,h3⟩,v,hv=>by
  subst e
  simp only [List.mem_cons] at hv
  rcases hv with rfl | rfl | rfl | rfl | hv
  ·rfl
  ·rfl
  ·rfl
  ·rfl
  ·exact OptCells.one h3 v hv
theorem OptCells.len {w:World}:∀ {l:List (Option Rat)} {cs:List Value},OptCells w l cs→cs.length=4*l.length
 | [],_,h=>by have h:_=[]:=h; subst h; rfl
 | some _ :: _,_,⟨a,b,c,d,r,e,h1,h2,h3⟩=>by subst e; simp [OptCells.len h3]; omega
 | none :: _,_,⟨r,e,h3⟩=>by subst e; simp [OptCells.len h3]; omega
theorem ratCells_grow {w w':World} (h:Grow w w'):∀ {l:List Rat} {cs:List Value},RatCells w l cs→RatCells w' l cs
 | [],_,r=>r
 | _ :: _,_,⟨a,b,c,d,r,e,h1,h2,h3⟩=>⟨a,b,c,d,r,e,h1.grow h,h2.grow h,ratCells_grow h h3⟩
def XP.int (z:Int):XP:=⟨fun _ _ cs=>cs=[.int .i64 z],fun _ _ _ _ _ _ _ _ h=>h,fun _ _ _ h v hv=>by subst h; rw [List.mem_singleton] at hv; subst hv; rfl⟩
def XP.rats (l:List Rat):XP:=⟨fun M w cs=>∃ A c,cs=[.slice A l.length c]∧l.length≤c∧(l.length≠0→∃ g off xs,A=some ⟨g,off,none⟩ ∧ ¬ M g∧g<w.heap.size∧w.rangeAt g off xs∧RatCells w l xs),
 fun M M' w w' cs hg hk hm ⟨A,c,e,h1,h2⟩=>⟨A,c,e,h1,fun h0=>by
  obtain ⟨g,off,xs,e1,m,s,ra,rc⟩:=h2 h0
  exact ⟨g,off,xs,e1,fun k=>m (hm g s k),Nat.lt_of_lt_of_le s hg.size,fun j v e=>(World.cell?_of_block (w:=w) (hk g s m)).trans (ra j v e),ratCells_grow hg rc⟩⟩,
 fun _ _ _ ⟨_,_,e,_⟩ v hv=>by subst e; rw [List.mem_singleton] at hv; subst hv; rfl⟩
def XP.num (q:Rat) (n:Nat):XP:=⟨fun _ w cs=>RSm q n∧∃ a b c d,cs=[a,b,c,d]∧IntAt w (.agg #[a,b]) q.num∧IntAt w (.agg #[c,d]) (q.den:Int),
 fun _ _ _ _ _ hg _ _ ⟨s,a,b,c,d,e,h1,h2⟩=>⟨s,a,b,c,d,e,h1.grow hg,h2.grow hg⟩,
 fun _ _ _ ⟨_,a,b,c,d,e,h1,h2⟩ v hv=>by
  subst e
  simp only [List.mem_cons,List.not_mem_nil,or_false] at hv
  rcases hv with rfl | rfl | rfl | rfl
  ·exact (int_one h1).1
  ·exact (int_one h1).2
  ·exact (int_one h2).1
  ·exact (int_one h2).2⟩
def XP.zi (z:Int) (n:Nat):XP:=⟨fun _ w cs=>Sm z n∧∃ a b,cs=[a,b]∧IntAt w (.agg #[a,b]) z,
 fun _ _ _ _ _ hg _ _ ⟨s,a,b,e,h1⟩=>⟨s,a,b,e,h1.grow hg⟩,
 fun _ _ _ ⟨_,a,b,e,h1⟩ v hv=>by
  subst e
  simp only [List.mem_cons,List.not_mem_nil,or_false] at hv
  rcases hv with rfl | rfl
  ·exact (int_one h1).1
  ·exact (int_one h1).2⟩
def XP.i8 (z:Int):XP:=⟨fun _ _ cs=>cs=[.int .i8 z] ∧ -128≤z∧z≤127,fun _ _ _ _ _ _ _ _ h=>h,fun _ _ _ h v hv=>by obtain ⟨rfl,_⟩:=h; rw [List.mem_singleton] at hv; subst hv; rfl⟩
def XP.i64b (z:Int):XP:=⟨fun _ _ cs=>cs=[.int .i64 z] ∧ -128≤z∧z≤127,fun _ _ _ _ _ _ _ _ h=>h,fun _ _ _ h v hv=>by obtain ⟨rfl,_⟩:=h; rw [List.mem_singleton] at hv; subst hv; rfl⟩
def XP.prs (l:List Rat):XP:=⟨fun M w cs=>∃ A c,cs=[.slice A (l.length / 2) c]∧l.length / 2≤c∧(∀ q∈l,-128≤q.num∧q.num≤127)∧(l.length / 2≠0→∃ g off,A=some ⟨g,off,none⟩ ∧ ¬ M g∧g<w.heap.size∧w.rangeAt g off (l.map fun q=>.int .i8 q.num)),
 fun M M' w w' cs hg hk hm ⟨A,c,e,h1,h3,h2⟩=>⟨A,c,e,h1,h3,fun h0=>by
  obtain ⟨g,off,e1,m,s,ra⟩:=h2 h0
  exact ⟨g,off,e1,fun k=>m (hm g s k),Nat.lt_of_lt_of_le s hg.size,fun j v e=>(World.cell?_of_block (w:=w) (hk g s m)).trans (ra j v e)⟩⟩,
 fun _ _ _ ⟨_,_,e,_⟩ v hv=>by subst e; rw [List.mem_singleton] at hv; subst hv; rfl⟩
def XP.row (r:List (Option Rat)):XP:=⟨fun _ w cs=>OptCells w r cs,fun _ _ _ _ _ hg _ _ h=>h.grow hg,fun _ _ _ h=>h.one⟩
def XP.no:XP:=⟨fun _ _ _=>False,fun _ _ _ _ _ _ _ _ h=>h,fun _ _ _ h=>h.elim⟩
def xD (V:VL):CE→XP
 | .ap 50 i _=>.int (zD V i)
 | .ap 51 e _=>.rats (lD V e)
 | .ap 52 q (.lit n)=>.num (qD V q) n.toNat
 | .ap 53 q _=>.int (cmpR (qD V q) 0)
 | .ap 54 q (.lit n)=>.zi ((qD V q).den:Int) n.toNat
 | .ap 58 q (.lit n)=>.zi (qD V q).num n.toNat
 | .ap 55 i _=>.i8 (zD V i)
 | .ap 56 e _=>.prs (lD V e)
 | .ap 57 i _=>.i64b (zD V i)
 | _=>.no
def bD (V:VL):CE→XP
 | .ap 60 r _=>.row (rD V r)
 | _=>.no
def nD (V:VL):CE→Nat
 | .ap 61 i _=>(zD V i).toNat
 | _=>0
def jD (V:VL):CE→Nat
 | .ap 62 i _=>4*(zD V i).toNat
 | _=>0
@[reducible] def envD (V:VL):Env:=⟨xD V,bD V,nD V,jD V⟩
abbrev aI (k:Nat) (c:Int):AV:=.ext 1 false (.ap 50 (.i k c) (.lit 0))
abbrev aL (e:CE):AV:=.ext 1 false (.ap 51 e (.lit 0))
abbrev aQ (q:CE) (n:Nat):AV:=.ext 4 true (.ap 52 q (.lit (n:Int)))
abbrev aS (q:CE):AV:=.ext 1 false (.ap 53 q (.lit 0))
structure Fa where
 le:List (Nat × Nat × Int)
 len:List (CE × Nat × Int)
 bd:List (CE × Nat)
 zr:List (CE × Bool)
 rlen:List (CE × Nat × Int)
 full:List (CE × Nat)
 sum:List (Nat × Nat × Nat)
structure FaOK (V:VL) (F:Fa):Prop where
 z0:V.z 0=0
 sm:∀ k,-1152921504606846976≤V.z k∧V.z k≤1152921504606846976
 le:∀ x∈F.le,V.z x.1≤V.z x.2.1+x.2.2
 len:∀ x∈F.len,((lD V x.1).length:Int)=V.z x.2.1+x.2.2
 bd:∀ x∈F.bd,∀ y∈lD V x.1,RSm y x.2
 zr:∀ x∈F.zr,decide (qD V x.1=0)=x.2
 rlen:∀ x∈F.rlen,((rD V x.1).length:Int)=V.z x.2.1+x.2.2
 full:∀ x∈F.full,∀ y∈rD V x.1,∃ q,y=some q∧RSm q x.2
 sum:∀ x∈F.sum,V.z x.1+V.z x.2.1=V.z x.2.2
def leI (F:Fa) (x y:Nat × Int):Bool:=(Nat.beq x.1 y.1 && decide (x.2≤y.2)) || F.le.any fun f=>Nat.beq f.1 x.1 && Nat.beq f.2.1 y.1 && decide (f.2.2+x.2≤y.2)
def iD (V:VL) (x:Nat × Int):Int:=V.z x.1+x.2
theorem leI_sound {V:VL} {F:Fa} (hF:FaOK V F) {x y:Nat × Int} (h:leI F x y=true):iD V x≤iD V y:=by
 unfold leI at h
 unfold iD
 rw [Bool.or_eq_true] at h
 rcases h with h | h
 ·rw [Bool.and_eq_true] at h
  have e:=Nat.eq_of_beq_eq_true h.1
  have:=of_decide_eq_true h.2
  rw [e]
  omega
 ·obtain ⟨f,hf,h⟩:=List.any_eq_true.1 h
  rw [Bool.and_eq_true,Bool.and_eq_true] at h
  have e1:=Nat.eq_of_beq_eq_true h.1.1
  have e2:=Nat.eq_of_beq_eq_true h.1.2
  have e3:=of_decide_eq_true h.2
  have:=hF.le f hf
  rw [e1,e2] at this
  omega
def lkC {α:Type}:List (CE × α)→CE→Option α
 | [],_=>none
 | x :: r,e=>if CE.beq x.1 e then some x.2 else lkC r e
theorem lkC_mem {α:Type}:∀ {l:List (CE × α)} {e:CE} {a:α},lkC l e=some a→(e,a)∈l
 | [],_,_,h=>by cases h
 | x :: r,e,a,h=>by
  unfold lkC at h
  split at h
  ·rename_i hb
   have:=CE.beq_eq hb
   cases h
   rw [← this]
   exact List.mem_cons_self ..
  ·exact List.mem_cons_of_mem _ (lkC_mem h)
def intA:AV→Option (Nat × Int)
 | .val (.int .i64 c)=>some (0,c)
 | .ext 1 false (.ap 50 (.ap 1 (.v k) (.lit c)) _)=>some (k,c)
 | _=>none
section
variable {V : VL} {F : Fa} {ρ : Rho} {M : Nat → Prop} {w : World}
theorem intA_sound (hF:FaOK V F) {a:AV} {x:Nat × Int} {v:Value} (h:intA a=some x) (hv:@RV1 (envD V) ρ M w a v):v = .int .i64 (iD V x):=by
 unfold intA at h
 split at h
 ·cases h
  have hv:v = .int .i64 _:=hv
  rw [hv]
  unfold iD
  simp [hF.z0]
 ·cases h
  have hv:@Rp (envD V) ρ M w _ [v]:=hv
  unfold Rp at hv
  exact (List.cons.inj hv.2).1
 ·cases h
theorem aI_in {k:Nat} {c:Int} {v:Value} (h:v = .int .i64 (V.z k+c)):@RV1 (envD V) ρ M w (aI k c) v:=by
 show @Rp (envD V) ρ M w (aI k c) [v]
 unfold Rp
 exact ⟨rfl,by rw [h]; rfl⟩
theorem aL_out {e d:CE} {v:Value} (h:@RV1 (envD V) ρ M w (.ext 1 false (.ap 51 e d)) v):(XP.rats (lD V e)).p M w [v]:=by
 have h:@Rp (envD V) ρ M w (.ext 1 false (.ap 51 e d)) [v]:=h
 unfold Rp at h
 exact h.2
theorem aL_in {e:CE} {v:Value} (h:(XP.rats (lD V e)).p M w [v]):@RV1 (envD V) ρ M w (aL e) v:=by
 show @Rp (envD V) ρ M w (aL e) [v]
 unfold Rp
 exact ⟨rfl,h⟩
theorem aQ_out {q:CE} {n:Nat} {v:Value} (h:@RV1 (envD V) ρ M w (aQ q n) v):(ratF (qD V q)).p v w∧RSm (qD V q) n:=by
 obtain ⟨cs,rfl,h⟩:=h
 unfold Rp at h
 obtain ⟨_,s,a,b,c,d,e,h1,h2⟩:=h
 obtain ⟨x,A,k,y,rfl,rfl⟩:=int_sh h1
 obtain ⟨x',A',k',y',rfl,rfl⟩:=int_sh h2
 refine ⟨⟨x,A,k,y,x',A',k',y',?_,h1,h2⟩,by simpa using s⟩
 congr 1
 apply Array.ext'
 exact e
theorem aQ_in {q:CE} {n:Nat} {v:Value} (h:(ratF (qD V q)).p v w) (s:RSm (qD V q) n):@RV1 (envD V) ρ M w (aQ q n) v:=by
 obtain ⟨b,A,k,c,b',A',k',c',rfl,h1,h2⟩:=h
 refine ⟨_,rfl,?_⟩
 unfold Rp
 exact ⟨rfl,by simpa using s,_,_,_,_,rfl,h1,h2⟩
end
end Go.Proofs.YtgaehhapjnbieaaGreat
namespace Go.Proofs.YtgaehhapjnbieaaGreat
open Go.RowKit
def smI (c:Int):Bool:=decide (-1152921504606846976≤c) && decide (c≤1152921504606846976)
def mkI (x:Nat × Int):AV:=if Nat.beq x.1 0 then .val (.int .i64 x.2) else aI x.1 x.2
def leB (F:Fa) (x y:Nat × Int):Option Bool:=if leI F x y then some true else if leI F (y.1,y.2+1) x then some false else none
def sumC:List (Nat × Nat × Nat)→Nat→Nat→Option Nat
 | [],_,_=>none
 | x :: r,a,b=>if Nat.beq x.1 a && Nat.beq x.2.1 b then some x.2.2 else sumC r a b
def difC:List (Nat × Nat × Nat)→Nat→Nat→Option Nat
 | [],_,_=>none
 | x :: r,a,b=>if Nat.beq x.2.2 a && Nat.beq x.1 b then some x.2.1 else difC r a b
theorem sumC_mem {a b c:Nat}:∀ {l:List (Nat × Nat × Nat)},sumC l a b=some c→(a,b,c)∈l
 | [],h=>by cases h
 | x :: r,h=>by
  unfold sumC at h
  split at h
  ·rename_i e
   rw [Bool.and_eq_true] at e
   have e1:=Nat.eq_of_beq_eq_true e.1
   have e2:=Nat.eq_of_beq_eq_true e.2
   cases h
   rw [← e1,← e2]
   exact List.mem_cons_self ..
  ·exact List.mem_cons_of_mem _ (sumC_mem h)
theorem difC_mem {a b c:Nat}:∀ {l:List (Nat × Nat × Nat)},difC l a b=some c→(b,c,a)∈l
 | [],h=>by cases h
 | x :: r,h=>by
  unfold difC at h
  split at h
  ·rename_i e
   rw [Bool.and_eq_true] at e
   have e1:=Nat.eq_of_beq_eq_true e.1
   have e2:=Nat.eq_of_beq_eq_true e.2
   cases h
   rw [← e1,← e2]
   exact List.mem_cons_self ..
  ·exact List.mem_cons_of_mem _ (difC_mem h)
def binC (F:Fa) (o:BinOp) (x y:Nat × Int):Option AV:=match o with
 | .add=>if Nat.beq y.1 0 && smI (x.2+y.2) then some (mkI (x.1,x.2+y.2)) else if Nat.beq x.1 0 && smI (x.2+y.2) then some (mkI (y.1,x.2+y.2)) else if smI (x.2+y.2) then (sumC F.sum x.1 y.1).map fun c=>mkI (c,x.2+y.2) else none
 | .sub=>if Nat.beq y.1 0 && smI (x.2 - y.2) then some (mkI (x.1,x.2 - y.2)) else if Nat.beq x.1 y.1 && smI (x.2 - y.2) then some (.val (.int .i64 (x.2 - y.2))) else if smI (x.2 - y.2) then (difC F.sum x.1 y.1).map fun c=>mkI (c,x.2 - y.2) else none
 | .lss=>(leB F y x).map fun b=>.val (.bool (!b))
 | .leq=>(leB F x y).map fun b=>.val (.bool b)
 | .gtr=>(leB F x y).map fun b=>.val (.bool (!b))
 | .geq=>(leB F y x).map fun b=>.val (.bool b)
 | .eql=>if leI F x y && leI F y x then some (.val (.bool true)) else if leI F (x.1,x.2+1) y || leI F (y.1,y.2+1) x then some (.val (.bool false)) else none
 | .neq=>if leI F x y && leI F y x then some (.val (.bool false)) else if leI F (x.1,x.2+1) y || leI F (y.1,y.2+1) x then some (.val (.bool true)) else none
 | _=>none
def sgC (F:Fa) (o:BinOp):AV→AV→Option AV
 | .ext 1 false (.ap 53 q _),.val (.int .i64 0)=>match o with
  | .eql=>(lkC F.zr q).map fun b=>.val (.bool b)
  | .neq=>(lkC F.zr q).map fun b=>.val (.bool (!b))
  | _=>none
 | _,_=>none
noncomputable def isSlice (T:TypeId):Bool:=match tyD T with
 | some (.slice _)=>true
 | _=>false
noncomputable def isRats (T:TypeId):Bool:=match tyD T with
 | some (.slice e)=>Nat.beq e 36
 | _=>false
noncomputable def lenX (F:Fa) (T:TypeId):AV→Option AV
 | .ext 1 false (.ap 51 e _)=>if isSlice T then (lkC F.len e).map mkI else none
 | .ext 1 false (.ap 56 e _)=>if isSlice T then (lkC F.len (.ap 77 e (.lit 0))).map mkI else none
 | .slx _ (.ap 61 (.ap 1 (.v k) (.lit c)) _)=>if isSlice T && leI F (0,0) (k,c) then some (mkI (k,c)) else none
 | _=>none
noncomputable def cutX (F:Fa) (T:TypeId) (x:AV) (h m:Nat × Int):Option AV:=if isRats T && Nat.beq h.1 m.1 && decide (h.2=m.2) && leI F (0,0) h then (match x with
 | .ext 1 false (.ap 51 e _)=>match lkC F.len e with
  | some n=>if leI F h n then some (aL (.ap 20 e (.i h.1 h.2))) else none
  | none=>none
 | .slx o (.ap 61 (.ap 1 (.v k) (.lit c)) _)=>if leI F h (k,c) then some (.slx o (.ap 61 (.i h.1 h.2) (.lit 0))) else none
 | _=>none) else none
noncomputable def idxX (F:Fa) (T:TypeId) (x:AV) (i:Nat × Int):Option AV:=match x with
 | .ext 1 false (.ap 51 e _)=>match lkC F.len e,lkC F.bd e with
  | some n,some b=>if isRats T && leI F (0,0) i && leI F (i.1,i.2+1) n then some (.rptr [aQ (.ap 30 e (.i i.1 i.2)) b]) else none
  | _,_=>none
 | _=>none
noncomputable def isPairs (T:TypeId):Bool:=match tyD T with
 | some (.slice e)=>(match tySz e with
  | some z=>Nat.beq z 2
  | none=>false)
 | _=>false
noncomputable def idxP (F:Fa) (T:TypeId) (x:AV) (i:Nat × Int):Option AV:=match x with
 | .ext 1 false (.ap 56 (.v k) _)=>(match lkC F.len (.ap 77 (.v k) (.lit 0)) with
  | some n=>if isPairs T && Nat.beq i.1 0 && leI F (0,0) i && leI F (i.1,i.2+1) n then some (.rptr [.ext 1 false (.ap 55 (.ap 2 (.v k) (.lit (2*i.2))) (.lit 0)),.ext 1 false (.ap 55 (.ap 2 (.v k) (.lit (2*i.2+1))) (.lit 0))]) else none
  | none=>none)
 | _=>none
noncomputable def cvX (T U:TypeId):AV→Option AV
 | .ext 1 false (.ap 55 i _)=>(match tyD T,tyD U with
  | some (.int .i8),some (.int .i64)=>some (.ext 1 false (.ap 57 i (.lit 0)))
  | _,_=>none)
 | _=>none
noncomputable def nilX (F:Fa) (o:BinOp) (T:TypeId):AV→AV→Option AV
 | .ext 1 false (.ap 51 e _),.val (.slice none _ _)=>(match lkC F.len e,o with
  | some n,.eql=>if isSlice T && leI F (0,1) n then some (.val (.bool false)) else none
  | some n,.neq=>if isSlice T && leI F (0,1) n then some (.val (.bool true)) else none
  | _,_=>none)
 | _,_=>none
noncomputable def pureX (F:Fa) (k:PK) (xs:List AV):Option AV:=match k,xs with
 | .bin o T _,[x,y]=>match intA x,intA y with
  | some a,some b=>binC F o a b
  | _,_=>(match nilX F o T x y with
   | some r=>some r
   | none=>sgC F o x y)
 | .blt .len [T],[x]=>lenX F T x
 | .blt .max [T,U],[x,y]=>match intA x,intA y with
  | some a,some b=>if Nat.beq T 3 && Nat.beq U 3 then (if leI F a b then some (mkI b) else if leI F b a then some (mkI a) else none) else none
  | _,_=>none
 | .slc T false true true,[x,h,m]=>match intA h,intA m with
  | some a,some b=>cutX F T x a b
  | _,_=>none
 | .slc T false true false,[x,h]=>match intA h with
  | some a=>cutX F T x a a
  | none=>none
 | .idx T,[x,i]=>match intA i with
  | some a=>(match idxX F T x a with
   | some r=>some r
   | none=>idxP F T x a)
  | none=>none
 | .conv T U,[x]=>cvX T U x
 | _,_=>none
section
variable {V : VL} {F : Fa} {ρ : Rho} {M : Nat → Prop} {w : World} {ρv : Operand → Value} {r : AV}
theorem wrap_sm {z:Int} (h1 : -9223372036854775808≤z) (h2:z≤9223372036854775807):IntKind.i64.wrap z=z:=by rw [IntKind.wrap_i64]; omega
theorem mkI_in (hF:FaOK V F) {x:Nat × Int}:@RV1 (envD V) ρ M w (mkI x) (.int .i64 (iD V x)):=by
 unfold mkI
 split
 ·rename_i h
  have h:=Nat.eq_of_beq_eq_true h
  show Value.int .i64 (iD V x) = .int .i64 x.2
  unfold iD
  rw [h,hF.z0,Int.zero_add]
 ·exact aI_in rfl
theorem leB_sound (hF:FaOK V F) {x y:Nat × Int} {b:Bool} (h:leB F x y=some b):decide (iD V x≤iD V y)=b:=by
 unfold leB at h
 split at h
 ·rename_i h1
  cases h
  exact decide_eq_true (leI_sound hF h1)
 ·split at h
  ·rename_i h1
   cases h
   have:=leI_sound hF h1
   refine decide_eq_false ?_
   unfold iD at *
   simp only [] at this
   omega
  ·cases h
theorem binC_sound (hF:FaOK V F) {o:BinOp} {x y:Nat × Int} (h:binC F o x y=some r):∃ v,binI o .i64 (iD V x) (iD V y)=some v ∧ @RV1 (envD V) ρ M w r v:=by
 have b1:=hF.sm x.1
 have b2:=hF.sm y.1
 have sm:∀ c,smI c=true → -1152921504606846976≤c∧c≤1152921504606846976:=fun c h=>by
  unfold smI at h
  rw [Bool.and_eq_true] at h
  exact ⟨of_decide_eq_true h.1,of_decide_eq_true h.2⟩
 have eqv:leI F x y=true→leI F y x=true→iD V x=iD V y:=fun h1 h2=>Int.le_antisymm (leI_sound hF h1) (leI_sound hF h2)
 have nev:(leI F (x.1,x.2+1) y || leI F (y.1,y.2+1) x)=true→iD V x≠iD V y:=fun h e=>by
  rw [Bool.or_eq_true] at h
  rcases h with h | h
  ·have:=leI_sound hF h
   unfold iD at *
   simp only [] at this
   omega
  ·have:=leI_sound hF h
   unfold iD at *
   simp only [] at this
   omega
 cases o <;> simp only [binC] at h <;> try (cases h; done)
 ·split at h
  ·rename_i hc
   rw [Bool.and_eq_true] at hc
   cases h
   have e:=Nat.eq_of_beq_eq_true hc.1
   have s:=sm _ hc.2
   refine ⟨_,rfl,?_⟩
   have hz:IntKind.i64.wrap (iD V x+iD V y)=iD V (x.1,x.2+y.2):=by
    unfold iD
    rw [e,hF.z0]
    rw [wrap_sm (by omega) (by omega)]
    simp only []
    omega
   rw [hz]
   exact mkI_in hF
  ·split at h
   ·rename_i hc
    rw [Bool.and_eq_true] at hc
    cases h
    have e:=Nat.eq_of_beq_eq_true hc.1
    have s:=sm _ hc.2
    refine ⟨_,rfl,?_⟩
    have hz:IntKind.i64.wrap (iD V x+iD V y)=iD V (y.1,x.2+y.2):=by
     unfold iD
     rw [e,hF.z0]
     rw [wrap_sm (by omega) (by omega)]
     simp only []
     omega
    rw [hz]
    exact mkI_in hF
   ·split at h
    ·rename_i hc
     obtain ⟨c,hc2,rfl⟩:=Option.map_eq_some_iff.1 h
     have s:=sm _ hc
     have e:=hF.sum _ (sumC_mem hc2)
     simp only [] at e
     refine ⟨_,rfl,?_⟩
     have hz:IntKind.i64.wrap (iD V x+iD V y)=iD V (c,x.2+y.2):=by
      unfold iD
      rw [wrap_sm (by omega) (by omega)]
      simp only []
      omega
     rw [hz]
     exact mkI_in hF
    ·cases h
 ·split at h
  ·rename_i hc
   rw [Bool.and_eq_true] at hc
   cases h
   have e:=Nat.eq_of_beq_eq_true hc.1
   have s:=sm _ hc.2
   refine ⟨_,rfl,?_⟩
   have hz:IntKind.i64.wrap (iD V x - iD V y)=iD V (x.1,x.2 - y.2):=by
    unfold iD
    rw [e,hF.z0]
    rw [wrap_sm (by omega) (by omega)]
    simp only []
    omega
   rw [hz]
   exact mkI_in hF
  ·split at h
   ·rename_i hc
    rw [Bool.and_eq_true] at hc
    cases h
    have e:=Nat.eq_of_beq_eq_true hc.1
    have s:=sm _ hc.2
    refine ⟨_,rfl,?_⟩
    show Value.int .i64 (IntKind.i64.wrap (iD V x - iD V y)) = .int .i64 (x.2 - y.2)
    have hz:IntKind.i64.wrap (iD V x - iD V y)=x.2 - y.2:=by
     unfold iD
     rw [e]
     rw [wrap_sm (by omega) (by omega)]
     omega
    rw [hz]
   ·split at h
    ·rename_i hc
     obtain ⟨c,hc2,rfl⟩:=Option.map_eq_some_iff.1 h
     have s:=sm _ hc
     have e:=hF.sum _ (difC_mem hc2)
     simp only [] at e
     refine ⟨_,rfl,?_⟩
     have hz:IntKind.i64.wrap (iD V x - iD V y)=iD V (c,x.2 - y.2):=by
      unfold iD
      rw [wrap_sm (by omega) (by omega)]
      simp only []
      omega
     rw [hz]
     exact mkI_in hF
    ·cases h
 ·split at h
  ·rename_i hc
   rw [Bool.and_eq_true] at hc
   cases h
   refine ⟨_,rfl,?_⟩
   show Value.bool _ = .bool true
   rw [eqv hc.1 hc.2]
   simp
  ·split at h
   ·rename_i hc
    cases h
    refine ⟨_,rfl,?_⟩
    show Value.bool _ = .bool false
    simp [nev hc]
   ·cases h
 ·split at h
  ·rename_i hc
   rw [Bool.and_eq_true] at hc
   cases h
   refine ⟨_,rfl,?_⟩
   show Value.bool _ = .bool false
   rw [eqv hc.1 hc.2]
   simp
  ·split at h
   ·rename_i hc
    cases h
    refine ⟨_,rfl,?_⟩
    show Value.bool _ = .bool true
    simp [nev hc]
   ·cases h
 ·obtain ⟨b,hb,rfl⟩:=Option.map_eq_some_iff.1 h
  have:=leB_sound hF hb
  refine ⟨_,rfl,?_⟩
  show Value.bool (decide (iD V x<iD V y)) = .bool (!b)
  rw [← this]
  congr 1
  by_cases hh:iD V y≤iD V x
  ·simp [hh]
  ·simp [hh]; omega
 ·obtain ⟨b,hb,rfl⟩:=Option.map_eq_some_iff.1 h
  have:=leB_sound hF hb
  refine ⟨_,rfl,?_⟩
  show Value.bool (decide (iD V x≤iD V y)) = .bool b
  rw [this]
 ·obtain ⟨b,hb,rfl⟩:=Option.map_eq_some_iff.1 h
  have:=leB_sound hF hb
  refine ⟨_,rfl,?_⟩
  show Value.bool (decide (iD V y<iD V x)) = .bool (!b)
  rw [← this]
  congr 1
  by_cases hh:iD V x≤iD V y
  ·simp [hh]
  ·simp [hh]; omega
 ·obtain ⟨b,hb,rfl⟩:=Option.map_eq_some_iff.1 h
  have:=leB_sound hF hb
  refine ⟨_,rfl,?_⟩
  show Value.bool (decide (iD V y≤iD V x)) = .bool b
  rw [this]
theorem cmpR_zero (q:Rat):(cmpR q 0 == 0)=decide (q=0):=by
 unfold cmpR
 by_cases h1:q<0
 ·have:q≠0:=fun e=>by rw [e] at h1; exact absurd h1 (by decide)
  simp [h1,this]
 ·by_cases h2:q=0
  ·simp [h2]
  ·simp [h1,h2]
theorem sgC_sound (hF:FaOK V F) {o:BinOp} {x y:AV} {vx vy:Value} (h:sgC F o x y=some r) (hx:@RV1 (envD V) ρ M w x vx) (hy:@RV1 (envD V) ρ M w y vy):∃ p q v,vx = .int .i64 p∧vy = .int .i64 q∧binI o .i64 p q=some v ∧ @RV1 (envD V) ρ M w r v:=by
 unfold sgC at h
 split at h
 ·rename_i q _
  have hx:@Rp (envD V) ρ M w _ [vx]:=hx
  unfold Rp at hx
  have hx:vx = .int .i64 (cmpR (qD V q) 0):=(List.cons.inj hx.2).1
  have hy:vy = .int .i64 0:=hy
  split at h
  ·obtain ⟨b,hb,rfl⟩:=Option.map_eq_some_iff.1 h
   have:=hF.zr _ (lkC_mem hb)
   refine ⟨_,_,_,hx,hy,rfl,?_⟩
   show Value.bool _ = .bool b
   rw [cmpR_zero,this]
  ·obtain ⟨b,hb,rfl⟩:=Option.map_eq_some_iff.1 h
   have:=hF.zr _ (lkC_mem hb)
   refine ⟨_,_,_,hx,hy,rfl,?_⟩
   show Value.bool (!(cmpR (qD V q) 0 == 0)) = .bool (!b)
   rw [cmpR_zero,this]
  ·cases h
 ·cases h
theorem isSlice_get {T:TypeId} (h:isSlice T=true):∃ e,Tryz.prog.underlying T=some (.slice e):=by
 unfold isSlice at h
 split at h
 ·rename_i e he
  exact ⟨e,he⟩
 ·cases h
theorem isRats_get {T:TypeId} (h:isRats T=true):Tryz.prog.underlying T=some (.slice 36):=by
 unfold isRats at h
 split at h
 ·rename_i e he
  have:=Nat.eq_of_beq_eq_true h
  rw [← this]
  exact he
 ·cases h
theorem szRat:tySz 36=some 4:=by kernel_rfl
theorem slx_out {o k:Nat} {c:Int} {d:CE} {v:Value} (h:@RV1 (envD V) ρ M w (.slx o (.ap 61 (.ap 1 (.v k) (.lit c)) d)) v):∃ g cc kk,ρ o=some (g,cc)∧v = .slice (some ⟨g,0,none⟩) (iD V (k,c)).toNat kk∧(iD V (k,c)).toNat≤kk:=by
 have h:@Rp (envD V) ρ M w _ [v]:=h
 unfold Rp at h
 obtain ⟨g,kk,cc,e1,e2,e3⟩:=h
 exact ⟨g,cc,kk,e1,(List.cons.inj e2).1,e3⟩
theorem lenX_sound (hF:FaOK V F) {T:TypeId} {x:AV} {vx:Value} (h:lenX F T x=some r) (hx:@RV1 (envD V) ρ M w x vx):∃ e A n c,Tryz.prog.underlying T=some (.slice e)∧vx = .slice A n c ∧ @RV1 (envD V) ρ M w r (.int .i64 (n:Int)):=by
 unfold lenX at h
 split at h
 ·rename_i e _
  split at h
  ·rename_i hT
   obtain ⟨el,hd⟩:=isSlice_get hT
   obtain ⟨n,hn,rfl⟩:=Option.map_eq_some_iff.1 h
   have hl:=hF.len _ (lkC_mem hn)
   have hx:@Rp (envD V) ρ M w _ [vx]:=hx
   unfold Rp at hx
   obtain ⟨A,c,e1,_⟩:=hx.2
   refine ⟨el,A,_,c,hd,(List.cons.inj e1).1,?_⟩
   rw [hl]
   exact mkI_in hF
  ·cases h
 ·rename_i e _
  split at h
  ·rename_i hT
   obtain ⟨el,hd⟩:=isSlice_get hT
   obtain ⟨n,hn,rfl⟩:=Option.map_eq_some_iff.1 h
   have hl:=hF.len _ (lkC_mem hn)
   have hx:@Rp (envD V) ρ M w _ [vx]:=hx
   unfold Rp at hx
   obtain ⟨A,c,e1,_⟩:=hx.2
   refine ⟨el,A,_,c,hd,(List.cons.inj e1).1,?_⟩
   have e2:(lD V (.ap 77 e (.lit 0))).length=(lD V e).length / 2:=by
    simp only [lD,List.length_take]
    omega
   rw [e2] at hl
   rw [hl]
   exact mkI_in hF
  ·cases h
 ·rename_i o k c d
  split at h
  ·rename_i hT
   rw [Bool.and_eq_true] at hT
   obtain ⟨el,hd⟩:=isSlice_get hT.1
   have h0:=leI_sound hF hT.2
   cases h
   obtain ⟨g,cc,kk,_,e2,_⟩:=slx_out hx
   refine ⟨el,_,_,_,hd,e2,?_⟩
   have hz:iD V (0,0)=0:=by unfold iD; simp [hF.z0]
   rw [hz] at h0
   rw [Int.toNat_of_nonneg h0]
   exact mkI_in hF
  ·cases h
 ·cases h
theorem z00 (hF:FaOK V F):iD V (0,0)=0:=by unfold iD; simp [hF.z0]
theorem zD_i (k:Nat) (c:Int):zD V (.i k c)=iD V (k,c):=rfl
theorem ratCells_take {l:List Rat} {cs:List Value} (n:Nat) (h:RatCells w l cs):RatCells w (l.take n) (cs.take (4*n)):=by
 induction n generalizing l cs with
 | zero=>simp [RatCells]
 | succ n ih =>
  cases l with
  | nil=>unfold RatCells at h; subst h; simp [RatCells]
  | cons q l =>
   unfold RatCells at h
   obtain ⟨a,b,c,d,r,rfl,h1,h2,h3⟩:=h
   rw [List.take_succ_cons,show 4*(n+1)=4*n+1+1+1+1 by omega,List.take_succ_cons,List.take_succ_cons,List.take_succ_cons,List.take_succ_cons]
   exact ⟨a,b,c,d,_,rfl,h1,h2,ih h3⟩
theorem cutX_sound (hF:FaOK V F) {T:TypeId} {x:AV} {a b:Nat × Int} {vx:Value} (h:cutX F T x a b=some r) (hx:@RV1 (envD V) ρ M w x vx):∃ (n:Nat) (A:Option Addr) (ln c:Nat),iD V a=(n:Int)∧iD V b=(n:Int)∧Tryz.prog.underlying T=some (.slice 36)∧vx = .slice A ln c∧n≤ln∧ln≤c∧∀ k,n≤k → @RV1 (envD V) ρ M w r (.slice A n k):=by
 letI:=envD V
 unfold cutX at h
 split at h
 ·rename_i hc
  simp only [Bool.and_eq_true] at hc
  obtain ⟨⟨⟨hT,e1⟩,e2⟩,h0⟩:=hc
  have e1:=Nat.eq_of_beq_eq_true e1
  have e2:=of_decide_eq_true e2
  have h0:=leI_sound hF h0
  rw [z00 hF] at h0
  have hab:iD V b=iD V a:=by unfold iD; rw [e1,e2]
  obtain ⟨n,hn⟩:∃ n:Nat,iD V a=(n:Int):=⟨(iD V a).toNat,(Int.toNat_of_nonneg h0).symm⟩
  split at h
  ·rename_i e _
   split at h
   ·rename_i ln hl
    split at h
    ·rename_i hle
     cases h
     have hle:=leI_sound hF hle
     have hlen:=hF.len _ (lkC_mem hl)
     obtain ⟨A,c,e3,e4,e5⟩:=aL_out (e:=e) hx
     have hnl:n≤(lD V e).length:=by
      have:iD V ln=V.z ln.1+ln.2:=rfl
      simp only [] at hlen
      omega
     refine ⟨n,A,_,c,hn,by rw [hab,hn],isRats_get hT,(List.cons.inj e3).1,hnl,e4,fun kc hkc=>aL_in ?_⟩
     have hzl:(lD V (.ap 20 e (.i a.1 a.2)))=(lD V e).take n:=by
      simp only [lD]
      rw [zD_i,show iD V (a.1,a.2)=iD V a from rfl,hn]
      rfl
     rw [hzl]
     have htl:((lD V e).take n).length=n:=by rw [List.length_take]; omega
     refine ⟨A,kc,by rw [htl],by rw [htl]; exact hkc,fun hne=>?_⟩
     obtain ⟨g,off,xs,k1,k2,k3,k4,k5⟩:=e5 (by rw [htl] at hne; omega)
     exact ⟨g,off,_,k1,k2,k3,range_take k4,ratCells_take n k5⟩
    ·cases h
   ·cases h
  ·rename_i o k c d
   split at h
   ·rename_i hle
    cases h
    have hle:=leI_sound hF hle
    obtain ⟨g,cc,kk,e3,e4,e5⟩:=slx_out hx
    refine ⟨n,_,_,kk,hn,by rw [hab,hn],isRats_get hT,e4,by omega,e5,fun kc hkc=>?_⟩
    show @Rp (envD V) ρ M w _ [_]
    unfold Rp
    have hN:(envD V).N (.ap 61 (.i a.1 a.2) (.lit 0))=n:=by
     show (zD V (.i a.1 a.2)).toNat=n
     rw [zD_i,show iD V (a.1,a.2)=iD V a from rfl,hn]
     rfl
    exact ⟨g,kc,cc,e3,by rw [hN],by rw [hN]; exact hkc⟩
   ·cases h
  ·cases h
 ·cases h
theorem ratCells_at:∀ {l:List Rat} {cs:List Value} {i:Nat},RatCells w l cs→i<l.length→∃ a b c d,(cs.drop (4*i)).take 4=[a,b,c,d]∧IntAt w (.agg #[a,b]) (l.getD i 0).num∧IntAt w (.agg #[c,d]) ((l.getD i 0).den:Int)
 | q :: l,_,0,h,_=>by
  unfold RatCells at h
  obtain ⟨a,b,c,d,r,rfl,h1,h2,h3⟩:=h
  exact ⟨a,b,c,d,rfl,h1,h2⟩
 | q :: l,_,i+1,h,hi=>by
  unfold RatCells at h
  obtain ⟨a,b,c,d,r,rfl,h1,h2,h3⟩:=h
  have:=ratCells_at (i:=i) h3 (by simpa using hi)
  rw [show 4*(i+1)=4+4*i by omega,← List.drop_drop]
  simpa using this
theorem idxX_sound (hF:FaOK V F) {T:TypeId} {x:AV} {a:Nat × Int} {vx:Value} (h:idxX F T x a=some r) (hx:@RV1 (envD V) ρ M w x vx):∃ g off n c,Tryz.prog.underlying T=some (.slice 36)∧vx = .slice (some ⟨g,off,none⟩) n c∧0≤iD V a∧iD V a<n ∧ @RV1 (envD V) ρ M w r (.pointer (some ⟨g,off+(iD V a).toNat*4,none⟩)):=by
 letI:=envD V
 unfold idxX at h
 split at h
 ·rename_i e _
  split at h
  ·rename_i n b hn hb
   split at h
   ·rename_i hc
    simp only [Bool.and_eq_true] at hc
    obtain ⟨⟨hT,h0⟩,h1⟩:=hc
    cases h
    have h0:=leI_sound hF h0
    rw [z00 hF] at h0
    have h1:=leI_sound hF h1
    have hlen:=hF.len _ (lkC_mem hn)
    have hlt:(iD V a).toNat<(lD V e).length:=by
     have e1:iD V n=V.z n.1+n.2:=rfl
     have e2:iD V (a.1,a.2+1)=V.z a.1+(a.2+1):=rfl
     have e3:iD V a=V.z a.1+a.2:=rfl
     simp only [] at hlen
     omega
    obtain ⟨A,c,e3,e4,e5⟩:=aL_out (e:=e) hx
    obtain ⟨g,off,xs,rfl,k2,k3,k4,k5⟩:=e5 (by omega)
    refine ⟨g,off,_,c,isRats_get hT,(List.cons.inj e3).1,h0,by omega,?_⟩
    show @Rp (envD V) ρ M w (.rptr _) [_]
    unfold Rp
    obtain ⟨p,q,s,t,z1,z2,z3⟩:=ratCells_at k5 hlt
    refine ⟨g,off+(iD V a).toNat*4,[p,q,s,t],rfl,k2,k3,?_,?_⟩
    ·rw [← z1,Nat.mul_comm]
     exact range_take (range_drop k4)
    ·refine @Rps.one (envD V) ρ M w _ _ ?_
     unfold Rp
     have hq:qD V (.ap 30 e (.i a.1 a.2))=(lD V e).getD (iD V a).toNat 0:=by
      simp only [qD]
      rfl
     refine ⟨rfl,?_⟩
     show (XP.num (qD V (.ap 30 e (.i a.1 a.2))) _).p M w _
     rw [hq]
     have hmem:(lD V e).getD (iD V a).toNat 0∈lD V e:=by
      rw [List.getD_eq_getElem?_getD,List.getElem?_eq_getElem hlt]
      exact List.getElem_mem hlt
     exact ⟨by simpa using hF.bd _ (lkC_mem hb) _ hmem,p,q,s,t,rfl,z2,z3⟩
   ·cases h
  ·cases h
 ·cases h
theorem nilX_sound (hF:FaOK V F) {o:BinOp} {T:TypeId} {x y:AV} {vx vy:Value} (h:nilX F o T x y=some r) (hx:@RV1 (envD V) ρ M w x vx) (hy:@RV1 (envD V) ρ M w y vy):∃ e A n c n' c',Tryz.prog.underlying T=some (.slice e)∧vx = .slice (some A) n c∧vy = .slice none n' c'∧((o = .eql∧r = .val (.bool false)) ∨ (o = .neq∧r = .val (.bool true))):=by
 unfold nilX at h
 split at h
 ·rename_i e d n' c'
  have hy:vy = .slice none n' c':=hy
  obtain ⟨A,c,e1,e2,e3⟩:=aL_out (ρ:=ρ) hx
  have key:∀ {n:Nat × Int},lkC F.len e=some n→isSlice T && leI F (0,1) n→∃ el A n c n' c',Tryz.prog.underlying T=some (.slice el)∧vx = .slice (some A) n c∧vy = .slice none n' c':=fun {n} hn hc=>by
   rw [Bool.and_eq_true] at hc
   obtain ⟨el,hel⟩:=isSlice_get hc.1
   have h1:=leI_sound hF hc.2
   have hlen:=hF.len _ (lkC_mem hn)
   have e0:iD V n=V.z n.1+n.2:=rfl
   have e01:iD V (0,1)=1:=by unfold iD; simp [hF.z0]
   rw [e01] at h1
   simp only [] at hlen
   obtain ⟨g,off,xs,rfl,_⟩:=e3 (by omega)
   exact ⟨el,_,_,_,_,_,hel,(List.cons.inj e1).1,hy⟩
  split at h
  ·rename_i n hn
   split at h
   ·rename_i hc
    cases h
    obtain ⟨a1,a2,a3,a4,a5,a6,q1,q2,q3⟩:=key hn hc
    exact ⟨a1,a2,a3,a4,a5,a6,q1,q2,q3,.inl ⟨rfl,rfl⟩⟩
   ·cases h
  ·rename_i n hn
   split at h
   ·rename_i hc
    cases h
    obtain ⟨a1,a2,a3,a4,a5,a6,q1,q2,q3⟩:=key hn hc
    exact ⟨a1,a2,a3,a4,a5,a6,q1,q2,q3,.inr ⟨rfl,rfl⟩⟩
   ·cases h
  ·cases h
 ·cases h
theorem cvX_sound {T U:TypeId} {x:AV} {vx:Value} (h:cvX T U x=some r) (hx:@RV1 (envD V) ρ M w x vx):∃ z,Tryz.prog.underlying T=some (.int .i8)∧Tryz.prog.underlying U=some (.int .i64)∧vx = .int .i8 z ∧ @RV1 (envD V) ρ M w r (.int .i64 (IntKind.i64.wrap z)):=by
 unfold cvX at h
 split at h
 ·rename_i i d
  split at h
  ·rename_i h1 h2
   cases h
   have hx:@Rp (envD V) ρ M w _ [vx]:=hx
   unfold Rp at hx
   obtain ⟨e,b1,b2⟩:=hx.2
   refine ⟨zD V i,h1,h2,(List.cons.inj e).1,?_⟩
   show @Rp (envD V) ρ M w _ [_]
   unfold Rp
   refine ⟨rfl,?_,b1,b2⟩
   rw [wrap_sm (by omega) (by omega)]
  ·cases h
 ·cases h
theorem isPairs_get {T:TypeId} (h:isPairs T=true):∃ e,Tryz.prog.underlying T=some (.slice e)∧tySz e=some 2:=by
 unfold isPairs at h
 split at h
 ·rename_i e he
  split at h
  ·rename_i z hz
   have:=Nat.eq_of_beq_eq_true h
   exact ⟨e,he,by rw [hz,this]⟩
  ·cases h
 ·cases h
theorem idxP_sound (hF:FaOK V F) {T:TypeId} {x:AV} {a:Nat × Int} {vx:Value} (h:idxP F T x a=some r) (hx:@RV1 (envD V) ρ M w x vx):∃ e g off n c,Tryz.prog.underlying T=some (.slice e)∧tySz e=some 2∧vx = .slice (some ⟨g,off,none⟩) n c∧0≤iD V a∧iD V a<n ∧ @RV1 (envD V) ρ M w r (.pointer (some ⟨g,off+(iD V a).toNat*2,none⟩)):=by
 letI:=envD V
 unfold idxP at h
 split at h
 ·rename_i k d
  split at h
  ·rename_i n hn
   split at h
   ·rename_i hc
    simp only [Bool.and_eq_true] at hc
    obtain ⟨⟨⟨hT,e0⟩,h0⟩,h1⟩:=hc
    cases h
    have e0:=Nat.eq_of_beq_eq_true e0
    have h0:=leI_sound hF h0
    rw [z00 hF] at h0
    have h1:=leI_sound hF h1
    have hlen:=hF.len _ (lkC_mem hn)
    have hl2:(lD V (.ap 77 (.v k) (.lit 0))).length=(V.l k).length / 2:=by
     simp only [lD,List.length_take]
     omega
    have ha:iD V a=a.2:=by unfold iD; rw [e0,hF.z0]; omega
    have e1:iD V n=V.z n.1+n.2:=rfl
    have e2:iD V (a.1,a.2+1)=iD V a+1:=by unfold iD; simp only []; omega
    simp only [] at hlen
    rw [hl2] at hlen
    have hx:@Rp (envD V) ρ M w _ [vx]:=hx
    unfold Rp at hx
    obtain ⟨A,c,e3,_,hb,e5⟩:=hx.2
    have hlt:(iD V a).toNat<(V.l k).length / 2:=by omega
    obtain ⟨g,off,rfl,k2,k3,k4⟩:=e5 (by show (V.l k).length / 2≠0; omega)
    obtain ⟨el,t1,t2⟩:=isPairs_get hT
    refine ⟨el,g,off,_,c,t1,t2,(List.cons.inj e3).1,h0,by show iD V a<(((V.l k).length / 2:Nat):Int); omega,?_⟩
    show @Rp (envD V) ρ M w (.rptr _) [_]
    unfold Rp
    generalize hi:(iD V a).toNat=i at *
    have z1:(2*a.2).toNat=2*i:=by omega
    have z2:(2*a.2+1).toNat=2*i+1:=by omega
    have l1:2*i<(V.l k).length:=by omega
    have l2:2*i+1<(V.l k).length:=by omega
    have q1:zD V (.ap 2 (.v k) (.lit (2*a.2)))=((V.l k)[2*i]).num:=by
     simp only [zD]
     rw [z1,List.getD_eq_getElem?_getD,List.getElem?_eq_getElem l1]
     rfl
    have q2:zD V (.ap 2 (.v k) (.lit (2*a.2+1)))=((V.l k)[2*i+1]).num:=by
     simp only [zD]
     rw [z2,List.getD_eq_getElem?_getD,List.getElem?_eq_getElem l2]
     rfl
    refine ⟨g,off+i*2,[.int .i8 ((V.l k)[2*i]).num,.int .i8 ((V.l k)[2*i+1]).num],rfl,k2,k3,?_,?_⟩
    ·have e6:(((V.l k).map fun q=>Value.int .i8 q.num).drop (2*i)).take 2=[.int .i8 ((V.l k)[2*i]).num,.int .i8 ((V.l k)[2*i+1]).num]:=by
      rw [← List.map_drop,← List.map_take,List.drop_eq_getElem_cons l1,List.drop_eq_getElem_cons l2]
      rfl
     rw [← e6,Nat.mul_comm i 2]
     exact range_take (range_drop k4)
    ·refine @Rps.app (envD V) ρ M w [_] [_] [_] [_] (@Rps.one (envD V) ρ M w _ _ ?_) (@Rps.one (envD V) ρ M w _ _ ?_)
     ·unfold Rp
      refine ⟨rfl,?_⟩
      show (XP.i8 (zD V (.ap 2 (.v k) (.lit (2*a.2))))).p M w _
      rw [q1]
      exact ⟨rfl,hb _ (List.getElem_mem l1)⟩
     ·unfold Rp
      refine ⟨rfl,?_⟩
      show (XP.i8 (zD V (.ap 2 (.v k) (.lit (2*a.2+1))))).p M w _
      rw [q2]
      exact ⟨rfl,hb _ (List.getElem_mem l2)⟩
   ·cases h
  ·cases h
 ·cases h
end
end Go.Proofs.YtgaehhapjnbieaaGreat
namespace Go.Proofs.YtgaehhapjnbieaaGreat
open Go.RowKit
noncomputable def idxR (F:Fa) (T:TypeId) (j:CE) (a:AV):Option CE:=match j,intA a with
 | .ap 61 (.ap 1 (.v k) (.lit c)) _,some i=>if isRats T && leI F (0,0) i && leI F (i.1,i.2+1) (k,c) then some (.ap 62 (.i i.1 i.2) (.lit 0)) else none
 | _,_=>none
def rlenX (F:Fa):CE→Option (Nat × Int)
 | .ap 41 r (.ap 0 _ (.ap 52 _ _))=>rlenX F r
 | .ap 40 (.ap 1 (.v k) (.lit c)) _=>if leI F (0,0) (k,c) then some (k,c) else none
 | .ap 42 e _=>lkC F.len e
 | .v k=>lkC F.rlen (.v k)
 | _=>none
def drop1:CE→Nat→Option (Nat × Int)
 | .ap 45 (.v y) (.ap 1 (.v k) (.lit c)),x=>if Nat.beq y x then some (k,c) else none
 | _,_=>none
def dropA:List (CE × Nat)→Nat→Option ((Nat × Int) × Nat)
 | [],_=>none
 | p :: r,x=>match drop1 p.1 x with
  | some d=>some (d,p.2)
  | none=>dropA r x
theorem drop1_eq {e:CE} {x:Nat} {d:Nat × Int} (h:drop1 e x=some d):e = .ap 45 (.v x) (.ap 1 (.v d.1) (.lit d.2)):=by
 unfold drop1 at h
 split at h
 ·split at h
  ·rename_i hb
   have:=Nat.eq_of_beq_eq_true hb
   subst this
   cases h
   rfl
  ·cases h
 ·cases h
theorem dropA_mem:∀ {l:List (CE × Nat)} {x:Nat} {d:Nat × Int} {n:Nat},dropA l x=some (d,n)→(CE.ap 45 (.v x) (.ap 1 (.v d.1) (.lit d.2)),n)∈l
 | [],_,_,_,h=>by cases h
 | p :: r,x,d,n,h=>by
  unfold dropA at h
  split at h
  ·rename_i d' hd
   cases h
   rw [← drop1_eq hd]
   exact List.mem_cons_self ..
  ·exact List.mem_cons_of_mem _ (dropA_mem h)
noncomputable def loadX (F:Fa) (T:TypeId) (c p:CE):Option AV:=match c,p with
 | .ap 60 r _,.ap 62 (.ap 1 (.v k) (.lit i)) _=>if Nat.beq T 36 then (match r with
  | .v x=>match lkC F.full (.v x),lkC F.rlen (.v x) with
   | some n,some l=>if leI F (0,0) (k,i) && leI F (k,i+1) l then some (aQ (.ap 35 (.v x) (.i k i)) n) else none
   | none,some l=>(match dropA F.full x with
    | some (d,n)=>if leI F (0,0) d && leI F d (k,i) && leI F (k,i+1) l then some (aQ (.ap 35 (.v x) (.i k i)) n) else none
    | none=>none)
   | _,_=>none
  | _=>none) else none
 | _,_=>none
def numA:AV→Option (CE × Nat)
 | .ext 4 true (.ap 52 q (.lit n))=>some (q,n.toNat)
 | .rat q=>if decide (mkRat q.num q.den=q) && decide (((q.den:Int)).toNat=q.den) then (if Nat.blt q.num.natAbs 4294967296 && Nat.blt q.den 4294967296 then some (.ap 36 (.lit q.num) (.lit (q.den:Int)),1) else if smQ q then some (.ap 36 (.lit q.num) (.lit (q.den:Int)),100) else none) else none
 | _=>none
noncomputable def storeX (F:Fa) (T:TypeId) (c p:CE) (a:AV):Option CE:=match c,p,numA a with
 | .ap 60 r _,.ap 62 (.ap 1 (.v k) (.lit i)) _,some (q,n)=>match rlenX F r with
  | some l=>if Nat.beq T 36 && leI F (0,0) (k,i) && leI F (k,i+1) l then some (.ap 60 (.ap 41 r (.ap 0 (.i k i) (.ap 52 q (.lit (n:Int))))) (.lit 0)) else none
  | none=>none
 | _,_,_=>none
noncomputable def makeX (F:Fa) (T:TypeId) (x y:AV):Option (TypeId × CE × CE):=match intA x,intA y with
 | some a,some b=>if isRats T && Nat.beq a.1 b.1 && decide (a.2=b.2) && !(Nat.beq a.1 0) && leI F (0,0) a && leI F a (0,1048576) then some (36,.ap 60 (.ap 40 (.i a.1 a.2) (.lit 0)) (.lit 0),.ap 61 (.i a.1 a.2) (.lit 0)) else none
 | _,_=>none
def litL:Nat→List AV→Option CE
 | 0,[]=>some (.lit 0)
 | k+1,a :: l=>match numA a,litL k l with
  | some (q,_),some e=>some (.ap 80 q e)
  | _,_=>none
 | _,_=>none
def litF (F:Fa):Bool:=(lkC F.full (.lit 1)).isSome
noncomputable def litX (F:Fa) (T:TypeId) (n:Nat) (l:List AV):Option AV:=if litF F && isRats T && Nat.ble 1 n then (litL n l).map aL else none
noncomputable def appL (F:Fa) (T:TypeId):CE→Option (TypeId × CE × CE)
 | .ap 51 e _=>(match lkC F.len e with
  | some n=>if isRats T && leI F (0,1) n && leI F n (0,1048576) then some (36,.ap 60 (.ap 42 e (.lit 0)) (.lit 0),.ap 61 (.i n.1 n.2) (.lit 0)) else none
  | none=>none)
 | _=>none
noncomputable def stdX (F:Fa):XT:=⟨true,pureX F,idxR F,loadX F,storeX F,makeX F,litX F,appL F⟩
section
variable {V : VL} {F : Fa} {ρ : Rho} {M : Nat → Prop} {w : World} {r : AV}
theorem rlenX_sound (hF:FaOK V F):∀ (r:CE) {l:Nat × Int},rlenX F r=some l→((rD V r).length:Int)=iD V l:=by
 intro r
 induction r with
 | v k=>intro l h; unfold rlenX at h; exact hF.rlen _ (lkC_mem h)
 | lit z=>intro l h; unfold rlenX at h; cases h
 | ap f a b iha _ =>
  intro l h
  unfold rlenX at h
  split at h
  ·rename_i e
   injection e with e1 e2 e3
   subst e1
   subst e2
   subst e3
   simp only [rD]
   rw [List.length_set]
   exact iha h
  ·rename_i k c d e
   injection e with e1 e2 e3
   subst e1
   subst e2
   split at h
   ·rename_i hc
    cases h
    have h0:=leI_sound hF hc
    rw [z00 hF] at h0
    simp only [rD]
    rw [List.length_replicate,zD_i]
    exact Int.toNat_of_nonneg h0
   ·cases h
  ·rename_i e
   injection e with e1 e2 e3
   subst e1
   subst e2
   simp only [rD]
   rw [List.length_map]
   exact hF.len _ (lkC_mem h)
  ·rename_i e; cases e
  ·cases h
theorem optCells_at:∀ {l:List (Option Rat)} {cs:List Value} {i:Nat} {q:Rat},OptCells w l cs→l[i]? = some (some q)→∃ a b c d,(cs.drop (4*i)).take 4=[a,b,c,d]∧IntAt w (.agg #[a,b]) q.num∧IntAt w (.agg #[c,d]) (q.den:Int)
 | some q :: l,_,0,q',⟨a,b,c,d,r,e,h1,h2,h3⟩,h=>by
  subst e
  simp at h
  subst h
  exact ⟨a,b,c,d,rfl,h1,h2⟩
 | none :: l,_,0,q',_,h=>by simp at h
 | some q :: l,_,i+1,q',⟨a,b,c,d,r,e,h1,h2,h3⟩,h=>by
  subst e
  have:=optCells_at (i:=i) h3 (by simpa using h)
  rw [show 4*(i+1)=4+4*i by omega,← List.drop_drop]
  simpa using this
 | none :: l,_,i+1,q',⟨r,e,h3⟩,h=>by
  subst e
  have:=optCells_at (i:=i) h3 (by simpa using h)
  rw [show 4*(i+1)=4+4*i by omega,← List.drop_drop]
  simpa using this
theorem optCells_set:∀ {l:List (Option Rat)} {cs:List Value} {i:Nat} {q:Rat} {a b c d:Value},OptCells w l cs→i<l.length→IntAt w (.agg #[a,b]) q.num→IntAt w (.agg #[c,d]) (q.den:Int)→OptCells w (l.set i (some q)) (cs.take (4*i) ++ [a,b,c,d] ++ cs.drop (4*i+4))
 | some q :: l,_,0,q',a,b,c,d,⟨a0,b0,c0,d0,r,e,h1,h2,h3⟩,_,i1,i2=>by
  subst e
  exact ⟨a,b,c,d,r,by simp,i1,i2,h3⟩
 | none :: l,_,0,q',a,b,c,d,⟨r,e,h3⟩,_,i1,i2=>by
  subst e
  exact ⟨a,b,c,d,r,by simp,i1,i2,h3⟩
 | some q :: l,_,i+1,q',a,b,c,d,⟨a0,b0,c0,d0,r,e,h1,h2,h3⟩,hi,i1,i2=>by
  subst e
  refine ⟨a0,b0,c0,d0,_,?_,h1,h2,optCells_set (i:=i) h3 (by simpa using hi) i1 i2⟩
  rw [show 4*(i+1)=4*i+1+1+1+1 by omega]
  simp
 | none :: l,_,i+1,q',a,b,c,d,⟨r,e,h3⟩,hi,i1,i2=>by
  subst e
  refine ⟨_,?_,optCells_set (i:=i) h3 (by simpa using hi) i1 i2⟩
  rw [show 4*(i+1)=4*i+1+1+1+1 by omega]
  simp
theorem ratTy:∃ d,Tryz.prog.underlying 36=some d∧d.isRow=true:=by
 have h:(Tryz.prog.underlying 36).map (·.isRow)=some true:=by kernel_rfl
 obtain ⟨d,h1,h2⟩:=Option.map_eq_some_iff.1 h
 exact ⟨d,h1,h2⟩
theorem ratSz:(Tryz.prog.info? 36).map (·.size)=some 4:=by kernel_rfl
theorem jD_i (k:Nat) (c:Int) (d:CE):(envD V).J (.ap 62 (.i k c) d)=4*(iD V (k,c)).toNat:=rfl
theorem load_at {g i:Nat} {q:Rat} {n:Nat} {l:List (Option Rat)} {cs:List Value} {qc:CE} (hq:qD V qc=q) (hn:RSm q n) (hr:w.rangeAt g 0 cs) (hc:OptCells w l cs) (hi:l[i]? = some (some q)):∃ v,(Instr.loadAt 36 (.pointer (some ⟨g,4*i,none⟩))).run Tryz.prog w = .ok v w ∧ @RV (envD V) ρ M w (aQ qc n) v:=by
 obtain ⟨a,b,c,d,e,h1,h2⟩:=optCells_at hc hi
 obtain ⟨dd,hu,hd⟩:=ratTy
 have hr':w.rangeAt g (4*i) [a,b,c,d]:=by
  rw [← e]
  have:=@range_take (envD V) w g (4*i) 4 _ (by simpa using @range_drop (envD V) w g 0 (4*i) cs hr)
  exact this
 obtain ⟨x,A,k,y,rfl,rfl⟩:=int_sh h1
 obtain ⟨x',A',k',y',rfl,rfl⟩:=int_sh h2
 refine ⟨_,run_loadAt_mid w g (4*i) 36 _ dd hr' hu hd ratSz,?_⟩
 exact aQ_in (V:=V) (hq ▸ ⟨x,A,k,y,x',A',k',y',rfl,h1,h2⟩) (hq ▸ hn)
theorem loadX_sound (hF:FaOK V F) {T:TypeId} {c p:CE} (h:loadX F T c p=some r) {g:Nat} {cs:List Value} (hr:w.rangeAt g 0 cs) (hb:(bD V c).p M w cs):∃ v,(Instr.loadAt T (.pointer (some ⟨g,(envD V).J p,none⟩))).run Tryz.prog w = .ok v w ∧ @RV (envD V) ρ M w r v:=by
 unfold loadX at h
 split at h
 ·rename_i r0 d k i d'
  change OptCells w (rD V r0) cs at hb
  split at h
  ·rename_i hT
   have hT:=Nat.eq_of_beq_eq_true hT
   subst hT
   rw [jD_i]
   split at h
   ·rename_i x
    split at h
    ·rename_i n l hn hl
     split at h
     ·rename_i hc
      simp only [Bool.and_eq_true] at hc
      have c3:=leI_sound hF hc.1
      rw [z00 hF] at c3
      have c4:=leI_sound hF hc.2
      have hlen:=hF.rlen _ (lkC_mem hl)
      cases h
      have hlt:(iD V (k,i)).toNat<(rD V (.v x)).length:=by
       have e1:iD V l=V.z l.1+l.2:=rfl
       have e2:iD V (k,i+1)=V.z k+(i+1):=rfl
       have e3:iD V (k,i)=V.z k+i:=rfl
       simp only [] at hlen
       omega
      obtain ⟨q,e,hq⟩:=hF.full _ (lkC_mem hn) _ (List.getElem_mem hlt)
      have hget:(rD V (.v x))[(iD V (k,i)).toNat]? = some (some q):=by rw [List.getElem?_eq_getElem hlt,e]
      refine load_at (q:=q) ?_ hq hr hb hget
      simp only [qD]
      rw [zD_i,List.getD_eq_getElem?_getD,hget]
      rfl
     ·cases h
    ·rename_i l hn hl
     split at h
     ·rename_i d n hd
      split at h
      ·rename_i hc
       simp only [Bool.and_eq_true] at hc
       have c1:=leI_sound hF hc.1.1
       rw [z00 hF] at c1
       have c2:=leI_sound hF hc.1.2
       have c4:=leI_sound hF hc.2
       have hlen:=hF.rlen _ (lkC_mem hl)
       cases h
       have hlt:(iD V (k,i)).toNat<(rD V (.v x)).length:=by
        have e1:iD V l=V.z l.1+l.2:=rfl
        have e2:iD V (k,i+1)=V.z k+(i+1):=rfl
        have e3:iD V (k,i)=V.z k+i:=rfl
        simp only [] at hlen
        omega
       have hm:(rD V (.v x))[(iD V (k,i)).toNat]∈rD V (.ap 45 (.v x) (.ap 1 (.v d.1) (.lit d.2))):=by
        show _∈(rD V (.v x)).drop (iD V d).toNat
        rw [List.mem_drop_iff_getElem]
        exact ⟨(iD V (k,i)).toNat - (iD V d).toNat,by omega,by congr 1; omega⟩
       obtain ⟨q,e,hq⟩:=hF.full _ (dropA_mem hd) _ hm
       have hget:(rD V (.v x))[(iD V (k,i)).toNat]? = some (some q):=by rw [List.getElem?_eq_getElem hlt,e]
       refine load_at (q:=q) ?_ hq hr hb hget
       simp only [qD]
       rw [zD_i,List.getD_eq_getElem?_getD,hget]
       rfl
      ·cases h
     ·cases h
    ·cases h
   ·cases h
  ·cases h
 ·cases h
theorem numA_sound {a:AV} {q:CE} {n:Nat} {v:Value} (h:numA a=some (q,n)) (hv:@RV (envD V) ρ M w a v):(ratF (qD V q)).p v w∧RSm (qD V q) n:=by
 unfold numA at h
 split at h
 ·rename_i q' n'
  cases h
  have hv:@RV1 (envD V) ρ M w (.ext 4 true (.ap 52 q (.lit n'))) v:=hv
  obtain ⟨cs,rfl,hc⟩:=hv
  have:=@aQ_out V ρ M w q n'.toNat (.agg cs) ⟨cs,rfl,by
   unfold Rp at hc ⊢
   refine ⟨hc.1,?_⟩
   have h2:=hc.2
   show (XP.num (qD V q) ((n'.toNat:Nat):Int).toNat).p M w cs.toList
   rw [Int.toNat_natCast]
   exact h2⟩
  exact this
 ·rename_i q'
  split at h
  ·rename_i hc
   rw [Bool.and_eq_true] at hc
   have e1:=of_decide_eq_true hc.1
   have hv:@RV1 (envD V) ρ M w (.rat q') v:=hv
   have hr:=@asRat_sound (envD V) ρ M w v (.rat q') q' rfl hv
   have hq:qD V (.ap 36 (.lit q'.num) (.lit (q'.den:Int)))=q':=by
    simp only [qD]
    rw [Int.toNat_natCast]
    exact e1
   split at h
   ·rename_i hs
    rw [Bool.and_eq_true] at hs
    cases h
    rw [hq]
    have h1:=Nat.le_of_ble_eq_true hs.1
    have h2:=Nat.le_of_ble_eq_true hs.2
    exact ⟨hr,by unfold Sm; rw [Nat.pow_one]; exact h1,by unfold Sm; rw [Int.natAbs_natCast,Nat.pow_one]; exact h2⟩
   ·split at h
    ·rename_i hs
     cases h
     rw [hq]
     exact ⟨hr,@smQ_sound (envD V) _ hs⟩
    ·cases h
  ·cases h
 ·cases h
theorem storeX_sound (hF:FaOK V F) {T:TypeId} {c p c':CE} {a:AV} (h:storeX F T c p a=some c') {cs:List Value} {v:Value} (hb:(bD V c).p M w cs) (hv:@RV (envD V) ρ M w a v) :
  (Tryz.prog.info? T).map (·.size)=some v.cells.size∧(∀ x∈v.cells.toList,x.oneCell'=true)∧(envD V).J p+v.cells.size≤cs.length∧(bD V c').p M w (cs.take ((envD V).J p) ++ v.cells.toList ++ cs.drop ((envD V).J p+v.cells.size)):=by
 unfold storeX at h
 split at h
 ·rename_i r0 d k i d' q n hn
  change OptCells w (rD V r0) cs at hb
  obtain ⟨hr,hsm⟩:=numA_sound hn hv
  split at h
  ·rename_i l hl
   split at h
   ·rename_i hc
    simp only [Bool.and_eq_true] at hc
    obtain ⟨⟨c1,c2⟩,c3⟩:=hc
    have c1:=Nat.eq_of_beq_eq_true c1
    subst c1
    have c2:=leI_sound hF c2
    rw [z00 hF] at c2
    have c3:=leI_sound hF c3
    have hlen:=rlenX_sound hF _ hl
    cases h
    obtain ⟨x,A,kk,y,x',A',k',y',rfl,h1,h2⟩:=hr
    have hlt:(iD V (k,i)).toNat<(rD V r0).length:=by
     have e2:iD V (k,i+1)=V.z k+(i+1):=rfl
     have e3:iD V (k,i)=V.z k+i:=rfl
     omega
    have hcl:=hb.len
    rw [jD_i]
    refine ⟨ratSz,fun z hz=>?_,?_,?_⟩
    ·simp only [Value.cells,List.mem_cons,List.not_mem_nil,or_false] at hz
     rcases hz with rfl | rfl | rfl | rfl <;> rfl
    ·show 4*(iD V (k,i)).toNat+4≤cs.length
     omega
    ·show OptCells w (rD V (.ap 41 r0 (.ap 0 (.i k i) (.ap 52 q (.lit (n:Int)))))) _
     simp only [rD]
     rw [zD_i]
     exact optCells_set hb hlt h1 h2
   ·cases h
  ·cases h
 ·cases h
end
end Go.Proofs.YtgaehhapjnbieaaGreat
namespace Go.Proofs.YtgaehhapjnbieaaGreat
open Go.RowKit
section
variable {V : VL} {F : Fa} {ρ : Rho} {M : Nat → Prop} {w : World} {r : AV}
theorem idxR_sound (hF:FaOK V F) {T:TypeId} {j p:CE} {a:AV} (h:idxR F T j a=some p) {g k:Nat} {v:Value} (hv:@RV (envD V) ρ M w a v):(Instr.indexAt T (.slice (some ⟨g,0,none⟩) ((envD V).N j) k) v).run Tryz.prog w = .ok (.pointer (some ⟨g,(envD V).J p,none⟩)) w:=by
 letI:=envD V
 unfold idxR at h
 split at h
 ·rename_i k' c d i hi
  split at h
  ·rename_i hc
   simp only [Bool.and_eq_true] at hc
   obtain ⟨⟨hT,h0⟩,h1⟩:=hc
   cases h
   have h0:=leI_sound hF h0
   rw [z00 hF] at h0
   have h1:=leI_sound hF h1
   have hv1:@RV1 (envD V) ρ M w a v:=by
    cases a <;> first | exact hv | (unfold intA at hi; cases hi)
   have hv:=intA_sound hF hi hv1
   subst hv
   have hN:(envD V).N (.ap 61 (.ap 1 (.v k') (.lit c)) d)=(iD V (k',c)).toNat:=rfl
   have e2:iD V (i.1,i.2+1)=V.z i.1+(i.2+1):=rfl
   have e3:iD V i=V.z i.1+i.2:=rfl
   have:=run_idxSlice (w:=w) (g:=g) (off:=0) (c:=k) (len:=(iD V (k',c)).toNat) (k:=.i64) (i:=iD V i) (isRats_get hT) szRat ⟨h0,by omega⟩
   rw [hN,this]
   have hJ:(envD V).J (.ap 62 (.i i.1 i.2) (.lit 0))=0+(iD V i).toNat*4:=by
    show 4*(iD V (i.1,i.2)).toNat=0+(iD V i).toNat*4
    rw [show iD V (i.1,i.2)=iD V i from rfl]
    omega
   rw [hJ]
  ·cases h
 ·cases h
theorem ratZero:∃ i z,Tryz.prog.info? 36=some i∧i.zero=some z∧i.size=4∧i.bytes≤1048576∧z.cells.toList=[.bool false,.slice none 0 0,.bool false,.slice none 0 0]:=by
 have h:((Tryz.prog.info? 36).bind fun i=>i.zero.map fun z=>(i.size,decide (i.bytes≤1048576),z.cells.toList))=some (4,true,[.bool false,.slice none 0 0,.bool false,.slice none 0 0]):=by kernel_rfl
 obtain ⟨i,hi,h⟩:=Option.bind_eq_some_iff.1 h
 obtain ⟨z,hz,h⟩:=Option.map_eq_some_iff.1 h
 simp only [Prod.mk.injEq] at h
 exact ⟨i,z,hi,hz,h.1,of_decide_eq_true h.2.1,h.2.2⟩
theorem ratTyOk:tyOk 36=true:=by kernel_rfl
theorem optCells_none:∀ n,OptCells w (List.replicate n none) (repL n [.bool false,.slice none 0 0,.bool false,.slice none 0 0])
 | 0=>rfl
 | n+1=>⟨_,rfl,optCells_none n⟩
theorem makeX_sound (hF:FaOK V F) {T e:TypeId} {x y:AV} {c j:CE} (h:makeX F T x y=some (e,c,j)):tyOk e=true∧∀ (ρ:Rho) (M:Nat→Prop) (w:World) (vx vy:Value),@RV (envD V) ρ M w x vx → @RV (envD V) ρ M w y vy →
  ∃ cells,(Instr.makeSlice T vx vy).run Tryz.prog w = .ok (.slice (some ⟨w.heap.size,0,none⟩) ((envD V).N j) ((envD V).N j)) (w.alloc (.cells cells e))∧(bD V c).p M w cells.toList:=by
 letI:=envD V
 unfold makeX at h
 split at h
 ·rename_i a b ha hb
  split at h
  ·rename_i hc
   simp only [Bool.and_eq_true] at hc
   obtain ⟨⟨⟨⟨⟨hT,e1⟩,e2⟩,_⟩,h0⟩,h1⟩:=hc
   cases h
   refine ⟨ratTyOk,fun ρ M w vx vy hx hy=>?_⟩
   have e1:=Nat.eq_of_beq_eq_true e1
   have e2:=of_decide_eq_true e2
   have hab:iD V b=iD V a:=by unfold iD; rw [e1,e2]
   have h0:=leI_sound hF h0
   rw [z00 hF] at h0
   have h1:=leI_sound hF h1
   have h1:iD V a≤1048576:=by
    have:iD V (0,1048576)=V.z 0+1048576:=rfl
    rw [hF.z0] at this
    omega
   have one:∀ {a:AV} {x:Nat × Int} {v:Value},intA a=some x → @RV (envD V) ρ M w a v→v = .int .i64 (iD V x):=fun {a} {x} {v} hi hv=>intA_sound hF hi (by cases a <;> first | exact hv | (unfold intA at hi; cases hi))
   have hx:=one ha hx
   have hy:=one hb hy
   subst hx
   subst hy
   obtain ⟨i,z,hi,hz,hs,hby,hcl⟩:=ratZero
   have hbc:(i.bytes:Int)*iD V a≤281474976710656:=by
    have h5:(i.bytes:Int)≤1048576:=by omega
    calc (i.bytes:Int)*iD V a≤1048576*1048576:=Int.mul_le_mul h5 h1 (by omega) (by omega)
     _≤281474976710656:=by decide
   have hrun:=run_make (P:=Tryz.prog) w T 36 i z (isRats_get hT) hi hz .i64 .i64 (iD V a) (iD V a) h0 (Int.le_refl _) hbc (by omega)
   have hN:(envD V).N (.ap 61 (.i a.1 a.2) (.lit 0))=(iD V a).toNat:=rfl
   refine ⟨madeCells z.cells ((iD V a).toNat*i.size),?_,?_⟩
   ·rw [hab,hN]
    exact hrun
   ·show OptCells w (rD V (.ap 40 (.i a.1 a.2) (.lit 0))) _
    simp only [rD]
    rw [zD_i,show iD V (a.1,a.2)=iD V a from rfl]
    have hzs:z.cells.size=4:=by
     have:=congrArg List.length hcl
     simpa using this
    rw [hs,← hzs,made_list,hcl]
    exact optCells_none _
  ·cases h
 ·cases h
theorem pureX_sound (hF:FaOK V F) {k:PK} {xs:List AV} (h:pureX F k xs=some r) {ρv:Operand→Value} {ys:List Operand} (hv:@RVs (envD V) ρ M w xs (ys.map ρv)) :
  ∃ v,(∀ o:Oper,o.op=opOf k ys→(execOp ρv o).run Tryz.prog w = .ok (.value v) w) ∧ @RV (envD V) ρ M w r v:=by
 letI:=envD V
 have two:∀ {x y:AV},@RVs (envD V) ρ M w [x,y] (ys.map ρv)→∃ a b,ys=[a,b] ∧ @RV1 (envD V) ρ M w x (ρv a) ∧ @RV1 (envD V) ρ M w y (ρv b):=fun {x y} ⟨va,_,e1,h1,vb,_,e2,h2,e3⟩=>by
  have e3:_=[]:=e3
  subst e3
  subst e2
  match ys,e1 with
  | [a,b],e1 =>
   simp only [List.map_cons,List.map_nil,List.cons.injEq,and_true] at e1
   exact ⟨a,b,rfl,e1.1 ▸ h1,e1.2 ▸ h2⟩
 have one:∀ {x:AV},@RVs (envD V) ρ M w [x] (ys.map ρv)→∃ a,ys=[a] ∧ @RV1 (envD V) ρ M w x (ρv a):=fun {x} ⟨va,_,e1,h1,e3⟩=>by
  have e3:_=[]:=e3
  subst e3
  match ys,e1 with
  | [a],e1 =>
   simp only [List.map_cons,List.map_nil,List.cons.injEq,and_true] at e1
   exact ⟨a,rfl,e1 ▸ h1⟩
 have three:∀ {x y z:AV},@RVs (envD V) ρ M w [x,y,z] (ys.map ρv)→∃ a b c,ys=[a,b,c] ∧ @RV1 (envD V) ρ M w x (ρv a) ∧ @RV1 (envD V) ρ M w y (ρv b) ∧ @RV1 (envD V) ρ M w z (ρv c):=fun {x y z} ⟨va,_,e1,h1,vb,_,e2,h2,vc,_,e4,h4,e3⟩=>by
  have e3:_=[]:=e3
  subst e3
  subst e4
  subst e2
  match ys,e1 with
  | [a,b,c],e1 =>
   simp only [List.map_cons,List.map_nil,List.cons.injEq,and_true] at e1
   exact ⟨a,b,c,rfl,e1.1 ▸ h1,e1.2.1 ▸ h2,e1.2.2 ▸ h4⟩
 have rv:∀ {a:AV} {v:Value},@RV1 (envD V) ρ M w a v → @RV (envD V) ρ M w a v:=fun h=>@RV1.rv (envD V) ρ M w _ _ h
 unfold pureX at h
 split at h
 ·rename_i o T U x y
  obtain ⟨a,b,rfl,hx,hy⟩:=two hv
  split at h
  ·rename_i p q hp hq
   obtain ⟨v,hb,hr⟩:=binC_sound (ρ:=ρ) (M:=M) (w:=w) hF h
   obtain ⟨v',w',hrun,rfl,rfl⟩:=run_binI (ρv:=ρv) (w:=w) (T:=T) (T2:=U) hb (intA_sound hF hp hx) (intA_sound hF hq hy)
   exact ⟨_,hrun,rv hr⟩
  ·split at h
   ·rename_i r0 h0
    cases h
    obtain ⟨e,A,n,c,n',c',hd,e1,e2,hr⟩:=nilX_sound hF h0 hx hy
    rcases hr with ⟨rfl,rfl⟩ | ⟨rfl,rfl⟩
    ·refine ⟨.bool false,fun z hz=>?_,rfl⟩
     have hz:z.op = .binOp .eql T a b U:=hz
     unfold execOp
     rw [hz]
     simp [eqGuard,binOp,e1,e2,run_eqNil hd]
    ·refine ⟨.bool true,fun z hz=>?_,rfl⟩
     have hz:z.op = .binOp .neq T a b U:=hz
     unfold execOp
     rw [hz]
     simp [eqGuard,binOp,e1,e2,run_eqNil hd]
   ·obtain ⟨p,q,v,e1,e2,hb,hr⟩:=sgC_sound hF h hx hy
    obtain ⟨v',w',hrun,rfl,rfl⟩:=run_binI (ρv:=ρv) (w:=w) (T:=T) (T2:=U) hb e1 e2
    exact ⟨_,hrun,rv hr⟩
 ·rename_i T x
  obtain ⟨a,rfl,hx⟩:=one hv
  obtain ⟨e,A,n,c,hd,ha,hr⟩:=lenX_sound hF h hx
  refine ⟨_,fun o ho=>?_,rv hr⟩
  have ho:o.op = .call { callee:=.builtin .len,args:=#[a],argTypes:=#[T] }:=ho
  unfold execOp
  rw [ho]
  simp [resolve,invoke,builtin,Builtin.len_,Sem.run_bind,run_underlying hd,ha,goInt]
 ·rename_i T U x y
  obtain ⟨a,b,rfl,hx,hy⟩:=two hv
  split at h
  ·rename_i p q hp hq
   split at h
   ·rename_i hTU
    rw [Bool.and_eq_true] at hTU
    have hT:=Nat.eq_of_beq_eq_true hTU.1
    have hU:=Nat.eq_of_beq_eq_true hTU.2
    subst hT
    subst hU
    have hx:=intA_sound hF hp hx
    have hy:=intA_sound hF hq hy
    have key:r=mkI p∧iD V q≤iD V p ∨ r=mkI q∧iD V p≤iD V q:=by
     split at h
     ·rename_i hle
      cases h
      exact .inr ⟨rfl,leI_sound hF hle⟩
     ·split at h
      ·rename_i hle
       cases h
       exact .inl ⟨rfl,leI_sound hF hle⟩
      ·cases h
    have hr:@RV1 (envD V) ρ M w r (.int .i64 (max (iD V p) (iD V q))):=by
     rcases key with ⟨rfl,hle⟩ | ⟨rfl,hle⟩
     ·rw [show max (iD V p) (iD V q)=iD V p by omega]
      exact mkI_in hF
     ·rw [show max (iD V p) (iD V q)=iD V q by omega]
      exact mkI_in hF
    refine ⟨_,fun o ho=>?_,rv hr⟩
    have ho:o.op = .call { callee:=.builtin .max,args:=#[a,b],argTypes:=#[3,3] }:=ho
    unfold execOp
    rw [ho]
    by_cases h:iD V p<iD V q
    ·have:max (iD V p) (iD V q)=iD V q:=by omega
     simp [go_sem,hx,hy,h,this]
    ·have:max (iD V p) (iD V q)=iD V p:=by omega
     simp [go_sem,hx,hy,h,this]
   ·cases h
  ·cases h
 ·rename_i T x hh m
  obtain ⟨a,b,c,rfl,hx,hy,hz⟩:=three hv
  split at h
  ·rename_i p q hp hq
   obtain ⟨n,A,ln,cc,h1,h2,h3,h4,h6,h5,hr⟩:=cutX_sound hF h hx
   have hy:=intA_sound hF hp hy
   have hz:=intA_sound hF hq hz
   refine ⟨_,fun o ho=>?_,rv (hr n (Nat.le_refl _))⟩
   have ho:o.op = .slice T a none (some b) (some c):=ho
   unfold execOp
   rw [ho]
   show Sem.run _ (Instr.sliceAt T (ρv a) none (some (ρv b)) (some (ρv c)) >>= fun x=>pure (Next.value x)) w=_
   rw [h4,hy,hz,h1,h2]
   exact run_v (run_slice3 h3 szRat (Nat.le_refl _) (Nat.le_trans h6 h5))
  ·cases h
 ·rename_i T x hh
  obtain ⟨a,b,rfl,hx,hy⟩:=two hv
  split at h
  ·rename_i p hp
   obtain ⟨n,A,ln,cc,h1,h2,h3,h4,h6,h5,hr⟩:=cutX_sound hF h hx
   have hy:=intA_sound hF hp hy
   refine ⟨_,fun o ho=>?_,rv (hr cc (Nat.le_trans h6 h5))⟩
   have ho:o.op = .slice T a none (some b) none:=ho
   unfold execOp
   rw [ho]
   show Sem.run _ (Instr.sliceAt T (ρv a) none (some (ρv b)) none >>= fun x=>pure (Next.value x)) w=_
   rw [h4,hy,h1]
   exact run_v (run_slice h3 szRat h6 h5)
  ·cases h
 ·rename_i T x i
  obtain ⟨a,b,rfl,hx,hy⟩:=two hv
  split at h
  ·rename_i p hp
   have hy:=intA_sound hF hp hy
   split at h
   ·rename_i r0 h0
    cases h
    obtain ⟨g,off,n,c,h1,h2,h3,h4,hr⟩:=idxX_sound hF h0 hx
    refine ⟨_,fun o ho=>?_,rv hr⟩
    have ho:o.op = .indexAddr T a b:=ho
    unfold execOp
    rw [ho]
    show Sem.run _ (Instr.indexAt T (ρv a) (ρv b) >>= fun x=>pure (Next.value x)) w=_
    rw [h2,hy]
    exact run_v (run_idxSlice h1 szRat ⟨h3,h4⟩)
   ·obtain ⟨e,g,off,n,c,h1,h2,h3,h4,h5,hr⟩:=idxP_sound hF h hx
    refine ⟨_,fun o ho=>?_,rv hr⟩
    have ho:o.op = .indexAddr T a b:=ho
    unfold execOp
    rw [ho]
    show Sem.run _ (Instr.indexAt T (ρv a) (ρv b) >>= fun x=>pure (Next.value x)) w=_
    rw [h3,hy]
    exact run_v (run_idxSlice h1 h2 ⟨h4,h5⟩)
  ·cases h
 ·rename_i T U x
  obtain ⟨a,rfl,hx⟩:=one hv
  obtain ⟨z,hT,hU,ha,hr⟩:=cvX_sound h hx
  refine ⟨_,fun o ho=>?_,rv hr⟩
  have ho:o.op = .convert T U a:=ho
  unfold execOp
  rw [ho]
  simp [convert,Sem.run_bind,run_underlying hT,run_underlying hU,ha,go_sem]
 ·cases h
theorem num_cells {a:AV} {q:CE} {n:Nat} {x:List Value} (h:numA a=some (q,n)) (r:@Rp (envD V) ρ M w a x):∃ p u s t,x=[p,u,s,t]∧IntAt w (.agg #[p,u]) (qD V q).num∧IntAt w (.agg #[s,t]) ((qD V q).den:Int):=by
 have hv:@RV (envD V) ρ M w a (.agg x.toArray):=by
  have h:=h
  unfold numA at h
  split at h
  ·exact ⟨_,rfl,r⟩
  ·exact ⟨_,rfl,r⟩
  ·cases h
 obtain ⟨⟨b,A,k,c,b',A',k',c',e,h1,h2⟩,_⟩:=numA_sound h hv
 simp only [Value.agg.injEq] at e
 have e:=congrArg Array.toList e
 exact ⟨_,_,_,_,e,h1,h2⟩
theorem litL_cells:∀ {n:Nat} {l:List AV} {e:CE} {cs:List Value},litL n l=some e → @Rps (envD V) ρ M w l cs→(lD V e).length=n∧RatCells w (lD V e) cs
 | 0,[],e,cs,h,r=>by
  unfold litL at h
  cases h
  unfold Rps at r
  exact ⟨by simp [lD],by rw [r]; simp [lD,RatCells]⟩
 | k+1,a :: l,e,cs,h,r=>by
  unfold litL at h
  split at h
  ·rename_i q n e' hq hl
   cases h
   unfold Rps at r
   obtain ⟨x,y,rfl,r1,r2⟩:=r
   obtain ⟨p,u,s,t,rfl,i1,i2⟩:=num_cells hq r1
   obtain ⟨h1,h2⟩:=litL_cells hl r2
   have he:lD V (.ap 80 q e')=qD V q :: lD V e':=by simp only [lD]
   rw [he]
   exact ⟨by rw [List.length_cons,h1],p,u,s,t,y,rfl,i1,i2,h2⟩
  ·cases h
 | 0,_ :: _,_,_,h,_=>by unfold litL at h; cases h
 | _+1,[],_,_,h,_=>by unfold litL at h; cases h
theorem litX_sound {T:TypeId} {n:Nat} {l:List AV} (h:litX F T n l=some r) {g:Nat} {cs:List Value} (hm:¬ M g) (hg:g<w.heap.size) (hr:w.rangeAt g 0 cs) {ρ':Rho} (hc:@Rps (envD V) ρ' M w l cs):@RV (envD V) ρ M w r (.slice (some ⟨g,0,none⟩) n n):=by
 unfold litX at h
 split at h
 ·obtain ⟨e,he,rfl⟩:=Option.map_eq_some_iff.1 h
  obtain ⟨h1,h2⟩:=litL_cells he hc
  refine @RV1.rv (envD V) ρ M w _ _ (aL_in ⟨some ⟨g,0,none⟩,n,by rw [h1],Nat.le_of_eq h1,fun _=>⟨g,0,cs,rfl,hm,hg,hr,h2⟩⟩)
 ·cases h
theorem ratCells_opt:∀ {l:List Rat} {cs:List Value},RatCells w l cs→OptCells w (l.map some) cs
 | [],_,h=>h
 | _ :: _,_,⟨a,b,c,d,r,e,h1,h2,h3⟩=>⟨a,b,c,d,r,e,h1,h2,ratCells_opt h3⟩
theorem appL_sound (hF:FaOK V F) {T et:TypeId} {e c n:CE} (h:appL F T e=some (et,c,n)):tyOk et=true∧Tryz.prog.underlying T=some (.slice et)∧(∃ i z,Tryz.prog.info? et=some i∧i.zero=some z∧i.size=4∧z.cells.size=4∧i.bytes≤1048576)∧1≤(envD V).N n∧(envD V).N n≤1048576 ∧
  ∀ (M:Nat→Prop) (w:World) (v:Value),((envD V).X e).p M w [v]→∃ g off xs k,v = .slice (some ⟨g,off,none⟩) ((envD V).N n) k∧w.rangeAt g off xs∧xs.length=(envD V).N n*4∧((envD V).B c).p M w xs:=by
 unfold appL at h
 split at h
 ·rename_i e d
  split at h
  ·rename_i n hn
   split at h
   ·rename_i hc
    simp only [Bool.and_eq_true] at hc
    obtain ⟨⟨hT,h1⟩,h2⟩:=hc
    cases h
    have h1:=leI_sound hF h1
    have h2:=leI_sound hF h2
    have hlen:=hF.len _ (lkC_mem hn)
    have e0:iD V n=V.z n.1+n.2:=rfl
    have e01:iD V (0,1)=1:=by unfold iD; simp [hF.z0]
    have e02:iD V (0,1048576)=1048576:=by unfold iD; simp [hF.z0]
    rw [e01] at h1
    rw [e02] at h2
    simp only [] at hlen
    have hN:(envD V).N (.ap 61 (.i n.1 n.2) (.lit 0))=(lD V e).length:=by
     show (zD V (.i n.1 n.2)).toNat=_
     rw [zD_i]
     show (iD V n).toNat=_
     omega
    obtain ⟨i,z,q1,q2,q3,q4,q5⟩:=ratZero
    refine ⟨ratTyOk,isRats_get hT,⟨i,z,q1,q2,q3,by rw [← Array.length_toList,q5]; rfl,q4⟩,by rw [hN]; omega,by rw [hN]; omega,fun M w v hv=>?_⟩
    obtain ⟨A,c,k1,k2,k3⟩:=hv
    obtain ⟨g,off,xs,rfl,_,_,hr,hcs⟩:=k3 (by omega)
    have ho:=ratCells_opt hcs
    refine ⟨g,off,xs,c,by rw [hN]; exact (List.cons.inj k1).1,hr,?_,?_⟩
    ·rw [ho.len,List.length_map,hN,Nat.mul_comm]
    ·show OptCells w (rD V (.ap 42 e (.lit 0))) xs
     simp only [rD]
     exact ho
   ·cases h
  ·cases h
 ·cases h
theorem stdX_ok (hF:FaOK V F):@XTOK (envD V) (stdX F):=by
 refine @XTOK.mk (envD V) (stdX F) ?_ ?_ ?_ ?_ ?_ ?_ ?_
 ·exact fun k xs r h ρ M w ρv ys _ hv=>pureX_sound hF h hv
 ·exact fun T j a p h ρ M w g k v hv=>idxR_sound hF h hv
 ·exact fun T c p r h ρ M w g cs hr hb=>loadX_sound hF h hr hb
 ·exact fun T c p a c' h ρ M w cs v hb hv=>storeX_sound hF h hb hv
 ·exact fun T x y e c j h=>makeX_sound hF h
 ·intro T n l r h ρ M w g cs hm hg hr hc
  simp only [stdX] at h
  exact @litX_sound V F ρ M w r T n l h g cs hm hg hr ρ hc
 ·intro T e et c n h
  simp only [stdX] at h
  exact appL_sound hF h
end
end Go.Proofs.YtgaehhapjnbieaaGreat
namespace Go.Proofs.YtgaehhapjnbieaaGreat
set_option maxRecDepth 100000
theorem sanity3_run:callW plainL (runA ⟨primOf primL,.none,noC⟩ plainL 3000) 10 [] [] 16 0=some (.val (.bool true),[]):=by kernel_rfl
def XP.nothing:XP:=⟨fun _ _ _=>False,fun _ _ _ _ _ _ _ _ h=>h,fun _ _ _ h=>h.elim⟩
@[reducible] def env0:Env:=⟨fun _=>XP.nothing,fun _=>XP.nothing,fun _=>0,fun _=>0⟩
theorem sanity3_any (w:World):Calls Tryz.prog 10 #[] w (GivesP (eqF (.bool true)) w):=
 letI:=env0
 Calls.mono (vm_calls ⟨primL_ok,XTOK.no,noC_ok⟩ plainL_ok sanity3_run (w:=w) (vs:=[]) rfl) fun _ _ ⟨v,e,⟨_,_,h⟩,hb⟩=>⟨v,e,h,hb⟩
end Go.Proofs.YtgaehhapjnbieaaGreat
