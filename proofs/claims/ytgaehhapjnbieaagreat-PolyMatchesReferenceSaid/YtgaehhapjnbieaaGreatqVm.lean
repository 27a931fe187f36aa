/- An abstract machine: the contracts of numbers. -/
import Derived.Test.YtgaehhapjnbieaaGreatqVd
import Derived.Test.YtgaehhapjnbieaaGreatqQr
set_option linter.unusedSectionVars false
set_option linter.unusedVariables false
set_option linter.unusedSimpArgs false
set_option maxRecDepth 100000
namespace Go.Proofs.YtgaehhapjnbieaaGreat
open Go.RowKit
section
variable [Dn]
section
variable {ρ : B6} {M : Nat → Prop} {w : World} {v : Value}
theorem IV{x y:Value}{z:Int}(h:Aw w (.agg #[x,y]) z):∃ b A k c,x = .bool b∧y = .slice A k c:=by
 obtain ⟨s,e,A,c,e2,_⟩:=h;simp only [Value.agg.injEq] at e;have e:=congrArg Array.toList e;simp only [List.cons.injEq] at e;exact ⟨_,_,_,_,e.1,e.2.1.trans e2⟩
theorem AeN{n d:Int}{q:Rat}(hn:q.num=n)(hd:(q.den:Int)=d)(h:(DH n d).p v w):Co ρ M w (.rat q) v:=by
 obtain ⟨b,A,k,c,b',A',k',c',rfl,h1,h2⟩:=h;refine ⟨_,rfl,?_⟩;unfold Rp;exact ⟨_,_,_,_,rfl,hn ▸ h1,hd ▸ h2⟩
theorem Fy{q:Rat}(h:(As q).p v w):Co ρ M w (.rat q) v:=AeN rfl rfl h
theorem AaO{n d:Int}(h:(DH n d).p v w):Co ρ M w (.agg [.num n,.num d]) v:=by
 obtain ⟨b,A,k,c,b',A',k',c',rfl,h1,h2⟩:=h;refine ⟨_,rfl,?_⟩;unfold BC;refine ⟨[_,_],[_,_],rfl,by unfold Rp; exact ⟨_,_,rfl,h1⟩,BC.one ?_⟩;unfold Rp;exact ⟨_,_,rfl,h2⟩
theorem Akz{z:Int}(h:(Ah z).p v w):Co ρ M w (.num z) v:=by
 obtain ⟨s,e,hs⟩:=h;refine ⟨#[.bool (decide (z<0)),s],e,?_⟩;unfold Rp;exact ⟨_,_,rfl,s,rfl,hs⟩
def WM:AV→Option Rat
 | .rat q=>some q
 | .agg [.rat q]=>some q
 | .agg [.num a,.num b]=>if decide ((mkRat a b.toNat).num=a) && decide (((mkRat a b.toNat).den:Int)=b) then some (mkRat a b.toNat) else none
 | _=>none
theorem Ss{q:Rat}{cs:List Value}(h:Rp ρ M w (.rat q) cs):(As q).p (.agg cs.toArray) w:=by
 unfold Rp at h;obtain ⟨a,b,c,d,rfl,h1,h2⟩:=h;obtain ⟨x,A,k,e,rfl,rfl⟩:=IV h1;obtain ⟨x',A',k',e',rfl,rfl⟩:=IV h2;exact ⟨x,A,k,e,x',A',k',e',rfl,h1,h2⟩
theorem Cl{a:AV}{q:Rat}(h:WM a=some q)(hv:Co ρ M w a v):(As q).p v w:=by
 unfold WM at h;split at h
 ·cases h
  obtain ⟨cs,rfl,hc⟩:=hv;have:=Ss hc;rwa [Array.toArray_toList] at this
 ·cases h
  obtain ⟨cs,rfl,hc⟩:=hv;have:=Ss hc.one';rwa [Array.toArray_toList] at this
 ·rename_i a b
  split at h
  ·rename_i hc
   cases h
   rw [Bool.and_eq_true] at hc;have e1:=of_decide_eq_true hc.1;have e2:=of_decide_eq_true hc.2;obtain ⟨cs,rfl,hcs⟩:=hv;unfold BC at hcs;obtain ⟨x,y,e,r1,r2⟩:=hcs;have r2:=r2.one';unfold Rp at r1 r2;obtain ⟨x1,x2,rfl,i1⟩:=r1;obtain ⟨y1,y2,rfl,i2⟩:=r2;obtain ⟨b1,A,k,c,rfl,rfl⟩:=IV i1;obtain ⟨b2,A',k',c',rfl,rfl⟩:=IV i2;refine ⟨b1,A,k,c,b2,A',k',c',?_,e1.symm ▸ i1,e2.symm ▸ i2⟩
   congr 1
   apply Array.ext';exact e
  ·cases h
 ·cases h
def WW:AV→Option Int
 | .num z=>some z
 | .agg [.num z]=>some z
 | _=>none
theorem pN{z:Int}{cs:List Value}(h:Rp ρ M w (.num z) cs):(Ah z).p (.agg cs.toArray) w:=by
 unfold Rp at h;obtain ⟨a,b,rfl,h⟩:=h;exact h
theorem IP{a:AV}{z:Int}(h:WW a=some z)(hv:Co ρ M w a v):(Ah z).p v w:=by
 unfold WW at h;split at h
 ·cases h
  obtain ⟨cs,rfl,hc⟩:=hv;have:=pN hc;rwa [Array.toArray_toList] at this
 ·cases h
  obtain ⟨cs,rfl,hc⟩:=hv;have:=pN hc.one';rwa [Array.toArray_toList] at this
 ·cases h
end
def smQ(q:Rat):Bool:=Nat.blt q.num.natAbs (4294967296 ^ 100) && Nat.blt q.den (4294967296 ^ 100)
theorem Jh{q:Rat}(h:smQ q=true):At q 100:=by
 unfold smQ at h;rw [Bool.and_eq_true] at h;have h1:=Nat.le_of_ble_eq_true h.1;have h2:=Nat.le_of_ble_eq_true h.2;exact ⟨h1,by unfold Sm; rw [Int.natAbs_natCast]; exact h2⟩
def smZ(z:Int):Bool:=Nat.blt z.natAbs (4294967296 ^ 100)
theorem Mb{z:Int}(h:smZ z=true):Sm z 100:=Nat.le_of_ble_eq_true h
def vZ(z:Int):Bool:=decide (-9223372036854775808≤z) && decide (z≤9223372036854775807)
theorem E9{z:Int}(h:vZ z=true) : -9223372036854775808≤z∧z≤9223372036854775807:=by
 unfold vZ at h;rw [Bool.and_eq_true] at h;exact ⟨of_decide_eq_true h.1,of_decide_eq_true h.2⟩
structure PE where
 f:Nat
 g:List AV→Option AV
def PE.ok(e:PE):Prop:=∀ xs r,e.g xs=some r→Br e.f∧∀(ρ:B6)(M:Nat→Prop)(w:World)(vs:List Value),(∀ b,M b→b<w.heap.size)→Cz ρ M w xs vs →
 Calls Tryz.prog e.f vs.toArray w λe w'=>∃ v,e = .returned v∧RV ρ M w' r v∧Below w.heap.size w w'
def lkP:List PE→Nat→Option (List AV→Option AV)
 | [],_=>none
 | e :: l,f=>if Nat.beq e.f f then some e.g else lkP l f
def Ke(l:List PE):oT:=λf xs=>match lkP l f with
 | some g=>g xs
 | none=>none
theorem Q8{l:List PE}(h:∀ e∈l,e.ok):LO (Ke l):=by
 intro f xs r e;unfold Ke at e;split at e
 ·rename_i g hg
  have key:∀ l:List PE,(∀ e∈l,e.ok)→lkP l f=some g→∃ e∈l,e.f=f∧e.g=g:=by
   intro l
   induction l with
   | nil=>intro _ h; cases h
   | cons x r ih =>
    intro h hl;unfold lkP at hl;split at hl
    ·rename_i hb
     exact ⟨x,by simp,Nat.eq_of_beq_eq_true hb,Option.some.inj hl⟩
    ·obtain ⟨e,h1,h2⟩:=ih (λe he=>h e (by simp [he])) hl
     exact ⟨e,by simp [h1],h2⟩
  obtain ⟨e0,h1,rfl,rfl⟩:=key l h hg;exact h e0 h1 xs r e
 ·cases e
section
variable {f : Nat}
def r2(g:Rat→Rat→Option AV):List AV→Option AV
 | [x,y]=>match WM x,WM y with
  | some a,some b=>if smQ a && smQ b then g a b else none
  | _,_=>none
 | _=>none
def r1(g:Rat→Option AV):List AV→Option AV
 | [x]=>match WM x with
  | some a=>if smQ a then g a else none
  | none=>none
 | _=>none
def z2(g:Int→Int→Option AV):List AV→Option AV
 | [x,y]=>match WW x,WW y with
  | some a,some b=>if smZ a && smZ b then g a b else none
  | _,_=>none
 | _=>none
def z1(g:Int→Option AV):List AV→Option AV
 | [x]=>match WW x with
  | some a=>if smZ a then g a else none
  | none=>none
 | _=>none
def n1(g:Int→Option AV):List AV→Option AV
 | [.val (.int .i64 z)]=>if vZ z then g z else none
 | _=>none
def n2(g:Int→Int→Option AV):List AV→Option AV
 | [.val (.int .i64 y),.val (.int .i64 z)]=>if vZ y && vZ z then g y z else none
 | _=>none
theorem Jy{g:Rat→Rat→Option AV}(pl:Br f)(h:∀ a b r,At a 100→At b 100→g a b=some r→∀ ρ M w va vb,(As a).p va w→(As b).p vb w→∃ R:PF,Calls Tryz.prog f #[va,vb] w (Ak R w)∧∀ v w',R.p v w'→RV ρ M w' r v):PE.ok ⟨f,r2 g⟩:=by
 intro xs r e;change r2 g xs=some r at e;refine ⟨pl,λρ M w vs _ hv=>?_⟩;unfold r2 at e;split at e
 ·rename_i x y
  split at e
  ·rename_i a b ha hb
   split at e
   ·rename_i hs
    rw [Bool.and_eq_true] at hs;obtain ⟨va,_,rfl,h1,vb,_,rfl,h2,h3⟩:=hv;have h3:_=[]:=h3;subst h3;obtain ⟨R,hc,hR⟩:=h a b r (Jh hs.1) (Jh hs.2) e ρ M w va vb (Cl ha h1) (Cl hb h2);exact Calls.mono hc λe w' ⟨v,e1,e2,e3⟩=>⟨v,e1,hR v w' e2,e3⟩
   ·cases e
  ·cases e
 ·cases e
theorem dS{g:Rat→Option AV}(pl:Br f)(h:∀ a r,At a 100→g a=some r→∀ ρ M w va,(As a).p va w→∃ R:PF,Calls Tryz.prog f #[va] w (Ak R w)∧∀ v w',R.p v w'→RV ρ M w' r v):PE.ok ⟨f,r1 g⟩:=by
 intro xs r e;change r1 g xs=some r at e;refine ⟨pl,λρ M w vs _ hv=>?_⟩;unfold r1 at e;split at e
 ·rename_i x
  split at e
  ·rename_i a ha
   split at e
   ·rename_i hs
    obtain ⟨va,_,rfl,h1,h3⟩:=hv;have h3:_=[]:=h3;subst h3;obtain ⟨R,hc,hR⟩:=h a r (Jh hs) e ρ M w va (Cl ha h1);exact Calls.mono hc λe w' ⟨v,e1,e2,e3⟩=>⟨v,e1,hR v w' e2,e3⟩
   ·cases e
  ·cases e
 ·cases e
theorem Al4{g:Int→Int→Option AV}(pl:Br f)(h:∀ a b r,Sm a 100→Sm b 100→g a b=some r→∀ ρ M w va vb,(Ah a).p va w→(Ah b).p vb w→∃ R:PF,Calls Tryz.prog f #[va,vb] w (Ak R w)∧∀ v w',R.p v w'→RV ρ M w' r v):PE.ok ⟨f,z2 g⟩:=by
 intro xs r e;change z2 g xs=some r at e;refine ⟨pl,λρ M w vs _ hv=>?_⟩;unfold z2 at e;split at e
 ·rename_i x y
  split at e
  ·rename_i a b ha hb
   split at e
   ·rename_i hs
    rw [Bool.and_eq_true] at hs;obtain ⟨va,_,rfl,h1,vb,_,rfl,h2,h3⟩:=hv;have h3:_=[]:=h3;subst h3;obtain ⟨R,hc,hR⟩:=h a b r (Mb hs.1) (Mb hs.2) e ρ M w va vb (IP ha h1) (IP hb h2);exact Calls.mono hc λe w' ⟨v,e1,e2,e3⟩=>⟨v,e1,hR v w' e2,e3⟩
   ·cases e
  ·cases e
 ·cases e
theorem yG{g:Int→Option AV}(pl:Br f)(h:∀ a r,Sm a 100→g a=some r→∀ ρ M w va,(Ah a).p va w→∃ R:PF,Calls Tryz.prog f #[va] w (Ak R w)∧∀ v w',R.p v w'→RV ρ M w' r v):PE.ok ⟨f,z1 g⟩:=by
 intro xs r e;change z1 g xs=some r at e;refine ⟨pl,λρ M w vs _ hv=>?_⟩;unfold z1 at e;split at e
 ·rename_i x
  split at e
  ·rename_i a ha
   split at e
   ·rename_i hs
    obtain ⟨va,_,rfl,h1,h3⟩:=hv;have h3:_=[]:=h3;subst h3;obtain ⟨R,hc,hR⟩:=h a r (Mb hs) e ρ M w va (IP ha h1);exact Calls.mono hc λe w' ⟨v,e1,e2,e3⟩=>⟨v,e1,hR v w' e2,e3⟩
   ·cases e
  ·cases e
 ·cases e
theorem AhK{g:Int→Option AV}(pl:Br f)(h:∀ z r,-9223372036854775808≤z→z≤9223372036854775807→g z=some r→∀ ρ M w,∃ R:PF,Calls Tryz.prog f #[.int .i64 z] w (Ak R w)∧∀ v w',R.p v w'→RV ρ M w' r v):PE.ok ⟨f,n1 g⟩:=by
 intro xs r e;change n1 g xs=some r at e;refine ⟨pl,λρ M w vs _ hv=>?_⟩;unfold n1 at e;split at e
 ·rename_i z
  split at e
  ·rename_i hs
   obtain ⟨va,_,rfl,h1,h3⟩:=hv;have h3:_=[]:=h3;have h1:va = .int .i64 z:=h1;subst h3;subst h1;obtain ⟨R,hc,hR⟩:=h z r (E9 hs).1 (E9 hs).2 e ρ M w;exact Calls.mono hc λe w' ⟨v,e1,e2,e3⟩=>⟨v,e1,hR v w' e2,e3⟩
  ·cases e
 ·cases e
theorem ApN{g:Int→Int→Option AV}(pl:Br f)(h:∀ y z r,-9223372036854775808≤y→y≤9223372036854775807 → -9223372036854775808≤z→z≤9223372036854775807→g y z=some r→∀ ρ M w,∃ R:PF,Calls Tryz.prog f #[.int .i64 y,.int .i64 z] w (Ak R w)∧∀ v w',R.p v w'→RV ρ M w' r v):PE.ok ⟨f,n2 g⟩:=by
 intro xs r e;change n2 g xs=some r at e;refine ⟨pl,λρ M w vs _ hv=>?_⟩;unfold n2 at e;split at e
 ·rename_i y z
  split at e
  ·rename_i hs
   rw [Bool.and_eq_true] at hs;obtain ⟨va,_,rfl,h1,vb,_,rfl,h2,h3⟩:=hv;have h3:_=[]:=h3;have h1:va = .int .i64 y:=h1;have h2:vb = .int .i64 z:=h2;subst h3;subst h1;subst h2;obtain ⟨R,hc,hR⟩:=h y z r (E9 hs.1).1 (E9 hs.1).2 (E9 hs.2).1 (E9 hs.2).2 e ρ M w;exact Calls.mono hc λe w' ⟨v,e1,e2,e3⟩=>⟨v,e1,hR v w' e2,e3⟩
  ·cases e
 ·cases e
end
theorem JW{ρ:B6}{M:Nat→Prop}{w:World}{u v:Value}(h:(Ap u).p v w):RV ρ M w (.val u) v:=h
theorem cK{ρ:B6}{M:Nat→Prop}{w:World}{q:Rat}{u v:Value}(h:(CJ (As q) (Ap u)).p v w):RV ρ M w (.tup [.rat q,.val u]) v:=by
 obtain ⟨a,b,rfl,h1,h2⟩:=h;exact ⟨_,rfl,a,_,rfl,Fy h1,b,_,rfl,h2,rfl⟩
theorem kZ{ρ:B6}{M:Nat→Prop}{w:World}{u v:Value}(h:(CJ (DH 0 0) (Ap u)).p v w):RV ρ M w (.tup [.agg [.num 0,.num 0],.val u]) v:=by
 obtain ⟨a,b,rfl,h1,h2⟩:=h;exact ⟨_,rfl,a,_,rfl,AaO h1,b,_,rfl,h2,rfl⟩
def Aez(a b:Rat):Option AV:=if b=0 then some (.tup [.agg [.num 0,.num 0],.val (.int .i64 3)]) else some (.tup [.rat (a / b),.val (.int .i64 0)])
noncomputable def vH:PE:=⟨72,r2 λa b=>some (.rat (a+b))⟩
noncomputable def AbA:PE:=⟨57,r2 λa b=>some (.rat (a - b))⟩
noncomputable def uT:PE:=⟨58,r2 λa b=>some (.rat (a*b))⟩
noncomputable def AgM:PE:=⟨99,r2 Aez⟩
noncomputable def zG:PE:=⟨84,r2 λa b=>some (.val (.int .i64 (DR a b)))⟩
noncomputable def X_:PE:=⟨100,r1 λa=>some (.val (.int .i64 (DR a 0)))⟩
noncomputable def rX:PE:=⟨102,r1 λa=>some (.rat (-a))⟩
noncomputable def UR:PE:=⟨63,n1 λz=>some (.rat (z:Rat))⟩
noncomputable def Acg:PE:=⟨40,r2 λa b=>some (.rat (a+b))⟩
noncomputable def Ahk:PE:=⟨81,r2 λa b=>some (.rat (a - b))⟩
noncomputable def Abw:PE:=⟨42,r2 λa b=>some (.rat (a*b))⟩
noncomputable def Ahu:PE:=⟨105,r2 Aez⟩
noncomputable def sH:PE:=⟨32,r2 λa b=>some (.val (.int .i64 (DR a b)))⟩
noncomputable def Zu:PE:=⟨48,r1 λa=>some (.val (.int .i64 (DR a 0)))⟩
noncomputable def pL:PE:=⟨41,r1 λa=>some (.rat (-a))⟩
noncomputable def kE:PE:=⟨39,n1 λz=>some (.rat (z:Rat))⟩
noncomputable def AaB:PE:=⟨50,n2 λy z=>if z=0 then none else some (.rat (Rat.divInt y z))⟩
noncomputable def cQ:PE:=⟨111,z1 λ_=>some (.val (.bool true))⟩
noncomputable def wZ:PE:=⟨112,z1 λa=>some (.val (.int .i64 a.sign))⟩
noncomputable def Agl:PE:=⟨114,z2 λa b=>some (.num ((Int.gcd a b:Nat):Int))⟩
noncomputable def Agc:PE:=⟨113,z1 λa=>some (.val (.bool (decide (a=1))))⟩
noncomputable def kV:PE:=⟨120,λxs=>match xs with | [.val (.int .u64 z)]=>if decide (0≤z) && decide (z≤18446744073709551615) then some (.val (.int .i64 (Lib.bitLen z.toNat))) else none | _=>none⟩
section
theorem Xa:vH.ok:=Jy (λ_ _=>by simp [go_sem]) λa b r sa sb e ρ M w va vb ha hb=>by cases e; exact ⟨_,Ahp ha hb sa sb (by decide) (by decide),λv w' h=>(Fy h).rv⟩
theorem Xj:AbA.ok:=Jy (λ_ _=>by simp [go_sem]) λa b r sa sb e ρ M w va vb ha hb=>by cases e; exact ⟨_,Ahh ha hb sa sb (by decide) (by decide),λv w' h=>(Fy h).rv⟩
theorem Wv:uT.ok:=Jy (λ_ _=>by simp [go_sem]) λa b r sa sb e ρ M w va vb ha hb=>by cases e; exact ⟨_,cW ha hb sa sb (by decide) (by decide),λv w' h=>(Fy h).rv⟩
theorem qQ:AgM.ok:=Jy (λ_ _=>by simp [go_sem]) λa b r sa sb e ρ M w va vb ha hb=>by
 unfold Aez at e;split at e
 ·rename_i h0
  cases e
  exact ⟨_,Aka ha hb sa sb (by decide) (by decide) h0,λv w' h=>kZ h⟩
 ·rename_i h0
  cases e
  exact ⟨_,AgA ha hb sa sb (by decide) (by decide) h0,λv w' h=>cK h⟩
theorem U5:zG.ok:=Jy (λ_ _=>by simp [go_sem]) λa b r sa sb e ρ M w va vb ha hb=>by cases e; exact ⟨_,AhF ha hb sa sb (by decide) (by decide),λv w' h=>JW h⟩
theorem QJ:X_.ok:=dS (λ_ _=>by simp [go_sem]) λa r sa e ρ M w va ha=>by cases e; exact ⟨_,SU ha sa (by decide),λv w' h=>JW h⟩
theorem WD:rX.ok:=dS (λ_ _=>by simp [go_sem]) λa r sa e ρ M w va ha=>by cases e; exact ⟨_,Ahd ha sa (by decide),λv w' h=>(Fy h).rv⟩
theorem OI:UR.ok:=AhK (λ_ _=>by simp [go_sem]) λz r h0 h1 e ρ M w=>by cases e; exact ⟨_,fG z h0 h1 rfl,λv w' h=>(Fy h).rv⟩
theorem V8:Acg.ok:=Jy (λ_ _=>by simp [go_sem]) λa b r sa sb e ρ M w va vb ha hb=>by cases e; exact ⟨_,AhR ha hb sa sb (by decide) (by decide),λv w' h=>(Fy h).rv⟩
theorem rI:Ahk.ok:=Jy (λ_ _=>by simp [go_sem]) λa b r sa sb e ρ M w va vb ha hb=>by cases e; exact ⟨_,AoR ha hb sa sb (by decide) (by decide),λv w' h=>(Fy h).rv⟩
theorem VH:Abw.ok:=Jy (λ_ _=>by simp [go_sem]) λa b r sa sb e ρ M w va vb ha hb=>by cases e; exact ⟨_,Agx ha hb sa sb (by decide) (by decide),λv w' h=>(Fy h).rv⟩
theorem AbS:Ahu.ok:=Jy (λ_ _=>by simp [go_sem]) λa b r sa sb e ρ M w va vb ha hb=>by
 unfold Aez at e;split at e
 ·rename_i h0
  cases e
  exact ⟨_,AiA ha hb sa sb (by decide) (by decide) h0,λv w' h=>kZ h⟩
 ·rename_i h0
  cases e
  exact ⟨_,Ah0 ha hb sa sb (by decide) (by decide) h0,λv w' h=>cK h⟩
theorem Wa:sH.ok:=Jy (λ_ _=>by simp [go_sem]) λa b r sa sb e ρ M w va vb ha hb=>by cases e; exact ⟨_,AfX ha hb sa sb (by decide) (by decide),λv w' h=>JW h⟩
theorem Q7:Zu.ok:=dS (λ_ _=>by simp [go_sem]) λa r sa e ρ M w va ha=>by cases e; exact ⟨_,Ab8 ha sa (by decide),λv w' h=>JW h⟩
theorem Vm:pL.ok:=dS (λ_ _=>by simp [go_sem]) λa r sa e ρ M w va ha=>by cases e; exact ⟨_,Ahm ha sa (by decide),λv w' h=>(Fy h).rv⟩
theorem Zq:kE.ok:=AhK (λ_ _=>by simp [go_sem]) λz r h0 h1 e ρ M w=>by cases e; exact ⟨_,AeL z h0 h1 rfl,λv w' h=>(Fy h).rv⟩
theorem lV:AaB.ok:=ApN (λ_ _=>by simp [go_sem]) λy z r h0 h1 h2 h3 e ρ M w=>by
 split at e
 ·cases e
 ·rename_i hz
  cases e
  exact ⟨_,Ajx rfl rfl h0 h1 h2 h3 hz,λv w' h=>(Fy h).rv⟩
theorem YT:cQ.ok:=yG (λ_ _=>by simp [go_sem]) λa r sa e ρ M w va ha=>by cases e; exact ⟨_,Z5 ha sa (by decide),λv w' h=>JW h⟩
theorem nM:wZ.ok:=yG (λ_ _=>by simp [go_sem]) λa r sa e ρ M w va ha=>by cases e; exact ⟨_,zY ha sa (by decide),λv w' h=>JW h⟩
theorem qZ:Agl.ok:=Al4 (λ_ _=>by simp [go_sem]) λa b r sa sb e ρ M w va vb ha hb=>by cases e; exact ⟨_,AcG ha hb sa sb (by decide) (by decide),λv w' h=>(Akz h).rv⟩
theorem xR:Agc.ok:=yG (λ_ _=>by simp [go_sem]) λa r sa e ρ M w va ha=>by cases e; exact ⟨_,AlQ ha sa (by decide),λv w' h=>JW h⟩
theorem rR:kV.ok:=by
 intro xs r e;refine ⟨λ_ _=>by simp [kV,go_sem],λρ M w vs _ hv=>?_⟩;simp only [kV] at e;split at e
 ·rename_i z
  split at e
  ·rename_i hc
   cases e
   rw [Bool.and_eq_true] at hc;obtain ⟨va,_,rfl,h1,h3⟩:=hv;have h3:_=[]:=h3;have h1:va = .int .u64 z:=h1;subst h3;subst h1;refine (Tryz.bits_Len z w (of_decide_eq_true hc.1) (of_decide_eq_true hc.2)).mono ?_
   rintro e w' ⟨rfl,rfl⟩
   exact ⟨_,rfl,rfl,Below.refl _ _⟩
  ·cases e
 ·cases e
end
noncomputable def WV:List PE:=[vH,uT,AbA,sH,X_,Zu,Acg,Abw,AgM,UR,kE,zG,rX,Ahk,Ahu,pL,AaB,cQ,wZ,Agl,Agc,kV]
theorem QI:∀ e∈WV,PE.ok e:=λe he=>by
 simp only [WV,List.mem_cons,List.not_mem_nil,or_false] at he
 rcases he with rfl | rfl | rfl | rfl | rfl | rfl | rfl | rfl | rfl | rfl | rfl | rfl | rfl | rfl | rfl | rfl | rfl | rfl | rfl | rfl | rfl | rfl
 ·exact Xa
 ·exact Wv
 ·exact Xj
 ·exact Wa
 ·exact QJ
 ·exact Q7
 ·exact V8
 ·exact VH
 ·exact qQ
 ·exact OI
 ·exact Zq
 ·exact U5
 ·exact WD
 ·exact rI
 ·exact AbS
 ·exact Vm
 ·exact lV
 ·exact YT
 ·exact nM
 ·exact qZ
 ·exact xR
 ·exact rR
theorem wQ:LO (Ke WV):=Q8 QI
end
noncomputable def Am:List Nat:=[66,67,107,20,30,80,13,37,83,33,15,18,28,24,77,46,26,79,35,44,22,52,38,64,93,109,76,71,108,62,91,95,56,68,92,65,94,55,6,5,7,3,9,4,8,43,11,12,10,21,96,31,14,17,34,16,19,49,60,53,29,25,75,59,45,70,47,51,27,36,23,97,74,73,61,69,78,85,54,82]
theorem CV:∀ f∈Am,Br f:=λf h=>by
 simp only [Am,List.mem_cons,List.not_mem_nil,or_false] at h
 rcases h with rfl | rfl | rfl | rfl | rfl | rfl | rfl | rfl | rfl | rfl | rfl | rfl | rfl | rfl | rfl | rfl | rfl | rfl | rfl | rfl | rfl | rfl | rfl | rfl | rfl | rfl | rfl | rfl | rfl | rfl | rfl | rfl | rfl | rfl | rfl | rfl | rfl | rfl | rfl | rfl | rfl | rfl | rfl | rfl | rfl | rfl | rfl | rfl | rfl | rfl | rfl | rfl | rfl | rfl | rfl | rfl | rfl | rfl | rfl | rfl | rfl | rfl | rfl | rfl | rfl | rfl | rfl | rfl | rfl | rfl | rfl | rfl | rfl | rfl | rfl | rfl | rfl | rfl | rfl | rfl
 all_goals exact λ_ _=>by simp [go_sem]
section
structure VL where
 z:Nat→Int
 l:Nat→List Rat
 q:Nat→Rat
 r:Nat→List (Option Rat)
abbrev CE.i(k:Nat)(c:Int):CE:=.ap 1 (.v k) (.lit c)
def zD(V:VL):CE→Int
 | .ap 1 (.v k) (.lit c)=>V.z k+c
 | .ap 2 (.v k) (.lit c)=>((V.l k).getD c.toNat 0).num
 | _=>0
def Cd(l:List Rat):List Rat:=(l.reverse.dropWhile (λx=>decide (x=0))).reverse
def DL(a b:List Rat):List Rat:=Cd ((List.range (max a.length b.length)).map λi=>a.getD i 0+b.getD i 0)
def CO(a b:List Rat):List Rat:=Cd ((List.range (max a.length b.length)).map λi=>a.getD i 0 - b.getD i 0)
def AJ(a:List Rat)(c:Rat):List Rat:=Cd (a.map λx=>c*x)
def Ia(a:List Rat):List Rat:=Cd ((List.range (a.length - 1)).map λi=>(((i+1:Nat):Int):Rat)*a.getD (i+1) 0)
def D_(R:List Rat)(x:Rat)(b:List Rat)(i:Nat):Nat→List Rat
 | 0=>R
 | j+1=>(D_ R x b i j).set (i+j) ((D_ R x b i j).getD (i+j) 0+x*b.getD j 0)
def BW(a b:List Rat):Nat→List Rat
 | 0=>List.replicate (a.length+b.length - 1) 0
 | i+1=>D_ (BW a b i) (a.getD i 0) b i b.length
def mulL(a b:List Rat):List Rat:=if a=[] ∨ b=[] then [] else BW a b a.length
def GE(a:List Rat)(x:Rat):Rat:=a.foldr (λc y=>y*x+c) 0
def uM:List Rat→Rat→List Rat
 | [],_=>[]
 | a :: l,c =>
  let s:=uM l c
  (List.range (s.length+1)).map λi=>(if i=0 then a else 0)+(if i=0 then 0 else s.getD (i - 1) 0)+c*s.getD i 0
mutual
def lD(V:VL):CE→List Rat
 | .v k=>V.l k
 | .ap 20 e i=>(lD V e).take (zD V i).toNat
 | .ap 70 e _=>Cd (lD V e)
 | .ap 71 a b=>DL (lD V a) (lD V b)
 | .ap 72 a b=>CO (lD V a) (lD V b)
 | .ap 73 a b=>mulL (lD V a) (lD V b)
 | .ap 74 a c=>AJ (lD V a) (qD V c)
 | .ap 75 a _=>Ia (lD V a)
 | .ap 76 a c=>Cd (uM (lD V a) (qD V c))
 | .ap 77 e _=>(lD V e).take ((lD V e).length / 2)
 | .ap 80 q e=>qD V q :: lD V e
 | _=>[]
def qD(V:VL):CE→Rat
 | .v k=>V.q k
 | .ap 30 e i=>(lD V e).getD (zD V i).toNat 0
 | .ap 31 a b=>qD V a+qD V b
 | .ap 32 a b=>qD V a - qD V b
 | .ap 33 a b=>qD V a*qD V b
 | .ap 34 a _=>-qD V a
 | .ap 35 r i=>((rD V r).getD (zD V i).toNat none).getD 0
 | .ap 36 (.lit n) (.lit d)=>mkRat n d.toNat
 | .ap 37 i _=>((zD V i:Int):Rat)
 | .ap 38 e x=>GE (lD V e) (qD V x)
 | .ap 39 i j=>if zD V j=0 then (zD V i:Rat) else Rat.divInt (zD V i) (zD V j)
 | _=>0
def rD(V:VL):CE→List (Option Rat)
 | .v k=>V.r k
 | .ap 40 n _=>List.replicate (zD V n).toNat none
 | .ap 41 r (.ap 0 i (.ap 52 q _))=>(rD V r).set (zD V i).toNat (some (qD V q))
 | .ap 42 e _=>(lD V e).map some
 | .ap 45 r i=>(rD V r).drop (zD V i).toNat
 | _=>[]
end
def AC(w:World):List (Option Rat)→List Value→Prop
 | [],cs=>cs=[]
 | some q :: l,cs=>∃ a b c d r,cs=a :: b :: c :: d :: r∧Aw w (.agg #[a,b]) q.num∧Aw w (.agg #[c,d]) (q.den:Int)∧AC w l r
 | none :: l,cs=>∃ r,cs = .bool false :: .slice none 0 0 :: .bool false :: .slice none 0 0 :: r∧AC w l r
theorem AC.grow{w w':World}(h:Bz w w'):∀{l:List (Option Rat)}{cs:List Value},AC w l cs→AC w' l cs
 | [],_,r=>r
 | some _ :: _,_,⟨a,b,c,d,r,e,h1,h2,h3⟩=>⟨a,b,c,d,r,e,h1.grow h,h2.grow h,AC.grow h h3⟩
 | none :: _,_,⟨r,e,h3⟩=>⟨r,e,AC.grow h h3⟩
theorem J3{w:World}{x y:Value}{z:Int}(h:Aw w (.agg #[x,y]) z):∃ b A k c,x = .bool b∧y = .slice A k c:=by
 obtain ⟨s,e,A,c,e2,_⟩:=h;simp only [Value.agg.injEq] at e;have e:=congrArg Array.toList e;simp only [List.cons.injEq] at e;exact ⟨_,_,_,_,e.1,e.2.1.trans e2⟩
theorem Fh{w:World}{x y:Value}{z:Int}(h:Aw w (.agg #[x,y]) z):x.oneCell'=true∧y.oneCell'=true:=by
 obtain ⟨b,A,k,c,rfl,rfl⟩:=J3 h;exact ⟨rfl,rfl⟩
theorem AC.one{w:World}:∀{l:List (Option Rat)}{cs:List Value},AC w l cs→∀ v∈cs,v.oneCell'=true
 | [],_,h,v,hv=>by have h:_=[]:=h; subst h; cases hv
 | some _ :: _,_,⟨a,b,c,d,r,e,h1,h2,h3⟩,v,hv=>by
  subst e;simp only [List.mem_cons] at hv
  rcases hv with rfl | rfl | rfl | rfl | hv
  ·exact (Fh h1).1
  ·exact (Fh h1).2
  ·exact (Fh h2).1
  ·exact (Fh h2).2
  ·exact AC.one h3 v hv
 | none :: _,_,⟨r,e,h3⟩,v,hv=>by
  subst e;simp only [List.mem_cons] at hv
  rcases hv with rfl | rfl | rfl | rfl | hv
  ·rfl
  ·rfl
  ·rfl
  ·rfl
  ·exact AC.one h3 v hv
theorem AC.len{w:World}:∀{l:List (Option Rat)}{cs:List Value},AC w l cs→cs.length=4*l.length
 | [],_,h=>by have h:_=[]:=h; subst h; rfl
 | some _ :: _,_,⟨a,b,c,d,r,e,h1,h2,h3⟩=>by subst e; simp [AC.len h3]; omega
 | none :: _,_,⟨r,e,h3⟩=>by subst e; simp [AC.len h3]; omega
theorem JK{w w':World}(h:Bz w w'):∀{l:List Rat}{cs:List Value},AX w l cs→AX w' l cs
 | [],_,r=>r
 | _ :: _,_,⟨a,b,c,d,r,e,h1,h2,h3⟩=>⟨a,b,c,d,r,e,h1.grow h,h2.grow h,JK h h3⟩
def XP.int(z:Int):XP:=⟨λ_ _ cs=>cs=[.int .i64 z],λ_ _ _ _ _ _ _ _ h=>h,λ_ _ _ h v hv=>by subst h; rw [List.mem_singleton] at hv; subst hv; rfl⟩
def XP.rats(l:List Rat):XP:=⟨λM w cs=>∃ A c,cs=[.slice A l.length c]∧l.length≤c∧(l.length≠0→∃ g off xs,A=some ⟨g,off,none⟩ ∧ ¬ M g∧g<w.heap.size∧w.rangeAt g off xs∧AX w l xs),
 λM M' w w' cs hg hk hm ⟨A,c,e,h1,h2⟩=>⟨A,c,e,h1,λh0=>by
  obtain ⟨g,off,xs,e1,m,s,ra,rc⟩:=h2 h0;exact ⟨g,off,xs,e1,λk=>m (hm g s k),Nat.lt_of_lt_of_le s hg.size,λj v e=>(World.cell?_of_block (w:=w) (hk g s m)).trans (ra j v e),JK hg rc⟩⟩,
 λ_ _ _ ⟨_,_,e,_⟩ v hv=>by subst e; rw [List.mem_singleton] at hv; subst hv; rfl⟩
def XP.num(q:Rat)(n:Nat):XP:=⟨λ_ w cs=>At q n∧∃ a b c d,cs=[a,b,c,d]∧Aw w (.agg #[a,b]) q.num∧Aw w (.agg #[c,d]) (q.den:Int),
 λ_ _ _ _ _ hg _ _ ⟨s,a,b,c,d,e,h1,h2⟩=>⟨s,a,b,c,d,e,h1.grow hg,h2.grow hg⟩,
 λ_ _ _ ⟨_,a,b,c,d,e,h1,h2⟩ v hv=>by
  subst e;simp only [List.mem_cons,List.not_mem_nil,or_false] at hv
  rcases hv with rfl | rfl | rfl | rfl
  ·exact (Fh h1).1
  ·exact (Fh h1).2
  ·exact (Fh h2).1
  ·exact (Fh h2).2⟩
def XP.zi(z:Int)(n:Nat):XP:=⟨λ_ w cs=>Sm z n∧∃ a b,cs=[a,b]∧Aw w (.agg #[a,b]) z,
 λ_ _ _ _ _ hg _ _ ⟨s,a,b,e,h1⟩=>⟨s,a,b,e,h1.grow hg⟩,
 λ_ _ _ ⟨_,a,b,e,h1⟩ v hv=>by
  subst e;simp only [List.mem_cons,List.not_mem_nil,or_false] at hv
  rcases hv with rfl | rfl
  ·exact (Fh h1).1
  ·exact (Fh h1).2⟩
def XP.i8(z:Int):XP:=⟨λ_ _ cs=>cs=[.int .i8 z] ∧ -128≤z∧z≤127,λ_ _ _ _ _ _ _ _ h=>h,λ_ _ _ h v hv=>by obtain ⟨rfl,_⟩:=h; rw [List.mem_singleton] at hv; subst hv; rfl⟩
def XP.i64b(z:Int):XP:=⟨λ_ _ cs=>cs=[.int .i64 z] ∧ -128≤z∧z≤127,λ_ _ _ _ _ _ _ _ h=>h,λ_ _ _ h v hv=>by obtain ⟨rfl,_⟩:=h; rw [List.mem_singleton] at hv; subst hv; rfl⟩
def XP.prs(l:List Rat):XP:=⟨λM w cs=>∃ A c,cs=[.slice A (l.length / 2) c]∧l.length / 2≤c∧(∀ q∈l,-128≤q.num∧q.num≤127)∧(l.length / 2≠0→∃ g off,A=some ⟨g,off,none⟩ ∧ ¬ M g∧g<w.heap.size∧w.rangeAt g off (l.map λq=>.int .i8 q.num)),
 λM M' w w' cs hg hk hm ⟨A,c,e,h1,h3,h2⟩=>⟨A,c,e,h1,h3,λh0=>by
  obtain ⟨g,off,e1,m,s,ra⟩:=h2 h0;exact ⟨g,off,e1,λk=>m (hm g s k),Nat.lt_of_lt_of_le s hg.size,λj v e=>(World.cell?_of_block (w:=w) (hk g s m)).trans (ra j v e)⟩⟩,
 λ_ _ _ ⟨_,_,e,_⟩ v hv=>by subst e; rw [List.mem_singleton] at hv; subst hv; rfl⟩
def XP.row(r:List (Option Rat)):XP:=⟨λ_ w cs=>AC w r cs,λ_ _ _ _ _ hg _ _ h=>h.grow hg,λ_ _ _ h=>h.one⟩
def XP.no:XP:=⟨λ_ _ _=>False,λ_ _ _ _ _ _ _ _ h=>h,λ_ _ _ h=>h.elim⟩
def xD(V:VL):CE→XP
 | .ap 50 i _=>.int (zD V i)
 | .ap 51 e _=>.rats (lD V e)
 | .ap 52 q (.lit n)=>.num (qD V q) n.toNat
 | .ap 53 q _=>.int (DR (qD V q) 0)
 | .ap 54 q (.lit n)=>.zi ((qD V q).den:Int) n.toNat
 | .ap 58 q (.lit n)=>.zi (qD V q).num n.toNat
 | .ap 55 i _=>.i8 (zD V i)
 | .ap 56 e _=>.prs (lD V e)
 | .ap 57 i _=>.i64b (zD V i)
 | _=>.no
def bD(V:VL):CE→XP
 | .ap 60 r _=>.row (rD V r)
 | _=>.no
def nD(V:VL):CE→Nat
 | .ap 61 i _=>(zD V i).toNat
 | _=>0
def jD(V:VL):CE→Nat
 | .ap 62 i _=>4*(zD V i).toNat
 | _=>0
@[reducible] def Ae (V:VL):Dn:=⟨xD V,bD V,nD V,jD V⟩
abbrev aI(k:Nat)(c:Int):AV:=.ext 1 false (.ap 50 (.i k c) (.lit 0))
abbrev aL(e:CE):AV:=.ext 1 false (.ap 51 e (.lit 0))
abbrev aQ(q:CE)(n:Nat):AV:=.ext 4 true (.ap 52 q (.lit (n:Int)))
abbrev aS(q:CE):AV:=.ext 1 false (.ap 53 q (.lit 0))
structure Fa where
 le:List (Nat × Nat × Int)
 len:List (CE × Nat × Int)
 bd:List (CE × Nat)
 zr:List (CE × Bool)
 rlen:List (CE × Nat × Int)
 full:List (CE × Nat)
 sum:List (Nat × Nat × Nat)
structure AP (V:VL) (F:Fa):Prop where
 z0:V.z 0=0
 sm:∀ k,-1152921504606846976≤V.z k∧V.z k≤1152921504606846976
 le:∀ x∈F.le,V.z x.1≤V.z x.2.1+x.2.2
 len:∀ x∈F.len,((lD V x.1).length:Int)=V.z x.2.1+x.2.2
 bd:∀ x∈F.bd,∀ y∈lD V x.1,At y x.2
 zr:∀ x∈F.zr,decide (qD V x.1=0)=x.2
 rlen:∀ x∈F.rlen,((rD V x.1).length:Int)=V.z x.2.1+x.2.2
 full:∀ x∈F.full,∀ y∈rD V x.1,∃ q,y=some q∧At q x.2
 sum:∀ x∈F.sum,V.z x.1+V.z x.2.1=V.z x.2.2
def F7(F:Fa)(x y:Nat × Int):Bool:=(Nat.beq x.1 y.1 && decide (x.2≤y.2)) || F.le.any λf=>Nat.beq f.1 x.1 && Nat.beq f.2.1 y.1 && decide (f.2.2+x.2≤y.2)
def iD(V:VL)(x:Nat × Int):Int:=V.z x.1+x.2
theorem AW{V:VL}{F:Fa}(hF:AP V F){x y:Nat × Int}(h:F7 F x y=true):iD V x≤iD V y:=by
 unfold F7 at h;unfold iD;rw [Bool.or_eq_true] at h
 rcases h with h | h
 ·rw [Bool.and_eq_true] at h
  have e:=Nat.eq_of_beq_eq_true h.1;have:=of_decide_eq_true h.2;rw [e];omega
 ·obtain ⟨f,hf,h⟩:=List.any_eq_true.1 h
  rw [Bool.and_eq_true,Bool.and_eq_true] at h;have e1:=Nat.eq_of_beq_eq_true h.1.1;have e2:=Nat.eq_of_beq_eq_true h.1.2;have e3:=of_decide_eq_true h.2;have:=hF.le f hf;rw [e1,e2] at this;omega
def NE{α:Type}:List (CE × α)→CE→Option α
 | [],_=>none
 | x :: r,e=>if CE.beq x.1 e then some x.2 else NE r e
theorem Cg{α:Type}:∀{l:List (CE × α)}{e:CE}{a:α},NE l e=some a→(e,a)∈l
 | [],_,_,h=>by cases h
 | x :: r,e,a,h=>by
  unfold NE at h;split at h
  ·rename_i hb
   have:=CE.beq_eq hb
   cases h
   rw [← this];exact List.mem_cons_self ..
  ·exact List.mem_cons_of_mem _ (Cg h)
def Ij:AV→Option (Nat × Int)
 | .val (.int .i64 c)=>some (0,c)
 | .ext 1 false (.ap 50 (.ap 1 (.v k) (.lit c)) _)=>some (k,c)
 | _=>none
section
variable {V : VL} {F : Fa} {ρ : B6} {M : Nat → Prop} {w : World}
theorem BV(hF:AP V F){a:AV}{x:Nat × Int}{v:Value}(h:Ij a=some x)(hv:@Co (Ae V) ρ M w a v):v = .int .i64 (iD V x):=by
 unfold Ij at h;split at h
 ·cases h
  have hv:v = .int .i64 _:=hv;rw [hv];unfold iD;simp [hF.z0]
 ·cases h
  have hv:@Rp (Ae V) ρ M w _ [v]:=hv;unfold Rp at hv;exact (List.cons.inj hv.2).1
 ·cases h
theorem Agb{k:Nat}{c:Int}{v:Value}(h:v = .int .i64 (V.z k+c)):@Co (Ae V) ρ M w (aI k c) v:=by
 show @Rp (Ae V) ρ M w (aI k c) [v];unfold Rp;exact ⟨rfl,by rw [h]; rfl⟩
theorem AL{e d:CE}{v:Value}(h:@Co (Ae V) ρ M w (.ext 1 false (.ap 51 e d)) v):(XP.rats (lD V e)).p M w [v]:=by
 have h:@Rp (Ae V) ρ M w (.ext 1 false (.ap 51 e d)) [v]:=h;unfold Rp at h;exact h.2
theorem Bb{e:CE}{v:Value}(h:(XP.rats (lD V e)).p M w [v]):@Co (Ae V) ρ M w (aL e) v:=by
 show @Rp (Ae V) ρ M w (aL e) [v];unfold Rp;exact ⟨rfl,h⟩
theorem BN{q:CE}{n:Nat}{v:Value}(h:@Co (Ae V) ρ M w (aQ q n) v):(As (qD V q)).p v w∧At (qD V q) n:=by
 obtain ⟨cs,rfl,h⟩:=h;unfold Rp at h;obtain ⟨_,s,a,b,c,d,e,h1,h2⟩:=h;obtain ⟨x,A,k,y,rfl,rfl⟩:=J3 h1;obtain ⟨x',A',k',y',rfl,rfl⟩:=J3 h2;refine ⟨⟨x,A,k,y,x',A',k',y',?_,h1,h2⟩,by simpa using s⟩
 congr 1
 apply Array.ext';exact e
theorem Cp{q:CE}{n:Nat}{v:Value}(h:(As (qD V q)).p v w)(s:At (qD V q) n):@Co (Ae V) ρ M w (aQ q n) v:=by
 obtain ⟨b,A,k,c,b',A',k',c',rfl,h1,h2⟩:=h;refine ⟨_,rfl,?_⟩;unfold Rp;exact ⟨rfl,by simpa using s,_,_,_,_,rfl,h1,h2⟩
end
end
def smI(c:Int):Bool:=decide (-1152921504606846976≤c) && decide (c≤1152921504606846976)
def jS(x:Nat × Int):AV:=if Nat.beq x.1 0 then .val (.int .i64 x.2) else aI x.1 x.2
def leB(F:Fa)(x y:Nat × Int):Option Bool:=if F7 F x y then some true else if F7 F (y.1,y.2+1) x then some false else none
def AeC:List (Nat × Nat × Nat)→Nat→Nat→Option Nat
 | [],_,_=>none
 | x :: r,a,b=>if Nat.beq x.1 a && Nat.beq x.2.1 b then some x.2.2 else AeC r a b
def AdK:List (Nat × Nat × Nat)→Nat→Nat→Option Nat
 | [],_,_=>none
 | x :: r,a,b=>if Nat.beq x.2.2 a && Nat.beq x.1 b then some x.2.1 else AdK r a b
theorem WU{a b c:Nat}:∀{l:List (Nat × Nat × Nat)},AeC l a b=some c→(a,b,c)∈l
 | [],h=>by cases h
 | x :: r,h=>by
  unfold AeC at h;split at h
  ·rename_i e
   rw [Bool.and_eq_true] at e;have e1:=Nat.eq_of_beq_eq_true e.1;have e2:=Nat.eq_of_beq_eq_true e.2
   cases h
   rw [← e1,← e2];exact List.mem_cons_self ..
  ·exact List.mem_cons_of_mem _ (WU h)
theorem Wz{a b c:Nat}:∀{l:List (Nat × Nat × Nat)},AdK l a b=some c→(b,c,a)∈l
 | [],h=>by cases h
 | x :: r,h=>by
  unfold AdK at h;split at h
  ·rename_i e
   rw [Bool.and_eq_true] at e;have e1:=Nat.eq_of_beq_eq_true e.1;have e2:=Nat.eq_of_beq_eq_true e.2
   cases h
   rw [← e1,← e2];exact List.mem_cons_self ..
  ·exact List.mem_cons_of_mem _ (Wz h)
def Aip(F:Fa)(o:BinOp)(x y:Nat × Int):Option AV:=match o with
 | .add=>if Nat.beq y.1 0 && smI (x.2+y.2) then some (jS (x.1,x.2+y.2)) else if Nat.beq x.1 0 && smI (x.2+y.2) then some (jS (y.1,x.2+y.2)) else if smI (x.2+y.2) then (AeC F.sum x.1 y.1).map λc=>jS (c,x.2+y.2) else none
 | .sub=>if Nat.beq y.1 0 && smI (x.2 - y.2) then some (jS (x.1,x.2 - y.2)) else if Nat.beq x.1 y.1 && smI (x.2 - y.2) then some (.val (.int .i64 (x.2 - y.2))) else if smI (x.2 - y.2) then (AdK F.sum x.1 y.1).map λc=>jS (c,x.2 - y.2) else none
 | .lss=>(leB F y x).map λb=>.val (.bool (!b))
 | .leq=>(leB F x y).map λb=>.val (.bool b)
 | .gtr=>(leB F x y).map λb=>.val (.bool (!b))
 | .geq=>(leB F y x).map λb=>.val (.bool b)
 | .eql=>if F7 F x y && F7 F y x then some (.val (.bool true)) else if F7 F (x.1,x.2+1) y || F7 F (y.1,y.2+1) x then some (.val (.bool false)) else none
 | .neq=>if F7 F x y && F7 F y x then some (.val (.bool false)) else if F7 F (x.1,x.2+1) y || F7 F (y.1,y.2+1) x then some (.val (.bool true)) else none
 | _=>none
def sgC(F:Fa)(o:BinOp):AV→AV→Option AV
 | .ext 1 false (.ap 53 q _),.val (.int .i64 0)=>match o with
  | .eql=>(NE F.zr q).map λb=>.val (.bool b)
  | .neq=>(NE F.zr q).map λb=>.val (.bool (!b))
  | _=>none
 | _,_=>none
noncomputable def Gr(T:TypeId):Bool:=match SR T with
 | some (.slice _)=>true
 | _=>false
noncomputable def IL(T:TypeId):Bool:=match SR T with
 | some (.slice e)=>Nat.beq e 36
 | _=>false
noncomputable def AkW(F:Fa)(T:TypeId):AV→Option AV
 | .ext 1 false (.ap 51 e _)=>if Gr T then (NE F.len e).map jS else none
 | .ext 1 false (.ap 56 e _)=>if Gr T then (NE F.len (.ap 77 e (.lit 0))).map jS else none
 | .slx _ (.ap 61 (.ap 1 (.v k) (.lit c)) _)=>if Gr T && F7 F (0,0) (k,c) then some (jS (k,c)) else none
 | _=>none
noncomputable def AcL(F:Fa)(T:TypeId)(x:AV)(h m:Nat × Int):Option AV:=if IL T && Nat.beq h.1 m.1 && decide (h.2=m.2) && F7 F (0,0) h then (match x with
 | .ext 1 false (.ap 51 e _)=>match NE F.len e with
  | some n=>if F7 F h n then some (aL (.ap 20 e (.i h.1 h.2))) else none
  | none=>none
 | .slx o (.ap 61 (.ap 1 (.v k) (.lit c)) _)=>if F7 F h (k,c) then some (.slx o (.ap 61 (.i h.1 h.2) (.lit 0))) else none
 | _=>none) else none
noncomputable def Aiz(F:Fa)(T:TypeId)(x:AV)(i:Nat × Int):Option AV:=match x with
 | .ext 1 false (.ap 51 e _)=>match NE F.len e,NE F.bd e with
  | some n,some b=>if IL T && F7 F (0,0) i && F7 F (i.1,i.2+1) n then some (.rptr [aQ (.ap 30 e (.i i.1 i.2)) b]) else none
  | _,_=>none
 | _=>none
noncomputable def RO(T:TypeId):Bool:=match SR T with
 | some (.slice e)=>(match D0 e with
  | some z=>Nat.beq z 2
  | none=>false)
 | _=>false
noncomputable def Ai9(F:Fa)(T:TypeId)(x:AV)(i:Nat × Int):Option AV:=match x with
 | .ext 1 false (.ap 56 (.v k) _)=>(match NE F.len (.ap 77 (.v k) (.lit 0)) with
  | some n=>if RO T && Nat.beq i.1 0 && F7 F (0,0) i && F7 F (i.1,i.2+1) n then some (.rptr [.ext 1 false (.ap 55 (.ap 2 (.v k) (.lit (2*i.2))) (.lit 0)),.ext 1 false (.ap 55 (.ap 2 (.v k) (.lit (2*i.2+1))) (.lit 0))]) else none
  | none=>none)
 | _=>none
noncomputable def cvX(T U:TypeId):AV→Option AV
 | .ext 1 false (.ap 55 i _)=>(match SR T,SR U with
  | some (.int .i8),some (.int .i64)=>some (.ext 1 false (.ap 57 i (.lit 0)))
  | _,_=>none)
 | _=>none
noncomputable def AlR(F:Fa)(o:BinOp)(T:TypeId):AV→AV→Option AV
 | .ext 1 false (.ap 51 e _),.val (.slice none _ _)=>(match NE F.len e,o with
  | some n,.eql=>if Gr T && F7 F (0,1) n then some (.val (.bool false)) else none
  | some n,.neq=>if Gr T && F7 F (0,1) n then some (.val (.bool true)) else none
  | _,_=>none)
 | _,_=>none
noncomputable def Acp(F:Fa)(k:PK)(xs:List AV):Option AV:=match k,xs with
 | .bin o T _,[x,y]=>match Ij x,Ij y with
  | some a,some b=>Aip F o a b
  | _,_=>(match AlR F o T x y with
   | some r=>some r
   | none=>sgC F o x y)
 | .blt .len [T],[x]=>AkW F T x
 | .blt .max [T,U],[x,y]=>match Ij x,Ij y with
  | some a,some b=>if Nat.beq T 3 && Nat.beq U 3 then (if F7 F a b then some (jS b) else if F7 F b a then some (jS a) else none) else none
  | _,_=>none
 | .slc T false true true,[x,h,m]=>match Ij h,Ij m with
  | some a,some b=>AcL F T x a b
  | _,_=>none
 | .slc T false true false,[x,h]=>match Ij h with
  | some a=>AcL F T x a a
  | none=>none
 | .idx T,[x,i]=>match Ij i with
  | some a=>(match Aiz F T x a with
   | some r=>some r
   | none=>Ai9 F T x a)
  | none=>none
 | .conv T U,[x]=>cvX T U x
 | _,_=>none
section
variable {V : VL} {F : Fa} {ρ : B6} {M : Nat → Prop} {w : World} {ρv : Operand → Value} {r : AV}
theorem Ht{z:Int}(h1 : -9223372036854775808≤z)(h2:z≤9223372036854775807):IntKind.i64.wrap z=z:=by rw [IntKind.wrap_i64]; omega
theorem G4(hF:AP V F){x:Nat × Int}:@Co (Ae V) ρ M w (jS x) (.int .i64 (iD V x)):=by
 unfold jS;split
 ·rename_i h
  have h:=Nat.eq_of_beq_eq_true h;show Value.int .i64 (iD V x) = .int .i64 x.2;unfold iD;rw [h,hF.z0,Int.zero_add]
 ·exact Agb rfl
theorem Jn(hF:AP V F){x y:Nat × Int}{b:Bool}(h:leB F x y=some b):decide (iD V x≤iD V y)=b:=by
 unfold leB at h;split at h
 ·rename_i h1
  cases h
  exact decide_eq_true (AW hF h1)
 ·split at h
  ·rename_i h1
   cases h
   have:=AW hF h1;refine decide_eq_false ?_;unfold iD at *;simp only [] at this;omega
  ·cases h
theorem XS(hF:AP V F){o:BinOp}{x y:Nat × Int}(h:Aip F o x y=some r):∃ v,Abm o .i64 (iD V x) (iD V y)=some v ∧ @Co (Ae V) ρ M w r v:=by
 have b1:=hF.sm x.1;have b2:=hF.sm y.1;have sm:∀ c,smI c=true → -1152921504606846976≤c∧c≤1152921504606846976:=λc h=>by
  unfold smI at h;rw [Bool.and_eq_true] at h;exact ⟨of_decide_eq_true h.1,of_decide_eq_true h.2⟩
 have eqv:F7 F x y=true→F7 F y x=true→iD V x=iD V y:=λh1 h2=>Int.le_antisymm (AW hF h1) (AW hF h2)
 have nev:(F7 F (x.1,x.2+1) y || F7 F (y.1,y.2+1) x)=true→iD V x≠iD V y:=λh e=>by
  rw [Bool.or_eq_true] at h
  rcases h with h | h
  ·have:=AW hF h
   unfold iD at *;simp only [] at this;omega
  ·have:=AW hF h
   unfold iD at *;simp only [] at this;omega
 cases o <;> simp only [Aip] at h <;> try (cases h; done)
 ·split at h
  ·rename_i hc
   rw [Bool.and_eq_true] at hc
   cases h
   have e:=Nat.eq_of_beq_eq_true hc.1;have s:=sm _ hc.2;refine ⟨_,rfl,?_⟩;have hz:IntKind.i64.wrap (iD V x+iD V y)=iD V (x.1,x.2+y.2):=by
    unfold iD;rw [e,hF.z0];rw [Ht (by omega) (by omega)];simp only [];omega
   rw [hz];exact G4 hF
  ·split at h
   ·rename_i hc
    rw [Bool.and_eq_true] at hc
    cases h
    have e:=Nat.eq_of_beq_eq_true hc.1;have s:=sm _ hc.2;refine ⟨_,rfl,?_⟩;have hz:IntKind.i64.wrap (iD V x+iD V y)=iD V (y.1,x.2+y.2):=by
     unfold iD;rw [e,hF.z0];rw [Ht (by omega) (by omega)];simp only [];omega
    rw [hz];exact G4 hF
   ·split at h
    ·rename_i hc
     obtain ⟨c,hc2,rfl⟩:=Option.map_eq_some_iff.1 h;have s:=sm _ hc;have e:=hF.sum _ (WU hc2);simp only [] at e;refine ⟨_,rfl,?_⟩;have hz:IntKind.i64.wrap (iD V x+iD V y)=iD V (c,x.2+y.2):=by
      unfold iD;rw [Ht (by omega) (by omega)];simp only [];omega
     rw [hz];exact G4 hF
    ·cases h
 ·split at h
  ·rename_i hc
   rw [Bool.and_eq_true] at hc
   cases h
   have e:=Nat.eq_of_beq_eq_true hc.1;have s:=sm _ hc.2;refine ⟨_,rfl,?_⟩;have hz:IntKind.i64.wrap (iD V x - iD V y)=iD V (x.1,x.2 - y.2):=by
    unfold iD;rw [e,hF.z0];rw [Ht (by omega) (by omega)];simp only [];omega
   rw [hz];exact G4 hF
  ·split at h
   ·rename_i hc
    rw [Bool.and_eq_true] at hc
    cases h
    have e:=Nat.eq_of_beq_eq_true hc.1;have s:=sm _ hc.2;refine ⟨_,rfl,?_⟩;show Value.int .i64 (IntKind.i64.wrap (iD V x - iD V y)) = .int .i64 (x.2 - y.2);have hz:IntKind.i64.wrap (iD V x - iD V y)=x.2 - y.2:=by
     unfold iD;rw [e];rw [Ht (by omega) (by omega)];omega
    rw [hz]
   ·split at h
    ·rename_i hc
     obtain ⟨c,hc2,rfl⟩:=Option.map_eq_some_iff.1 h;have s:=sm _ hc;have e:=hF.sum _ (Wz hc2);simp only [] at e;refine ⟨_,rfl,?_⟩;have hz:IntKind.i64.wrap (iD V x - iD V y)=iD V (c,x.2 - y.2):=by
      unfold iD;rw [Ht (by omega) (by omega)];simp only [];omega
     rw [hz];exact G4 hF
    ·cases h
 ·split at h
  ·rename_i hc
   rw [Bool.and_eq_true] at hc
   cases h
   refine ⟨_,rfl,?_⟩;show Value.bool _ = .bool true;rw [eqv hc.1 hc.2];simp
  ·split at h
   ·rename_i hc
    cases h
    refine ⟨_,rfl,?_⟩;show Value.bool _ = .bool false;simp [nev hc]
   ·cases h
 ·split at h
  ·rename_i hc
   rw [Bool.and_eq_true] at hc
   cases h
   refine ⟨_,rfl,?_⟩;show Value.bool _ = .bool false;rw [eqv hc.1 hc.2];simp
  ·split at h
   ·rename_i hc
    cases h
    refine ⟨_,rfl,?_⟩;show Value.bool _ = .bool true;simp [nev hc]
   ·cases h
 ·obtain ⟨b,hb,rfl⟩:=Option.map_eq_some_iff.1 h
  have:=Jn hF hb;refine ⟨_,rfl,?_⟩;show Value.bool (decide (iD V x<iD V y)) = .bool (!b);rw [← this]
  congr 1
  by_cases hh:iD V y≤iD V x
  ·simp [hh]
  ·simp [hh]; omega
 ·obtain ⟨b,hb,rfl⟩:=Option.map_eq_some_iff.1 h
  have:=Jn hF hb;refine ⟨_,rfl,?_⟩;show Value.bool (decide (iD V x≤iD V y)) = .bool b;rw [this]
 ·obtain ⟨b,hb,rfl⟩:=Option.map_eq_some_iff.1 h
  have:=Jn hF hb;refine ⟨_,rfl,?_⟩;show Value.bool (decide (iD V y<iD V x)) = .bool (!b);rw [← this]
  congr 1
  by_cases hh:iD V x≤iD V y
  ·simp [hh]
  ·simp [hh]; omega
 ·obtain ⟨b,hb,rfl⟩:=Option.map_eq_some_iff.1 h
  have:=Jn hF hb;refine ⟨_,rfl,?_⟩;show Value.bool (decide (iD V y≤iD V x)) = .bool b;rw [this]
theorem Q6(q:Rat):(DR q 0 == 0)=decide (q=0):=by
 unfold DR
 by_cases h1:q<0
 ·have:q≠0:=λe=>by rw [e] at h1; exact absurd h1 (by decide)
  simp [h1,this]
 ·by_cases h2:q=0
  ·simp [h2]
  ·simp [h1,h2]
theorem mS(hF:AP V F){o:BinOp}{x y:AV}{vx vy:Value}(h:sgC F o x y=some r)(hx:@Co (Ae V) ρ M w x vx)(hy:@Co (Ae V) ρ M w y vy):∃ p q v,vx = .int .i64 p∧vy = .int .i64 q∧Abm o .i64 p q=some v ∧ @Co (Ae V) ρ M w r v:=by
 unfold sgC at h;split at h
 ·rename_i q _
  have hx:@Rp (Ae V) ρ M w _ [vx]:=hx;unfold Rp at hx;have hx:vx = .int .i64 (DR (qD V q) 0):=(List.cons.inj hx.2).1;have hy:vy = .int .i64 0:=hy;split at h
  ·obtain ⟨b,hb,rfl⟩:=Option.map_eq_some_iff.1 h
   have:=hF.zr _ (Cg hb);refine ⟨_,_,_,hx,hy,rfl,?_⟩;show Value.bool _ = .bool b;rw [Q6,this]
  ·obtain ⟨b,hb,rfl⟩:=Option.map_eq_some_iff.1 h
   have:=hF.zr _ (Cg hb);refine ⟨_,_,_,hx,hy,rfl,?_⟩;show Value.bool (!(DR (qD V q) 0 == 0)) = .bool (!b);rw [Q6,this]
  ·cases h
 ·cases h
theorem GI{T:TypeId}(h:Gr T=true):∃ e,Tryz.prog.underlying T=some (.slice e):=by
 unfold Gr at h;split at h
 ·rename_i e he
  exact ⟨e,he⟩
 ·cases h
theorem EW{T:TypeId}(h:IL T=true):Tryz.prog.underlying T=some (.slice 36):=by
 unfold IL at h;split at h
 ·rename_i e he
  have:=Nat.eq_of_beq_eq_true h;rw [← this];exact he
 ·cases h
theorem gC:D0 36=some 4:=by kernel_rfl
theorem fU{o k:Nat}{c:Int}{d:CE}{v:Value}(h:@Co (Ae V) ρ M w (.slx o (.ap 61 (.ap 1 (.v k) (.lit c)) d)) v):∃ g cc kk,ρ o=some (g,cc)∧v = .slice (some ⟨g,0,none⟩) (iD V (k,c)).toNat kk∧(iD V (k,c)).toNat≤kk:=by
 have h:@Rp (Ae V) ρ M w _ [v]:=h;unfold Rp at h;obtain ⟨g,kk,cc,e1,e2,e3⟩:=h;exact ⟨g,cc,kk,e1,(List.cons.inj e2).1,e3⟩
theorem Xr(hF:AP V F){T:TypeId}{x:AV}{vx:Value}(h:AkW F T x=some r)(hx:@Co (Ae V) ρ M w x vx):∃ e A n c,Tryz.prog.underlying T=some (.slice e)∧vx = .slice A n c ∧ @Co (Ae V) ρ M w r (.int .i64 (n:Int)):=by
 unfold AkW at h;split at h
 ·rename_i e _
  split at h
  ·rename_i hT
   obtain ⟨el,hd⟩:=GI hT;obtain ⟨n,hn,rfl⟩:=Option.map_eq_some_iff.1 h;have hl:=hF.len _ (Cg hn);have hx:@Rp (Ae V) ρ M w _ [vx]:=hx;unfold Rp at hx;obtain ⟨A,c,e1,_⟩:=hx.2;refine ⟨el,A,_,c,hd,(List.cons.inj e1).1,?_⟩;rw [hl];exact G4 hF
  ·cases h
 ·rename_i e _
  split at h
  ·rename_i hT
   obtain ⟨el,hd⟩:=GI hT;obtain ⟨n,hn,rfl⟩:=Option.map_eq_some_iff.1 h;have hl:=hF.len _ (Cg hn);have hx:@Rp (Ae V) ρ M w _ [vx]:=hx;unfold Rp at hx;obtain ⟨A,c,e1,_⟩:=hx.2;refine ⟨el,A,_,c,hd,(List.cons.inj e1).1,?_⟩;have e2:(lD V (.ap 77 e (.lit 0))).length=(lD V e).length / 2:=by
    simp only [lD,List.length_take];omega
   rw [e2] at hl;rw [hl];exact G4 hF
  ·cases h
 ·rename_i o k c d
  split at h
  ·rename_i hT
   rw [Bool.and_eq_true] at hT;obtain ⟨el,hd⟩:=GI hT.1;have h0:=AW hF hT.2
   cases h
   obtain ⟨g,cc,kk,_,e2,_⟩:=fU hx;refine ⟨el,_,_,_,hd,e2,?_⟩;have hz:iD V (0,0)=0:=by unfold iD; simp [hF.z0]
   rw [hz] at h0;rw [Int.toNat_of_nonneg h0];exact G4 hF
  ·cases h
 ·cases h
theorem z00(hF:AP V F):iD V (0,0)=0:=by unfold iD; simp [hF.z0]
theorem M9(k:Nat)(c:Int):zD V (.i k c)=iD V (k,c):=rfl
theorem P9{l:List Rat}{cs:List Value}(n:Nat)(h:AX w l cs):AX w (l.take n) (cs.take (4*n)):=by
 induction n generalizing l cs with
 | zero=>simp [AX]
 | succ n ih =>
  cases l with
  | nil=>unfold AX at h; subst h; simp [AX]
  | cons q l =>
   unfold AX at h;obtain ⟨a,b,c,d,r,rfl,h1,h2,h3⟩:=h;rw [List.take_succ_cons,show 4*(n+1)=4*n+1+1+1+1 by omega,List.take_succ_cons,List.take_succ_cons,List.take_succ_cons,List.take_succ_cons];exact ⟨a,b,c,d,_,rfl,h1,h2,ih h3⟩
theorem O7(hF:AP V F){T:TypeId}{x:AV}{a b:Nat × Int}{vx:Value}(h:AcL F T x a b=some r)(hx:@Co (Ae V) ρ M w x vx):∃(n:Nat)(A:Option Addr)(ln c:Nat),iD V a=(n:Int)∧iD V b=(n:Int)∧Tryz.prog.underlying T=some (.slice 36)∧vx = .slice A ln c∧n≤ln∧ln≤c∧∀ k,n≤k → @Co (Ae V) ρ M w r (.slice A n k):=by
 letI:=Ae V
 unfold AcL at h;split at h
 ·rename_i hc
  simp only [Bool.and_eq_true] at hc;obtain ⟨⟨⟨hT,e1⟩,e2⟩,h0⟩:=hc;have e1:=Nat.eq_of_beq_eq_true e1;have e2:=of_decide_eq_true e2;have h0:=AW hF h0;rw [z00 hF] at h0;have hab:iD V b=iD V a:=by unfold iD; rw [e1,e2]
  obtain ⟨n,hn⟩:∃ n:Nat,iD V a=(n:Int):=⟨(iD V a).toNat,(Int.toNat_of_nonneg h0).symm⟩;split at h
  ·rename_i e _
   split at h
   ·rename_i ln hl
    split at h
    ·rename_i hle
     cases h
     have hle:=AW hF hle;have hlen:=hF.len _ (Cg hl);obtain ⟨A,c,e3,e4,e5⟩:=AL (e:=e) hx;have hnl:n≤(lD V e).length:=by
      have:iD V ln=V.z ln.1+ln.2:=rfl;simp only [] at hlen;omega
     refine ⟨n,A,_,c,hn,by rw [hab,hn],EW hT,(List.cons.inj e3).1,hnl,e4,λkc hkc=>Bb ?_⟩;have hzl:(lD V (.ap 20 e (.i a.1 a.2)))=(lD V e).take n:=by
      simp only [lD];rw [M9,show iD V (a.1,a.2)=iD V a from rfl,hn];rfl
     rw [hzl];have htl:((lD V e).take n).length=n:=by rw [List.length_take]; omega
     refine ⟨A,kc,by rw [htl],by rw [htl]; exact hkc,λhne=>?_⟩;obtain ⟨g,off,xs,k1,k2,k3,k4,k5⟩:=e5 (by rw [htl] at hne; omega);exact ⟨g,off,_,k1,k2,k3,C8 k4,P9 n k5⟩
    ·cases h
   ·cases h
  ·rename_i o k c d
   split at h
   ·rename_i hle
    cases h
    have hle:=AW hF hle;obtain ⟨g,cc,kk,e3,e4,e5⟩:=fU hx;refine ⟨n,_,_,kk,hn,by rw [hab,hn],EW hT,e4,by omega,e5,λkc hkc=>?_⟩;show @Rp (Ae V) ρ M w _ [_];unfold Rp;have hN:(Ae V).N (.ap 61 (.i a.1 a.2) (.lit 0))=n:=by
     show (zD V (.i a.1 a.2)).toNat=n;rw [M9,show iD V (a.1,a.2)=iD V a from rfl,hn];rfl
    exact ⟨g,kc,cc,e3,by rw [hN],by rw [hN]; exact hkc⟩
   ·cases h
  ·cases h
 ·cases h
theorem MY:∀{l:List Rat}{cs:List Value}{i:Nat},AX w l cs→i<l.length→∃ a b c d,(cs.drop (4*i)).take 4=[a,b,c,d]∧Aw w (.agg #[a,b]) (l.getD i 0).num∧Aw w (.agg #[c,d]) ((l.getD i 0).den:Int)
 | q :: l,_,0,h,_=>by
  unfold AX at h;obtain ⟨a,b,c,d,r,rfl,h1,h2,h3⟩:=h;exact ⟨a,b,c,d,rfl,h1,h2⟩
 | q :: l,_,i+1,h,hi=>by
  unfold AX at h;obtain ⟨a,b,c,d,r,rfl,h1,h2,h3⟩:=h;have:=MY (i:=i) h3 (by simpa using hi);rw [show 4*(i+1)=4+4*i by omega,← List.drop_drop];simpa using this
theorem Z9(hF:AP V F){T:TypeId}{x:AV}{a:Nat × Int}{vx:Value}(h:Aiz F T x a=some r)(hx:@Co (Ae V) ρ M w x vx):∃ g off n c,Tryz.prog.underlying T=some (.slice 36)∧vx = .slice (some ⟨g,off,none⟩) n c∧0≤iD V a∧iD V a<n ∧ @Co (Ae V) ρ M w r (.pointer (some ⟨g,off+(iD V a).toNat*4,none⟩)):=by
 letI:=Ae V
 unfold Aiz at h;split at h
 ·rename_i e _
  split at h
  ·rename_i n b hn hb
   split at h
   ·rename_i hc
    simp only [Bool.and_eq_true] at hc;obtain ⟨⟨hT,h0⟩,h1⟩:=hc
    cases h
    have h0:=AW hF h0;rw [z00 hF] at h0;have h1:=AW hF h1;have hlen:=hF.len _ (Cg hn);have hlt:(iD V a).toNat<(lD V e).length:=by
     have e1:iD V n=V.z n.1+n.2:=rfl;have e2:iD V (a.1,a.2+1)=V.z a.1+(a.2+1):=rfl;have e3:iD V a=V.z a.1+a.2:=rfl;simp only [] at hlen;omega
    obtain ⟨A,c,e3,e4,e5⟩:=AL (e:=e) hx;obtain ⟨g,off,xs,rfl,k2,k3,k4,k5⟩:=e5 (by omega);refine ⟨g,off,_,c,EW hT,(List.cons.inj e3).1,h0,by omega,?_⟩;show @Rp (Ae V) ρ M w (.rptr _) [_];unfold Rp;obtain ⟨p,q,s,t,z1,z2,z3⟩:=MY k5 hlt;refine ⟨g,off+(iD V a).toNat*4,[p,q,s,t],rfl,k2,k3,?_,?_⟩
    ·rw [← z1,Nat.mul_comm]
     exact C8 (Eh k4)
    ·refine @BC.one (Ae V) ρ M w _ _ ?_
     unfold Rp;have hq:qD V (.ap 30 e (.i a.1 a.2))=(lD V e).getD (iD V a).toNat 0:=by
      simp only [qD];rfl
     refine ⟨rfl,?_⟩;show (XP.num (qD V (.ap 30 e (.i a.1 a.2))) _).p M w _;rw [hq];have hmem:(lD V e).getD (iD V a).toNat 0∈lD V e:=by
      rw [List.getD_eq_getElem?_getD,List.getElem?_eq_getElem hlt];exact List.getElem_mem hlt
     exact ⟨by simpa using hF.bd _ (Cg hb) _ hmem,p,q,s,t,rfl,z2,z3⟩
   ·cases h
  ·cases h
 ·cases h
theorem ZL(hF:AP V F){o:BinOp}{T:TypeId}{x y:AV}{vx vy:Value}(h:AlR F o T x y=some r)(hx:@Co (Ae V) ρ M w x vx)(hy:@Co (Ae V) ρ M w y vy):∃ e A n c n' c',Tryz.prog.underlying T=some (.slice e)∧vx = .slice (some A) n c∧vy = .slice none n' c'∧((o = .eql∧r = .val (.bool false)) ∨ (o = .neq∧r = .val (.bool true))):=by
 unfold AlR at h;split at h
 ·rename_i e d n' c'
  have hy:vy = .slice none n' c':=hy;obtain ⟨A,c,e1,e2,e3⟩:=AL (ρ:=ρ) hx;have key:∀{n:Nat × Int},NE F.len e=some n→Gr T && F7 F (0,1) n→∃ el A n c n' c',Tryz.prog.underlying T=some (.slice el)∧vx = .slice (some A) n c∧vy = .slice none n' c':=fun {n} hn hc=>by
   rw [Bool.and_eq_true] at hc;obtain ⟨el,hel⟩:=GI hc.1;have h1:=AW hF hc.2;have hlen:=hF.len _ (Cg hn);have e0:iD V n=V.z n.1+n.2:=rfl;have e01:iD V (0,1)=1:=by unfold iD; simp [hF.z0]
   rw [e01] at h1;simp only [] at hlen;obtain ⟨g,off,xs,rfl,_⟩:=e3 (by omega);exact ⟨el,_,_,_,_,_,hel,(List.cons.inj e1).1,hy⟩
  split at h
  ·rename_i n hn
   split at h
   ·rename_i hc
    cases h
    obtain ⟨a1,a2,a3,a4,a5,a6,q1,q2,q3⟩:=key hn hc;exact ⟨a1,a2,a3,a4,a5,a6,q1,q2,q3,.inl ⟨rfl,rfl⟩⟩
   ·cases h
  ·rename_i n hn
   split at h
   ·rename_i hc
    cases h
    obtain ⟨a1,a2,a3,a4,a5,a6,q1,q2,q3⟩:=key hn hc;exact ⟨a1,a2,a3,a4,a5,a6,q1,q2,q3,.inr ⟨rfl,rfl⟩⟩
   ·cases h
  ·cases h
 ·cases h
theorem lQ{T U:TypeId}{x:AV}{vx:Value}(h:cvX T U x=some r)(hx:@Co (Ae V) ρ M w x vx):∃ z,Tryz.prog.underlying T=some (.int .i8)∧Tryz.prog.underlying U=some (.int .i64)∧vx = .int .i8 z ∧ @Co (Ae V) ρ M w r (.int .i64 (IntKind.i64.wrap z)):=by
 unfold cvX at h;split at h
 ·rename_i i d
  split at h
  ·rename_i h1 h2
   cases h
   have hx:@Rp (Ae V) ρ M w _ [vx]:=hx;unfold Rp at hx;obtain ⟨e,b1,b2⟩:=hx.2;refine ⟨zD V i,h1,h2,(List.cons.inj e).1,?_⟩;show @Rp (Ae V) ρ M w _ [_];unfold Rp;refine ⟨rfl,?_,b1,b2⟩;rw [Ht (by omega) (by omega)]
  ·cases h
 ·cases h
theorem V9{T:TypeId}(h:RO T=true):∃ e,Tryz.prog.underlying T=some (.slice e)∧D0 e=some 2:=by
 unfold RO at h;split at h
 ·rename_i e he
  split at h
  ·rename_i z hz
   have:=Nat.eq_of_beq_eq_true h;exact ⟨e,he,by rw [hz,this]⟩
  ·cases h
 ·cases h
theorem ZF(hF:AP V F){T:TypeId}{x:AV}{a:Nat × Int}{vx:Value}(h:Ai9 F T x a=some r)(hx:@Co (Ae V) ρ M w x vx):∃ e g off n c,Tryz.prog.underlying T=some (.slice e)∧D0 e=some 2∧vx = .slice (some ⟨g,off,none⟩) n c∧0≤iD V a∧iD V a<n ∧ @Co (Ae V) ρ M w r (.pointer (some ⟨g,off+(iD V a).toNat*2,none⟩)):=by
 letI:=Ae V
 unfold Ai9 at h;split at h
 ·rename_i k d
  split at h
  ·rename_i n hn
   split at h
   ·rename_i hc
    simp only [Bool.and_eq_true] at hc;obtain ⟨⟨⟨hT,e0⟩,h0⟩,h1⟩:=hc
    cases h
    have e0:=Nat.eq_of_beq_eq_true e0;have h0:=AW hF h0;rw [z00 hF] at h0;have h1:=AW hF h1;have hlen:=hF.len _ (Cg hn);have hl2:(lD V (.ap 77 (.v k) (.lit 0))).length=(V.l k).length / 2:=by
     simp only [lD,List.length_take];omega
    have ha:iD V a=a.2:=by unfold iD; rw [e0,hF.z0]; omega
    have e1:iD V n=V.z n.1+n.2:=rfl;have e2:iD V (a.1,a.2+1)=iD V a+1:=by unfold iD; simp only []; omega
    simp only [] at hlen;rw [hl2] at hlen;have hx:@Rp (Ae V) ρ M w _ [vx]:=hx;unfold Rp at hx;obtain ⟨A,c,e3,_,hb,e5⟩:=hx.2;have hlt:(iD V a).toNat<(V.l k).length / 2:=by omega
    obtain ⟨g,off,rfl,k2,k3,k4⟩:=e5 (by show (V.l k).length / 2≠0; omega);obtain ⟨el,t1,t2⟩:=V9 hT;refine ⟨el,g,off,_,c,t1,t2,(List.cons.inj e3).1,h0,by show iD V a<(((V.l k).length / 2:Nat):Int); omega,?_⟩;show @Rp (Ae V) ρ M w (.rptr _) [_];unfold Rp;generalize hi:(iD V a).toNat=i at *;have z1:(2*a.2).toNat=2*i:=by omega
    have z2:(2*a.2+1).toNat=2*i+1:=by omega
    have l1:2*i<(V.l k).length:=by omega
    have l2:2*i+1<(V.l k).length:=by omega
    have q1:zD V (.ap 2 (.v k) (.lit (2*a.2)))=((V.l k)[2*i]).num:=by
     simp only [zD];rw [z1,List.getD_eq_getElem?_getD,List.getElem?_eq_getElem l1];rfl
    have q2:zD V (.ap 2 (.v k) (.lit (2*a.2+1)))=((V.l k)[2*i+1]).num:=by
     simp only [zD];rw [z2,List.getD_eq_getElem?_getD,List.getElem?_eq_getElem l2];rfl
    refine ⟨g,off+i*2,[.int .i8 ((V.l k)[2*i]).num,.int .i8 ((V.l k)[2*i+1]).num],rfl,k2,k3,?_,?_⟩
    ·have e6:(((V.l k).map λq=>Value.int .i8 q.num).drop (2*i)).take 2=[.int .i8 ((V.l k)[2*i]).num,.int .i8 ((V.l k)[2*i+1]).num]:=by
      rw [← List.map_drop,← List.map_take,List.drop_eq_getElem_cons l1,List.drop_eq_getElem_cons l2];rfl
     rw [← e6,Nat.mul_comm i 2];exact C8 (Eh k4)
    ·refine @BC.app (Ae V) ρ M w [_] [_] [_] [_] (@BC.one (Ae V) ρ M w _ _ ?_) (@BC.one (Ae V) ρ M w _ _ ?_)
     ·unfold Rp
      refine ⟨rfl,?_⟩;show (XP.i8 (zD V (.ap 2 (.v k) (.lit (2*a.2))))).p M w _;rw [q1];exact ⟨rfl,hb _ (List.getElem_mem l1)⟩
     ·unfold Rp
      refine ⟨rfl,?_⟩;show (XP.i8 (zD V (.ap 2 (.v k) (.lit (2*a.2+1))))).p M w _;rw [q2];exact ⟨rfl,hb _ (List.getElem_mem l2)⟩
   ·cases h
  ·cases h
 ·cases h
end
noncomputable def Ajq(F:Fa)(T:TypeId)(j:CE)(a:AV):Option CE:=match j,Ij a with
 | .ap 61 (.ap 1 (.v k) (.lit c)) _,some i=>if IL T && F7 F (0,0) i && F7 F (i.1,i.2+1) (k,c) then some (.ap 62 (.i i.1 i.2) (.lit 0)) else none
 | _,_=>none
def QV(F:Fa):CE→Option (Nat × Int)
 | .ap 41 r (.ap 0 _ (.ap 52 _ _))=>QV F r
 | .ap 40 (.ap 1 (.v k) (.lit c)) _=>if F7 F (0,0) (k,c) then some (k,c) else none
 | .ap 42 e _=>NE F.len e
 | .v k=>NE F.rlen (.v k)
 | _=>none
def Aao:CE→Nat→Option (Nat × Int)
 | .ap 45 (.v y) (.ap 1 (.v k) (.lit c)),x=>if Nat.beq y x then some (k,c) else none
 | _,_=>none
def cR:List (CE × Nat)→Nat→Option ((Nat × Int) × Nat)
 | [],_=>none
 | p :: r,x=>match Aao p.1 x with
  | some d=>some (d,p.2)
  | none=>cR r x
theorem qL{e:CE}{x:Nat}{d:Nat × Int}(h:Aao e x=some d):e = .ap 45 (.v x) (.ap 1 (.v d.1) (.lit d.2)):=by
 unfold Aao at h;split at h
 ·split at h
  ·rename_i hb
   have:=Nat.eq_of_beq_eq_true hb;subst this
   cases h
   rfl
  ·cases h
 ·cases h
theorem RL:∀{l:List (CE × Nat)}{x:Nat}{d:Nat × Int}{n:Nat},cR l x=some (d,n)→(CE.ap 45 (.v x) (.ap 1 (.v d.1) (.lit d.2)),n)∈l
 | [],_,_,_,h=>by cases h
 | p :: r,x,d,n,h=>by
  unfold cR at h;split at h
  ·rename_i d' hd
   cases h
   rw [← qL hd];exact List.mem_cons_self ..
  ·exact List.mem_cons_of_mem _ (RL h)
noncomputable def AbH(F:Fa)(T:TypeId)(c p:CE):Option AV:=match c,p with
 | .ap 60 r _,.ap 62 (.ap 1 (.v k) (.lit i)) _=>if Nat.beq T 36 then (match r with
  | .v x=>match NE F.full (.v x),NE F.rlen (.v x) with
   | some n,some l=>if F7 F (0,0) (k,i) && F7 F (k,i+1) l then some (aQ (.ap 35 (.v x) (.i k i)) n) else none
   | none,some l=>(match cR F.full x with
    | some (d,n)=>if F7 F (0,0) d && F7 F d (k,i) && F7 F (k,i+1) l then some (aQ (.ap 35 (.v x) (.i k i)) n) else none
    | none=>none)
   | _,_=>none
  | _=>none) else none
 | _,_=>none
def Nb:AV→Option (CE × Nat)
 | .ext 4 true (.ap 52 q (.lit n))=>some (q,n.toNat)
 | .rat q=>if decide (mkRat q.num q.den=q) && decide (((q.den:Int)).toNat=q.den) then (if Nat.blt q.num.natAbs 4294967296 && Nat.blt q.den 4294967296 then some (.ap 36 (.lit q.num) (.lit (q.den:Int)),1) else if smQ q then some (.ap 36 (.lit q.num) (.lit (q.den:Int)),100) else none) else none
 | _=>none
noncomputable def X3(F:Fa)(T:TypeId)(c p:CE)(a:AV):Option CE:=match c,p,Nb a with
 | .ap 60 r _,.ap 62 (.ap 1 (.v k) (.lit i)) _,some (q,n)=>match QV F r with
  | some l=>if Nat.beq T 36 && F7 F (0,0) (k,i) && F7 F (k,i+1) l then some (.ap 60 (.ap 41 r (.ap 0 (.i k i) (.ap 52 q (.lit (n:Int))))) (.lit 0)) else none
  | none=>none
 | _,_,_=>none
noncomputable def uV(F:Fa)(T:TypeId)(x y:AV):Option (TypeId × CE × CE):=match Ij x,Ij y with
 | some a,some b=>if IL T && Nat.beq a.1 b.1 && decide (a.2=b.2) && !(Nat.beq a.1 0) && F7 F (0,0) a && F7 F a (0,1048576) then some (36,.ap 60 (.ap 40 (.i a.1 a.2) (.lit 0)) (.lit 0),.ap 61 (.i a.1 a.2) (.lit 0)) else none
 | _,_=>none
def XV:Nat→List AV→Option CE
 | 0,[]=>some (.lit 0)
 | k+1,a :: l=>match Nb a,XV k l with
  | some (q,_),some e=>some (.ap 80 q e)
  | _,_=>none
 | _,_=>none
def AsL(F:Fa):Bool:=(NE F.full (.lit 1)).isSome
noncomputable def AkJ(F:Fa)(T:TypeId)(n:Nat)(l:List AV):Option AV:=if AsL F && IL T && (Nat.ble 1 n || (NE F.full (.lit 2)).isSome) then (XV n l).map aL else none
noncomputable def AjB(F:Fa)(T:TypeId):CE→Option (TypeId × CE × CE)
 | .ap 51 e _=>(match NE F.len e with
  | some n=>if IL T && F7 F (0,1) n && F7 F n (0,1048576) then some (36,.ap 60 (.ap 42 e (.lit 0)) (.lit 0),.ap 61 (.i n.1 n.2) (.lit 0)) else none
  | none=>none)
 | _=>none
noncomputable def oZ(F:Fa):XT:=⟨true,Acp F,Ajq F,AbH F,X3 F,uV F,AkJ F,AjB F⟩
section
variable {V : VL} {F : Fa} {ρ : B6} {M : Nat → Prop} {w : World} {r : AV}
theorem Vf(hF:AP V F):∀(r:CE){l:Nat × Int},QV F r=some l→((rD V r).length:Int)=iD V l:=by
 intro r
 induction r with
 | v k=>intro l h; unfold QV at h; exact hF.rlen _ (Cg h)
 | lit z=>intro l h; unfold QV at h; cases h
 | ap f a b iha _ =>
  intro l h;unfold QV at h;split at h
  ·rename_i e
   injection e with e1 e2 e3
   subst e1;subst e2;subst e3;simp only [rD];rw [List.length_set];exact iha h
  ·rename_i k c d e
   injection e with e1 e2 e3
   subst e1;subst e2;split at h
   ·rename_i hc
    cases h
    have h0:=AW hF hc;rw [z00 hF] at h0;simp only [rD];rw [List.length_replicate,M9];exact Int.toNat_of_nonneg h0
   ·cases h
  ·rename_i e
   injection e with e1 e2 e3
   subst e1;subst e2;simp only [rD];rw [List.length_map];exact hF.len _ (Cg h)
  ·rename_i e; cases e
  ·cases h
theorem IJ:∀{l:List (Option Rat)}{cs:List Value}{i:Nat}{q:Rat},AC w l cs→l[i]? = some (some q)→∃ a b c d,(cs.drop (4*i)).take 4=[a,b,c,d]∧Aw w (.agg #[a,b]) q.num∧Aw w (.agg #[c,d]) (q.den:Int)
 | some q :: l,_,0,q',⟨a,b,c,d,r,e,h1,h2,h3⟩,h=>by
  subst e;simp at h;subst h;exact ⟨a,b,c,d,rfl,h1,h2⟩
 | none :: l,_,0,q',_,h=>by simp at h
 | some q :: l,_,i+1,q',⟨a,b,c,d,r,e,h1,h2,h3⟩,h=>by
  subst e;have:=IJ (i:=i) h3 (by simpa using h);rw [show 4*(i+1)=4+4*i by omega,← List.drop_drop];simpa using this
 | none :: l,_,i+1,q',⟨r,e,h3⟩,h=>by
  subst e;have:=IJ (i:=i) h3 (by simpa using h);rw [show 4*(i+1)=4+4*i by omega,← List.drop_drop];simpa using this
theorem Hz:∀{l:List (Option Rat)}{cs:List Value}{i:Nat}{q:Rat}{a b c d:Value},AC w l cs→i<l.length→Aw w (.agg #[a,b]) q.num→Aw w (.agg #[c,d]) (q.den:Int)→AC w (l.set i (some q)) (cs.take (4*i) ++ [a,b,c,d] ++ cs.drop (4*i+4))
 | some q :: l,_,0,q',a,b,c,d,⟨a0,b0,c0,d0,r,e,h1,h2,h3⟩,_,i1,i2=>by
  subst e;exact ⟨a,b,c,d,r,by simp,i1,i2,h3⟩
 | none :: l,_,0,q',a,b,c,d,⟨r,e,h3⟩,_,i1,i2=>by
  subst e;exact ⟨a,b,c,d,r,by simp,i1,i2,h3⟩
 | some q :: l,_,i+1,q',a,b,c,d,⟨a0,b0,c0,d0,r,e,h1,h2,h3⟩,hi,i1,i2=>by
  subst e;refine ⟨a0,b0,c0,d0,_,?_,h1,h2,Hz (i:=i) h3 (by simpa using hi) i1 i2⟩;rw [show 4*(i+1)=4*i+1+1+1+1 by omega];simp
 | none :: l,_,i+1,q',a,b,c,d,⟨r,e,h3⟩,hi,i1,i2=>by
  subst e;refine ⟨_,?_,Hz (i:=i) h3 (by simpa using hi) i1 i2⟩;rw [show 4*(i+1)=4*i+1+1+1+1 by omega];simp
theorem Amm:∃ d,Tryz.prog.underlying 36=some d∧d.isRow=true:=by
 have h:(Tryz.prog.underlying 36).map (·.isRow)=some true:=by kernel_rfl
 obtain ⟨d,h1,h2⟩:=Option.map_eq_some_iff.1 h;exact ⟨d,h1,h2⟩
theorem AhH:(Tryz.prog.info? 36).map (·.size)=some 4:=by kernel_rfl
theorem Apl(k:Nat)(c:Int)(d:CE):(Ae V).J (.ap 62 (.i k c) d)=4*(iD V (k,c)).toNat:=rfl
theorem kT{g i:Nat}{q:Rat}{n:Nat}{l:List (Option Rat)}{cs:List Value}{qc:CE}(hq:qD V qc=q)(hn:At q n)(hr:w.rangeAt g 0 cs)(hc:AC w l cs)(hi:l[i]? = some (some q)):∃ v,(Instr.loadAt 36 (.pointer (some ⟨g,4*i,none⟩))).run Tryz.prog w = .ok v w ∧ @RV (Ae V) ρ M w (aQ qc n) v:=by
 obtain ⟨a,b,c,d,e,h1,h2⟩:=IJ hc hi;obtain ⟨dd,hu,hd⟩:=Amm;have hr':w.rangeAt g (4*i) [a,b,c,d]:=by
  rw [← e];have:=@C8 (Ae V) w g (4*i) 4 _ (by simpa using @Eh (Ae V) w g 0 (4*i) cs hr);exact this
 obtain ⟨x,A,k,y,rfl,rfl⟩:=J3 h1;obtain ⟨x',A',k',y',rfl,rfl⟩:=J3 h2;refine ⟨_,run_loadAt_mid w g (4*i) 36 _ dd hr' hu hd AhH,?_⟩;exact Cp (V:=V) (hq ▸ ⟨x,A,k,y,x',A',k',y',rfl,h1,h2⟩) (hq ▸ hn)
theorem WZ(hF:AP V F){T:TypeId}{c p:CE}(h:AbH F T c p=some r){g:Nat}{cs:List Value}(hr:w.rangeAt g 0 cs)(hb:(bD V c).p M w cs):∃ v,(Instr.loadAt T (.pointer (some ⟨g,(Ae V).J p,none⟩))).run Tryz.prog w = .ok v w ∧ @RV (Ae V) ρ M w r v:=by
 unfold AbH at h;split at h
 ·rename_i r0 d k i d'
  change AC w (rD V r0) cs at hb;split at h
  ·rename_i hT
   have hT:=Nat.eq_of_beq_eq_true hT;subst hT;rw [Apl];split at h
   ·rename_i x
    split at h
    ·rename_i n l hn hl
     split at h
     ·rename_i hc
      simp only [Bool.and_eq_true] at hc;have c3:=AW hF hc.1;rw [z00 hF] at c3;have c4:=AW hF hc.2;have hlen:=hF.rlen _ (Cg hl)
      cases h
      have hlt:(iD V (k,i)).toNat<(rD V (.v x)).length:=by
       have e1:iD V l=V.z l.1+l.2:=rfl;have e2:iD V (k,i+1)=V.z k+(i+1):=rfl;have e3:iD V (k,i)=V.z k+i:=rfl;simp only [] at hlen;omega
      obtain ⟨q,e,hq⟩:=hF.full _ (Cg hn) _ (List.getElem_mem hlt);have hget:(rD V (.v x))[(iD V (k,i)).toNat]? = some (some q):=by rw [List.getElem?_eq_getElem hlt,e]
      refine kT (q:=q) ?_ hq hr hb hget;simp only [qD];rw [M9,List.getD_eq_getElem?_getD,hget];rfl
     ·cases h
    ·rename_i l hn hl
     split at h
     ·rename_i d n hd
      split at h
      ·rename_i hc
       simp only [Bool.and_eq_true] at hc;have c1:=AW hF hc.1.1;rw [z00 hF] at c1;have c2:=AW hF hc.1.2;have c4:=AW hF hc.2;have hlen:=hF.rlen _ (Cg hl)
       cases h
       have hlt:(iD V (k,i)).toNat<(rD V (.v x)).length:=by
        have e1:iD V l=V.z l.1+l.2:=rfl;have e2:iD V (k,i+1)=V.z k+(i+1):=rfl;have e3:iD V (k,i)=V.z k+i:=rfl;simp only [] at hlen;omega
       have hm:(rD V (.v x))[(iD V (k,i)).toNat]∈rD V (.ap 45 (.v x) (.ap 1 (.v d.1) (.lit d.2))):=by
        show _∈(rD V (.v x)).drop (iD V d).toNat;rw [List.mem_drop_iff_getElem];exact ⟨(iD V (k,i)).toNat - (iD V d).toNat,by omega,by congr 1; omega⟩
       obtain ⟨q,e,hq⟩:=hF.full _ (RL hd) _ hm;have hget:(rD V (.v x))[(iD V (k,i)).toNat]? = some (some q):=by rw [List.getElem?_eq_getElem hlt,e]
       refine kT (q:=q) ?_ hq hr hb hget;simp only [qD];rw [M9,List.getD_eq_getElem?_getD,hget];rfl
      ·cases h
     ·cases h
    ·cases h
   ·cases h
  ·cases h
 ·cases h
theorem Df{a:AV}{q:CE}{n:Nat}{v:Value}(h:Nb a=some (q,n))(hv:@RV (Ae V) ρ M w a v):(As (qD V q)).p v w∧At (qD V q) n:=by
 unfold Nb at h;split at h
 ·rename_i q' n'
  cases h
  have hv:@Co (Ae V) ρ M w (.ext 4 true (.ap 52 q (.lit n'))) v:=hv;obtain ⟨cs,rfl,hc⟩:=hv;have:=@BN V ρ M w q n'.toNat (.agg cs) ⟨cs,rfl,by
   unfold Rp at hc ⊢;refine ⟨hc.1,?_⟩;have h2:=hc.2;show (XP.num (qD V q) ((n'.toNat:Nat):Int).toNat).p M w cs.toList;rw [Int.toNat_natCast];exact h2⟩
  exact this
 ·rename_i q'
  split at h
  ·rename_i hc
   rw [Bool.and_eq_true] at hc;have e1:=of_decide_eq_true hc.1;have hv:@Co (Ae V) ρ M w (.rat q') v:=hv;have hr:=@Cl (Ae V) ρ M w v (.rat q') q' rfl hv;have hq:qD V (.ap 36 (.lit q'.num) (.lit (q'.den:Int)))=q':=by
    simp only [qD];rw [Int.toNat_natCast];exact e1
   split at h
   ·rename_i hs
    rw [Bool.and_eq_true] at hs
    cases h
    rw [hq];have h1:=Nat.le_of_ble_eq_true hs.1;have h2:=Nat.le_of_ble_eq_true hs.2;exact ⟨hr,by unfold Sm; rw [Nat.pow_one]; exact h1,by unfold Sm; rw [Int.natAbs_natCast,Nat.pow_one]; exact h2⟩
   ·split at h
    ·rename_i hs
     cases h
     rw [hq];exact ⟨hr,@Jh (Ae V) _ hs⟩
    ·cases h
  ·cases h
 ·cases h
theorem TA(hF:AP V F){T:TypeId}{c p c':CE}{a:AV}(h:X3 F T c p a=some c'){cs:List Value}{v:Value}(hb:(bD V c).p M w cs)(hv:@RV (Ae V) ρ M w a v) :
  (Tryz.prog.info? T).map (·.size)=some v.cells.size∧(∀ x∈v.cells.toList,x.oneCell'=true)∧(Ae V).J p+v.cells.size≤cs.length∧(bD V c').p M w (cs.take ((Ae V).J p) ++ v.cells.toList ++ cs.drop ((Ae V).J p+v.cells.size)):=by
 unfold X3 at h;split at h
 ·rename_i r0 d k i d' q n hn
  change AC w (rD V r0) cs at hb;obtain ⟨hr,hsm⟩:=Df hn hv;split at h
  ·rename_i l hl
   split at h
   ·rename_i hc
    simp only [Bool.and_eq_true] at hc;obtain ⟨⟨c1,c2⟩,c3⟩:=hc;have c1:=Nat.eq_of_beq_eq_true c1;subst c1;have c2:=AW hF c2;rw [z00 hF] at c2;have c3:=AW hF c3;have hlen:=Vf hF _ hl
    cases h
    obtain ⟨x,A,kk,y,x',A',k',y',rfl,h1,h2⟩:=hr;have hlt:(iD V (k,i)).toNat<(rD V r0).length:=by
     have e2:iD V (k,i+1)=V.z k+(i+1):=rfl;have e3:iD V (k,i)=V.z k+i:=rfl;omega
    have hcl:=hb.len;rw [Apl];refine ⟨AhH,λz hz=>?_,?_,?_⟩
    ·simp only [Value.cells,List.mem_cons,List.not_mem_nil,or_false] at hz
     rcases hz with rfl | rfl | rfl | rfl <;> rfl
    ·show 4*(iD V (k,i)).toNat+4≤cs.length
     omega
    ·show AC w (rD V (.ap 41 r0 (.ap 0 (.i k i) (.ap 52 q (.lit (n:Int)))))) _
     simp only [rD];rw [M9];exact Hz hb hlt h1 h2
   ·cases h
  ·cases h
 ·cases h
end
section
variable {V : VL} {F : Fa} {ρ : B6} {M : Nat → Prop} {w : World} {r : AV}
theorem YE(hF:AP V F){T:TypeId}{j p:CE}{a:AV}(h:Ajq F T j a=some p){g k:Nat}{v:Value}(hv:@RV (Ae V) ρ M w a v):(Instr.indexAt T (.slice (some ⟨g,0,none⟩) ((Ae V).N j) k) v).run Tryz.prog w = .ok (.pointer (some ⟨g,(Ae V).J p,none⟩)) w:=by
 letI:=Ae V
 unfold Ajq at h;split at h
 ·rename_i k' c d i hi
  split at h
  ·rename_i hc
   simp only [Bool.and_eq_true] at hc;obtain ⟨⟨hT,h0⟩,h1⟩:=hc
   cases h
   have h0:=AW hF h0;rw [z00 hF] at h0;have h1:=AW hF h1;have hv1:@Co (Ae V) ρ M w a v:=by
    cases a <;> first | exact hv | (unfold Ij at hi; cases hi)
   have hv:=BV hF hi hv1;subst hv;have hN:(Ae V).N (.ap 61 (.ap 1 (.v k') (.lit c)) d)=(iD V (k',c)).toNat:=rfl;have e2:iD V (i.1,i.2+1)=V.z i.1+(i.2+1):=rfl;have e3:iD V i=V.z i.1+i.2:=rfl;have:=FL (w:=w) (g:=g) (off:=0) (c:=k) (len:=(iD V (k',c)).toNat) (k:=.i64) (i:=iD V i) (EW hT) gC ⟨h0,by omega⟩;rw [hN,this];have hJ:(Ae V).J (.ap 62 (.i i.1 i.2) (.lit 0))=0+(iD V i).toNat*4:=by
    show 4*(iD V (i.1,i.2)).toNat=0+(iD V i).toNat*4;rw [show iD V (i.1,i.2)=iD V i from rfl];omega
   rw [hJ]
  ·cases h
 ·cases h
theorem gI:∃ i z,Tryz.prog.info? 36=some i∧i.zero=some z∧i.size=4∧i.bytes≤1048576∧z.cells.toList=[.bool false,.slice none 0 0,.bool false,.slice none 0 0]:=by
 have h:((Tryz.prog.info? 36).bind λi=>i.zero.map λz=>(i.size,decide (i.bytes≤1048576),z.cells.toList))=some (4,true,[.bool false,.slice none 0 0,.bool false,.slice none 0 0]):=by kernel_rfl
 obtain ⟨i,hi,h⟩:=Option.bind_eq_some_iff.1 h;obtain ⟨z,hz,h⟩:=Option.map_eq_some_iff.1 h;simp only [Prod.mk.injEq] at h;exact ⟨i,z,hi,hz,h.1,of_decide_eq_true h.2.1,h.2.2⟩
theorem TQ:Ld 36=true:=by kernel_rfl
theorem JI:∀ n,AC w (List.replicate n none) (Jq n [.bool false,.slice none 0 0,.bool false,.slice none 0 0])
 | 0=>rfl
 | n+1=>⟨_,rfl,JI n⟩
theorem W4(hF:AP V F){T e:TypeId}{x y:AV}{c j:CE}(h:uV F T x y=some (e,c,j)):Ld e=true∧∀(ρ:B6)(M:Nat→Prop)(w:World)(vx vy:Value),@RV (Ae V) ρ M w x vx → @RV (Ae V) ρ M w y vy →
  ∃ cells,(Instr.makeSlice T vx vy).run Tryz.prog w = .ok (.slice (some ⟨w.heap.size,0,none⟩) ((Ae V).N j) ((Ae V).N j)) (w.alloc (.cells cells e))∧(bD V c).p M w cells.toList:=by
 letI:=Ae V
 unfold uV at h;split at h
 ·rename_i a b ha hb
  split at h
  ·rename_i hc
   simp only [Bool.and_eq_true] at hc;obtain ⟨⟨⟨⟨⟨hT,e1⟩,e2⟩,_⟩,h0⟩,h1⟩:=hc
   cases h
   refine ⟨TQ,λρ M w vx vy hx hy=>?_⟩;have e1:=Nat.eq_of_beq_eq_true e1;have e2:=of_decide_eq_true e2;have hab:iD V b=iD V a:=by unfold iD; rw [e1,e2]
   have h0:=AW hF h0;rw [z00 hF] at h0;have h1:=AW hF h1;have h1:iD V a≤1048576:=by
    have:iD V (0,1048576)=V.z 0+1048576:=rfl;rw [hF.z0] at this;omega
   have one:∀{a:AV}{x:Nat × Int}{v:Value},Ij a=some x → @RV (Ae V) ρ M w a v→v = .int .i64 (iD V x):=fun {a} {x} {v} hi hv=>BV hF hi (by cases a <;> first | exact hv | (unfold Ij at hi; cases hi))
   have hx:=one ha hx;have hy:=one hb hy;subst hx;subst hy;obtain ⟨i,z,hi,hz,hs,hby,hcl⟩:=gI;have hbc:(i.bytes:Int)*iD V a≤281474976710656:=by
    have h5:(i.bytes:Int)≤1048576:=by omega
    calc (i.bytes:Int)*iD V a≤1048576*1048576:=Int.mul_le_mul h5 h1 (by omega) (by omega)
     _≤281474976710656:=by decide
   have hrun:=run_make (P:=Tryz.prog) w T 36 i z (EW hT) hi hz .i64 .i64 (iD V a) (iD V a) h0 (Int.le_refl _) hbc (by omega);have hN:(Ae V).N (.ap 61 (.i a.1 a.2) (.lit 0))=(iD V a).toNat:=rfl;refine ⟨madeCells z.cells ((iD V a).toNat*i.size),?_,?_⟩
   ·rw [hab,hN]
    exact hrun
   ·show AC w (rD V (.ap 40 (.i a.1 a.2) (.lit 0))) _
    simp only [rD];rw [M9,show iD V (a.1,a.2)=iD V a from rfl];have hzs:z.cells.size=4:=by
     have:=congrArg List.length hcl;simpa using this
    rw [hs,← hzs,Jc,hcl];exact JI _
  ·cases h
 ·cases h
theorem UZ(hF:AP V F){k:PK}{xs:List AV}(h:Acp F k xs=some r){ρv:Operand→Value}{ys:List Operand}(hv:@Cz (Ae V) ρ M w xs (ys.map ρv)) :
  ∃ v,(∀ o:Oper,o.op=Sr k ys→(execOp ρv o).run Tryz.prog w = .ok (.value v) w) ∧ @RV (Ae V) ρ M w r v:=by
 letI:=Ae V
 have two:∀{x y:AV},@Cz (Ae V) ρ M w [x,y] (ys.map ρv)→∃ a b,ys=[a,b] ∧ @Co (Ae V) ρ M w x (ρv a) ∧ @Co (Ae V) ρ M w y (ρv b):=fun {x y} ⟨va,_,e1,h1,vb,_,e2,h2,e3⟩=>by
  have e3:_=[]:=e3;subst e3;subst e2
  match ys,e1 with
  | [a,b],e1 =>
   simp only [List.map_cons,List.map_nil,List.cons.injEq,and_true] at e1;exact ⟨a,b,rfl,e1.1 ▸ h1,e1.2 ▸ h2⟩
 have one:∀{x:AV},@Cz (Ae V) ρ M w [x] (ys.map ρv)→∃ a,ys=[a] ∧ @Co (Ae V) ρ M w x (ρv a):=fun {x} ⟨va,_,e1,h1,e3⟩=>by
  have e3:_=[]:=e3;subst e3
  match ys,e1 with
  | [a],e1 =>
   simp only [List.map_cons,List.map_nil,List.cons.injEq,and_true] at e1;exact ⟨a,rfl,e1 ▸ h1⟩
 have three:∀{x y z:AV},@Cz (Ae V) ρ M w [x,y,z] (ys.map ρv)→∃ a b c,ys=[a,b,c] ∧ @Co (Ae V) ρ M w x (ρv a) ∧ @Co (Ae V) ρ M w y (ρv b) ∧ @Co (Ae V) ρ M w z (ρv c):=fun {x y z} ⟨va,_,e1,h1,vb,_,e2,h2,vc,_,e4,h4,e3⟩=>by
  have e3:_=[]:=e3;subst e3;subst e4;subst e2
  match ys,e1 with
  | [a,b,c],e1 =>
   simp only [List.map_cons,List.map_nil,List.cons.injEq,and_true] at e1;exact ⟨a,b,c,rfl,e1.1 ▸ h1,e1.2.1 ▸ h2,e1.2.2 ▸ h4⟩
 have rv:∀{a:AV}{v:Value},@Co (Ae V) ρ M w a v → @RV (Ae V) ρ M w a v:=λh=>@Co.rv (Ae V) ρ M w _ _ h
 unfold Acp at h;split at h
 ·rename_i o T U x y
  obtain ⟨a,b,rfl,hx,hy⟩:=two hv;split at h
  ·rename_i p q hp hq
   obtain ⟨v,hb,hr⟩:=XS (ρ:=ρ) (M:=M) (w:=w) hF h;obtain ⟨v',w',hrun,rfl,rfl⟩:=Pj (ρv:=ρv) (w:=w) (T:=T) (T2:=U) hb (BV hF hp hx) (BV hF hq hy);exact ⟨_,hrun,rv hr⟩
  ·split at h
   ·rename_i r0 h0
    cases h
    obtain ⟨e,A,n,c,n',c',hd,e1,e2,hr⟩:=ZL hF h0 hx hy
    rcases hr with ⟨rfl,rfl⟩ | ⟨rfl,rfl⟩
    ·refine ⟨.bool false,λz hz=>?_,rfl⟩
     have hz:z.op = .binOp .eql T a b U:=hz;unfold execOp;rw [hz];simp [eqGuard,binOp,e1,e2,IX hd]
    ·refine ⟨.bool true,λz hz=>?_,rfl⟩
     have hz:z.op = .binOp .neq T a b U:=hz;unfold execOp;rw [hz];simp [eqGuard,binOp,e1,e2,IX hd]
   ·obtain ⟨p,q,v,e1,e2,hb,hr⟩:=mS hF h hx hy
    obtain ⟨v',w',hrun,rfl,rfl⟩:=Pj (ρv:=ρv) (w:=w) (T:=T) (T2:=U) hb e1 e2;exact ⟨_,hrun,rv hr⟩
 ·rename_i T x
  obtain ⟨a,rfl,hx⟩:=one hv;obtain ⟨e,A,n,c,hd,ha,hr⟩:=Xr hF h hx;refine ⟨_,λo ho=>?_,rv hr⟩;have ho:o.op = .call { callee:=.builtin .len,args:=#[a],argTypes:=#[T] }:=ho;unfold execOp;rw [ho];simp [resolve,invoke,builtin,Builtin.len_,Sem.run_bind,run_underlying hd,ha,goInt]
 ·rename_i T U x y
  obtain ⟨a,b,rfl,hx,hy⟩:=two hv;split at h
  ·rename_i p q hp hq
   split at h
   ·rename_i hTU
    rw [Bool.and_eq_true] at hTU;have hT:=Nat.eq_of_beq_eq_true hTU.1;have hU:=Nat.eq_of_beq_eq_true hTU.2;subst hT;subst hU;have hx:=BV hF hp hx;have hy:=BV hF hq hy;have key:r=jS p∧iD V q≤iD V p ∨ r=jS q∧iD V p≤iD V q:=by
     split at h
     ·rename_i hle
      cases h
      exact .inr ⟨rfl,AW hF hle⟩
     ·split at h
      ·rename_i hle
       cases h
       exact .inl ⟨rfl,AW hF hle⟩
      ·cases h
    have hr:@Co (Ae V) ρ M w r (.int .i64 (max (iD V p) (iD V q))):=by
     rcases key with ⟨rfl,hle⟩ | ⟨rfl,hle⟩
     ·rw [show max (iD V p) (iD V q)=iD V p by omega]
      exact G4 hF
     ·rw [show max (iD V p) (iD V q)=iD V q by omega]
      exact G4 hF
    refine ⟨_,λo ho=>?_,rv hr⟩;have ho:o.op = .call { callee:=.builtin .max,args:=#[a,b],argTypes:=#[3,3] }:=ho;unfold execOp;rw [ho]
    by_cases h:iD V p<iD V q
    ·have:max (iD V p) (iD V q)=iD V q:=by omega
     simp [go_sem,hx,hy,h,this]
    ·have:max (iD V p) (iD V q)=iD V p:=by omega
     simp [go_sem,hx,hy,h,this]
   ·cases h
  ·cases h
 ·rename_i T x hh m
  obtain ⟨a,b,c,rfl,hx,hy,hz⟩:=three hv;split at h
  ·rename_i p q hp hq
   obtain ⟨n,A,ln,cc,h1,h2,h3,h4,h6,h5,hr⟩:=O7 hF h hx;have hy:=BV hF hp hy;have hz:=BV hF hq hz;refine ⟨_,λo ho=>?_,rv (hr n (Nat.le_refl _))⟩;have ho:o.op = .slice T a none (some b) (some c):=ho;unfold execOp;rw [ho];show Sem.run _ (Instr.sliceAt T (ρv a) none (some (ρv b)) (some (ρv c)) >>= λx=>pure (Next.value x)) w=_;rw [h4,hy,hz,h1,h2];exact DC (Pf h3 gC (Nat.le_refl _) (Nat.le_trans h6 h5))
  ·cases h
 ·rename_i T x hh
  obtain ⟨a,b,rfl,hx,hy⟩:=two hv;split at h
  ·rename_i p hp
   obtain ⟨n,A,ln,cc,h1,h2,h3,h4,h6,h5,hr⟩:=O7 hF h hx;have hy:=BV hF hp hy;refine ⟨_,λo ho=>?_,rv (hr cc (Nat.le_trans h6 h5))⟩;have ho:o.op = .slice T a none (some b) none:=ho;unfold execOp;rw [ho];show Sem.run _ (Instr.sliceAt T (ρv a) none (some (ρv b)) none >>= λx=>pure (Next.value x)) w=_;rw [h4,hy,h1];exact DC (QU h3 gC h6 h5)
  ·cases h
 ·rename_i T x i
  obtain ⟨a,b,rfl,hx,hy⟩:=two hv;split at h
  ·rename_i p hp
   have hy:=BV hF hp hy;split at h
   ·rename_i r0 h0
    cases h
    obtain ⟨g,off,n,c,h1,h2,h3,h4,hr⟩:=Z9 hF h0 hx;refine ⟨_,λo ho=>?_,rv hr⟩;have ho:o.op = .indexAddr T a b:=ho;unfold execOp;rw [ho];show Sem.run _ (Instr.indexAt T (ρv a) (ρv b) >>= λx=>pure (Next.value x)) w=_;rw [h2,hy];exact DC (FL h1 gC ⟨h3,h4⟩)
   ·obtain ⟨e,g,off,n,c,h1,h2,h3,h4,h5,hr⟩:=ZF hF h hx
    refine ⟨_,λo ho=>?_,rv hr⟩;have ho:o.op = .indexAddr T a b:=ho;unfold execOp;rw [ho];show Sem.run _ (Instr.indexAt T (ρv a) (ρv b) >>= λx=>pure (Next.value x)) w=_;rw [h3,hy];exact DC (FL h1 h2 ⟨h4,h5⟩)
  ·cases h
 ·rename_i T U x
  obtain ⟨a,rfl,hx⟩:=one hv;obtain ⟨z,hT,hU,ha,hr⟩:=lQ h hx;refine ⟨_,λo ho=>?_,rv hr⟩;have ho:o.op = .convert T U a:=ho;unfold execOp;rw [ho];simp [convert,Sem.run_bind,run_underlying hT,run_underlying hU,ha,go_sem]
 ·cases h
theorem oK{a:AV}{q:CE}{n:Nat}{x:List Value}(h:Nb a=some (q,n))(r:@Rp (Ae V) ρ M w a x):∃ p u s t,x=[p,u,s,t]∧Aw w (.agg #[p,u]) (qD V q).num∧Aw w (.agg #[s,t]) ((qD V q).den:Int):=by
 have hv:@RV (Ae V) ρ M w a (.agg x.toArray):=by
  have h:=h;unfold Nb at h;split at h
  ·exact ⟨_,rfl,r⟩
  ·exact ⟨_,rfl,r⟩
  ·cases h
 obtain ⟨⟨b,A,k,c,b',A',k',c',e,h1,h2⟩,_⟩:=Df h hv;simp only [Value.agg.injEq] at e;have e:=congrArg Array.toList e;exact ⟨_,_,_,_,e,h1,h2⟩
theorem Om:∀{n:Nat}{l:List AV}{e:CE}{cs:List Value},XV n l=some e → @BC (Ae V) ρ M w l cs→(lD V e).length=n∧AX w (lD V e) cs
 | 0,[],e,cs,h,r=>by
  unfold XV at h
  cases h
  unfold BC at r;exact ⟨by simp [lD],by rw [r]; simp [lD,AX]⟩
 | k+1,a :: l,e,cs,h,r=>by
  unfold XV at h;split at h
  ·rename_i q n e' hq hl
   cases h
   unfold BC at r;obtain ⟨x,y,rfl,r1,r2⟩:=r;obtain ⟨p,u,s,t,rfl,i1,i2⟩:=oK hq r1;obtain ⟨h1,h2⟩:=Om hl r2;have he:lD V (.ap 80 q e')=qD V q :: lD V e':=by simp only [lD]
   rw [he];exact ⟨by rw [List.length_cons,h1],p,u,s,t,y,rfl,i1,i2,h2⟩
  ·cases h
 | 0,_ :: _,_,_,h,_=>by unfold XV at h; cases h
 | _+1,[],_,_,h,_=>by unfold XV at h; cases h
theorem Yc{T:TypeId}{n:Nat}{l:List AV}(h:AkJ F T n l=some r){g:Nat}{cs:List Value}(hm:¬ M g)(hg:g<w.heap.size)(hr:w.rangeAt g 0 cs){ρ':B6}(hc:@BC (Ae V) ρ' M w l cs):@RV (Ae V) ρ M w r (.slice (some ⟨g,0,none⟩) n n):=by
 unfold AkJ at h;split at h
 ·obtain ⟨e,he,rfl⟩:=Option.map_eq_some_iff.1 h
  obtain ⟨h1,h2⟩:=Om he hc;refine @Co.rv (Ae V) ρ M w _ _ (Bb ⟨some ⟨g,0,none⟩,n,by rw [h1],Nat.le_of_eq h1,λ_=>⟨g,0,cs,rfl,hm,hg,hr,h2⟩⟩)
 ·cases h
theorem KQ:∀{l:List Rat}{cs:List Value},AX w l cs→AC w (l.map some) cs
 | [],_,h=>h
 | _ :: _,_,⟨a,b,c,d,r,e,h1,h2,h3⟩=>⟨a,b,c,d,r,e,h1,h2,KQ h3⟩
theorem Xv(hF:AP V F){T et:TypeId}{e c n:CE}(h:AjB F T e=some (et,c,n)):Ld et=true∧Tryz.prog.underlying T=some (.slice et)∧(∃ i z,Tryz.prog.info? et=some i∧i.zero=some z∧i.size=4∧z.cells.size=4∧i.bytes≤1048576)∧1≤(Ae V).N n∧(Ae V).N n≤1048576 ∧
  ∀(M:Nat→Prop)(w:World)(v:Value),((Ae V).X e).p M w [v]→∃ g off xs k,v = .slice (some ⟨g,off,none⟩) ((Ae V).N n) k∧w.rangeAt g off xs∧xs.length=(Ae V).N n*4∧((Ae V).B c).p M w xs:=by
 unfold AjB at h;split at h
 ·rename_i e d
  split at h
  ·rename_i n hn
   split at h
   ·rename_i hc
    simp only [Bool.and_eq_true] at hc;obtain ⟨⟨hT,h1⟩,h2⟩:=hc
    cases h
    have h1:=AW hF h1;have h2:=AW hF h2;have hlen:=hF.len _ (Cg hn);have e0:iD V n=V.z n.1+n.2:=rfl;have e01:iD V (0,1)=1:=by unfold iD; simp [hF.z0]
    have e02:iD V (0,1048576)=1048576:=by unfold iD; simp [hF.z0]
    rw [e01] at h1;rw [e02] at h2;simp only [] at hlen;have hN:(Ae V).N (.ap 61 (.i n.1 n.2) (.lit 0))=(lD V e).length:=by
     show (zD V (.i n.1 n.2)).toNat=_;rw [M9];show (iD V n).toNat=_;omega
    obtain ⟨i,z,q1,q2,q3,q4,q5⟩:=gI;refine ⟨TQ,EW hT,⟨i,z,q1,q2,q3,by rw [← Array.length_toList,q5]; rfl,q4⟩,by rw [hN]; omega,by rw [hN]; omega,λM w v hv=>?_⟩;obtain ⟨A,c,k1,k2,k3⟩:=hv;obtain ⟨g,off,xs,rfl,_,_,hr,hcs⟩:=k3 (by omega);have ho:=KQ hcs;refine ⟨g,off,xs,c,by rw [hN]; exact (List.cons.inj k1).1,hr,?_,?_⟩
    ·rw [ho.len,List.length_map,hN,Nat.mul_comm]
    ·show AC w (rD V (.ap 42 e (.lit 0))) xs
     simp only [rD];exact ho
   ·cases h
  ·cases h
 ·cases h
theorem dT(hF:AP V F):@R_ (Ae V) (oZ F):=by
 refine @R_.mk (Ae V) (oZ F) ?_ ?_ ?_ ?_ ?_ ?_ ?_
 ·exact λk xs r h ρ M w ρv ys _ hv=>UZ hF h hv
 ·exact λT j a p h ρ M w g k v hv=>YE hF h hv
 ·exact λT c p r h ρ M w g cs hr hb=>WZ hF h hr hb
 ·exact λT c p a c' h ρ M w cs v hb hv=>TA hF h hb hv
 ·exact λT x y e c j h=>W4 hF h
 ·intro T n l r h ρ M w g cs hm hg hr hc
  simp only [oZ] at h;exact @Yc V F ρ M w r T n l h g cs hm hg hr ρ hc
 ·intro T e et c n h
  simp only [oZ] at h;exact Xv hF h
end
theorem VR:EQ Am (DW ⟨Ke WV,.none,noC⟩ Am 3000) 10 [] [] 16 0=some (.val (.bool true),[]):=by kernel_rfl
def XP.nothing:XP:=⟨λ_ _ _=>False,λ_ _ _ _ _ _ _ _ h=>h,λ_ _ _ h=>h.elim⟩
@[reducible] def As7:Dn:=⟨λ_=>XP.nothing,λ_=>XP.nothing,λ_=>0,λ_=>0⟩
theorem U3(w:World):Calls Tryz.prog 10 #[] w (Ak (Ap (.bool true)) w):=
 letI:=As7
 Calls.mono (N_ ⟨wQ,R_.no,qO⟩ CV VR (w:=w) (vs:=[]) rfl) λ_ _ ⟨v,e,⟨_,_,h⟩,hb⟩=>⟨v,e,h,hb⟩
end Go.Proofs.YtgaehhapjnbieaaGreat
