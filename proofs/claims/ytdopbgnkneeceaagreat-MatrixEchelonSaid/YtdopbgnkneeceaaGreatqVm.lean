/- An abstract machine: the contracts of numbers. -/
import Derived.Test.YtdopbgnkneeceaaGreatqVl
import Derived.Test.YtdopbgnkneeceaaGreatqQr
set_option linter.unusedSectionVars false
set_option linter.unusedVariables false
set_option linter.unusedSimpArgs false
set_option maxRecDepth 100000
namespace Go.Proofs.YtdopbgnkneeceaaGreat
open Go.RowKit
section
variable [Cd]
section
variable {ρ : Bg} {M : Nat → Prop} {w : World} {v : Value}
theorem Hg{x y:Value}{z:Int}(h:Al w (.agg #[x,y]) z):∃ b A k c,x = .bool b∧y = .slice A k c:=by
 obtain ⟨s,e,A,c,e2,_⟩:=h;simp only [Value.agg.injEq] at e;have e:=congrArg Array.toList e;simp only [List.cons.injEq] at e;exact ⟨_,_,_,_,e.1,e.2.1.trans e2⟩
theorem yV{n d:Int}{q:Rat}(hn:q.num=n)(hd:(q.den:Int)=d)(h:(CO n d).p v w):Bz ρ M w (.rat q) v:=by
 obtain ⟨b,A,k,c,b',A',k',c',rfl,h1,h2⟩:=h;refine ⟨_,rfl,?_⟩;unfold Rp;exact ⟨_,_,_,_,rfl,hn ▸ h1,hd ▸ h2⟩
theorem EU{q:Rat}(h:(An q).p v w):Bz ρ M w (.rat q) v:=yV rfl rfl h
theorem jJ{n d:Int}(h:(CO n d).p v w):Bz ρ M w (.agg [.num n,.num d]) v:=by
 obtain ⟨b,A,k,c,b',A',k',c',rfl,h1,h2⟩:=h;refine ⟨_,rfl,?_⟩;unfold AQ;refine ⟨[_,_],[_,_],rfl,by unfold Rp; exact ⟨_,_,rfl,h1⟩,AQ.one ?_⟩;unfold Rp;exact ⟨_,_,rfl,h2⟩
theorem AdY{z:Int}(h:(Af z).p v w):Bz ρ M w (.num z) v:=by
 obtain ⟨s,e,hs⟩:=h;refine ⟨#[.bool (decide (z<0)),s],e,?_⟩;unfold Rp;exact ⟨_,_,rfl,s,rfl,hs⟩
def SC:AV→Option Rat
 | .rat q=>some q
 | .agg [.rat q]=>some q
 | .agg [.num a,.num b]=>if decide ((mkRat a b.toNat).num=a) && decide (((mkRat a b.toNat).den:Int)=b) then some (mkRat a b.toNat) else none
 | _=>none
theorem X9{q:Rat}{cs:List Value}(h:Rp ρ M w (.rat q) cs):(An q).p (.agg cs.toArray) w:=by
 unfold Rp at h;obtain ⟨a,b,c,d,rfl,h1,h2⟩:=h;obtain ⟨x,A,k,e,rfl,rfl⟩:=Hg h1;obtain ⟨x',A',k',e',rfl,rfl⟩:=Hg h2;exact ⟨x,A,k,e,x',A',k',e',rfl,h1,h2⟩
theorem Fl{a:AV}{q:Rat}(h:SC a=some q)(hv:Bz ρ M w a v):(An q).p v w:=by
 unfold SC at h;split at h
 ·cases h
  obtain ⟨cs,rfl,hc⟩:=hv;have:=X9 hc;rwa [Array.toArray_toList] at this
 ·cases h
  obtain ⟨cs,rfl,hc⟩:=hv;have:=X9 hc.one';rwa [Array.toArray_toList] at this
 ·rename_i a b
  split at h
  ·rename_i hc
   cases h
   rw [Bool.and_eq_true] at hc;have e1:=of_decide_eq_true hc.1;have e2:=of_decide_eq_true hc.2;obtain ⟨cs,rfl,hcs⟩:=hv;unfold AQ at hcs;obtain ⟨x,y,e,r1,r2⟩:=hcs;have r2:=r2.one';unfold Rp at r1 r2;obtain ⟨x1,x2,rfl,i1⟩:=r1;obtain ⟨y1,y2,rfl,i2⟩:=r2;obtain ⟨b1,A,k,c,rfl,rfl⟩:=Hg i1;obtain ⟨b2,A',k',c',rfl,rfl⟩:=Hg i2;refine ⟨b1,A,k,c,b2,A',k',c',?_,e1.symm ▸ i1,e2.symm ▸ i2⟩
   congr 1
   apply Array.ext';exact e
  ·cases h
 ·cases h
def RZ:AV→Option Int
 | .num z=>some z
 | .agg [.num z]=>some z
 | _=>none
theorem iR{z:Int}{cs:List Value}(h:Rp ρ M w (.num z) cs):(Af z).p (.agg cs.toArray) w:=by
 unfold Rp at h;obtain ⟨a,b,rfl,h⟩:=h;exact h
theorem GI{a:AV}{z:Int}(h:RZ a=some z)(hv:Bz ρ M w a v):(Af z).p v w:=by
 unfold RZ at h;split at h
 ·cases h
  obtain ⟨cs,rfl,hc⟩:=hv;have:=iR hc;rwa [Array.toArray_toList] at this
 ·cases h
  obtain ⟨cs,rfl,hc⟩:=hv;have:=iR hc.one';rwa [Array.toArray_toList] at this
 ·cases h
end
def smQ(q:Rat):Bool:=Nat.blt q.num.natAbs (4294967296 ^ 100) && Nat.blt q.den (4294967296 ^ 100)
theorem Hv{q:Rat}(h:smQ q=true):AR q 100:=by
 unfold smQ at h;rw [Bool.and_eq_true] at h;have h1:=Nat.le_of_ble_eq_true h.1;have h2:=Nat.le_of_ble_eq_true h.2;exact ⟨h1,by unfold Sm; rw [Int.natAbs_natCast]; exact h2⟩
def smZ(z:Int):Bool:=Nat.blt z.natAbs (4294967296 ^ 100)
theorem JT{z:Int}(h:smZ z=true):Sm z 100:=Nat.le_of_ble_eq_true h
def gK(z:Int):Bool:=decide (-9223372036854775808≤z) && decide (z≤9223372036854775807)
theorem D9{z:Int}(h:gK z=true) : -9223372036854775808≤z∧z≤9223372036854775807:=by
 unfold gK at h;rw [Bool.and_eq_true] at h;exact ⟨of_decide_eq_true h.1,of_decide_eq_true h.2⟩
structure PE where
 f:Nat
 g:List AV→Option AV
def PE.ok(e:PE):Prop:=∀ xs r,e.g xs=some r→Bf e.f∧∀(ρ:Bg)(M:Nat→Prop)(w:World)(vs:List Value),(∀ b,M b→b<w.heap.size)→CH ρ M w xs vs →
 Calls Tryz.prog e.f vs.toArray w λe w'=>∃ v,e = .returned v∧RV ρ M w' r v∧Below w.heap.size w w'
def lkP:List PE→Nat→Option (List AV→Option AV)
 | [],_=>none
 | e :: l,f=>if Nat.beq e.f f then some e.g else lkP l f
def Gr(l:List PE):cC:=λf xs=>match lkP l f with
 | some g=>g xs
 | none=>none
theorem Ox{l:List PE}(h:∀ e∈l,e.ok):Ke (Gr l):=by
 intro f xs r e;unfold Gr at e;split at e
 ·rename_i g hg
  have key:∀ l:List PE,(∀ e∈l,e.ok)→lkP l f=some g→∃ e∈l,e.f=f∧e.g=g:=by
   intro l
   induction l with
   | nil=>intro _ h; cases h
   | cons x r ih =>
    intro h hl;unfold lkP at hl;split at hl
    ·rename_i hb
     exact ⟨x,by simp,Nat.eq_of_beq_eq_true hb,Option.some.inj hl⟩
    ·obtain ⟨e,h1,h2⟩:=ih (λe he=>h e (by simp [he])) hl
     exact ⟨e,by simp [h1],h2⟩
  obtain ⟨e0,h1,rfl,rfl⟩:=key l h hg;exact h e0 h1 xs r e
 ·cases e
section
variable {f : Nat}
def r2(g:Rat→Rat→Option AV):List AV→Option AV
 | [x,y]=>match SC x,SC y with
  | some a,some b=>if smQ a && smQ b then g a b else none
  | _,_=>none
 | _=>none
def r1(g:Rat→Option AV):List AV→Option AV
 | [x]=>match SC x with
  | some a=>if smQ a then g a else none
  | none=>none
 | _=>none
def z2(g:Int→Int→Option AV):List AV→Option AV
 | [x,y]=>match RZ x,RZ y with
  | some a,some b=>if smZ a && smZ b then g a b else none
  | _,_=>none
 | _=>none
def z1(g:Int→Option AV):List AV→Option AV
 | [x]=>match RZ x with
  | some a=>if smZ a then g a else none
  | none=>none
 | _=>none
def n1(g:Int→Option AV):List AV→Option AV
 | [.val (.int .i64 z)]=>if gK z then g z else none
 | _=>none
def n2(g:Int→Int→Option AV):List AV→Option AV
 | [.val (.int .i64 y),.val (.int .i64 z)]=>if gK y && gK z then g y z else none
 | _=>none
theorem Nh{g:Rat→Rat→Option AV}(pl:Bf f)(h:∀ a b r,AR a 100→AR b 100→g a b=some r→∀ ρ M w va vb,(An a).p va w→(An b).p vb w→∃ R:PF,Calls Tryz.prog f #[va,vb] w (Aj R w)∧∀ v w',R.p v w'→RV ρ M w' r v):PE.ok ⟨f,r2 g⟩:=by
 intro xs r e;change r2 g xs=some r at e;refine ⟨pl,λρ M w vs _ hv=>?_⟩;unfold r2 at e;split at e
 ·rename_i x y
  split at e
  ·rename_i a b ha hb
   split at e
   ·rename_i hs
    rw [Bool.and_eq_true] at hs;obtain ⟨va,_,rfl,h1,vb,_,rfl,h2,h3⟩:=hv;have h3:_=[]:=h3;subst h3;obtain ⟨R,hc,hR⟩:=h a b r (Hv hs.1) (Hv hs.2) e ρ M w va vb (Fl ha h1) (Fl hb h2);exact Calls.mono hc λe w' ⟨v,e1,e2,e3⟩=>⟨v,e1,hR v w' e2,e3⟩
   ·cases e
  ·cases e
 ·cases e
theorem Yz{g:Rat→Option AV}(pl:Bf f)(h:∀ a r,AR a 100→g a=some r→∀ ρ M w va,(An a).p va w→∃ R:PF,Calls Tryz.prog f #[va] w (Aj R w)∧∀ v w',R.p v w'→RV ρ M w' r v):PE.ok ⟨f,r1 g⟩:=by
 intro xs r e;change r1 g xs=some r at e;refine ⟨pl,λρ M w vs _ hv=>?_⟩;unfold r1 at e;split at e
 ·rename_i x
  split at e
  ·rename_i a ha
   split at e
   ·rename_i hs
    obtain ⟨va,_,rfl,h1,h3⟩:=hv;have h3:_=[]:=h3;subst h3;obtain ⟨R,hc,hR⟩:=h a r (Hv hs) e ρ M w va (Fl ha h1);exact Calls.mono hc λe w' ⟨v,e1,e2,e3⟩=>⟨v,e1,hR v w' e2,e3⟩
   ·cases e
  ·cases e
 ·cases e
theorem Abb{g:Int→Int→Option AV}(pl:Bf f)(h:∀ a b r,Sm a 100→Sm b 100→g a b=some r→∀ ρ M w va vb,(Af a).p va w→(Af b).p vb w→∃ R:PF,Calls Tryz.prog f #[va,vb] w (Aj R w)∧∀ v w',R.p v w'→RV ρ M w' r v):PE.ok ⟨f,z2 g⟩:=by
 intro xs r e;change z2 g xs=some r at e;refine ⟨pl,λρ M w vs _ hv=>?_⟩;unfold z2 at e;split at e
 ·rename_i x y
  split at e
  ·rename_i a b ha hb
   split at e
   ·rename_i hs
    rw [Bool.and_eq_true] at hs;obtain ⟨va,_,rfl,h1,vb,_,rfl,h2,h3⟩:=hv;have h3:_=[]:=h3;subst h3;obtain ⟨R,hc,hR⟩:=h a b r (JT hs.1) (JT hs.2) e ρ M w va vb (GI ha h1) (GI hb h2);exact Calls.mono hc λe w' ⟨v,e1,e2,e3⟩=>⟨v,e1,hR v w' e2,e3⟩
   ·cases e
  ·cases e
 ·cases e
theorem rF{g:Int→Option AV}(pl:Bf f)(h:∀ a r,Sm a 100→g a=some r→∀ ρ M w va,(Af a).p va w→∃ R:PF,Calls Tryz.prog f #[va] w (Aj R w)∧∀ v w',R.p v w'→RV ρ M w' r v):PE.ok ⟨f,z1 g⟩:=by
 intro xs r e;change z1 g xs=some r at e;refine ⟨pl,λρ M w vs _ hv=>?_⟩;unfold z1 at e;split at e
 ·rename_i x
  split at e
  ·rename_i a ha
   split at e
   ·rename_i hs
    obtain ⟨va,_,rfl,h1,h3⟩:=hv;have h3:_=[]:=h3;subst h3;obtain ⟨R,hc,hR⟩:=h a r (JT hs) e ρ M w va (GI ha h1);exact Calls.mono hc λe w' ⟨v,e1,e2,e3⟩=>⟨v,e1,hR v w' e2,e3⟩
   ·cases e
  ·cases e
 ·cases e
theorem Abt{g:Int→Option AV}(pl:Bf f)(h:∀ z r,-9223372036854775808≤z→z≤9223372036854775807→g z=some r→∀ ρ M w,∃ R:PF,Calls Tryz.prog f #[.int .i64 z] w (Aj R w)∧∀ v w',R.p v w'→RV ρ M w' r v):PE.ok ⟨f,n1 g⟩:=by
 intro xs r e;change n1 g xs=some r at e;refine ⟨pl,λρ M w vs _ hv=>?_⟩;unfold n1 at e;split at e
 ·rename_i z
  split at e
  ·rename_i hs
   obtain ⟨va,_,rfl,h1,h3⟩:=hv;have h3:_=[]:=h3;have h1:va = .int .i64 z:=h1;subst h3;subst h1;obtain ⟨R,hc,hR⟩:=h z r (D9 hs).1 (D9 hs).2 e ρ M w;exact Calls.mono hc λe w' ⟨v,e1,e2,e3⟩=>⟨v,e1,hR v w' e2,e3⟩
  ·cases e
 ·cases e
theorem AgA{g:Int→Int→Option AV}(pl:Bf f)(h:∀ y z r,-9223372036854775808≤y→y≤9223372036854775807 → -9223372036854775808≤z→z≤9223372036854775807→g y z=some r→∀ ρ M w,∃ R:PF,Calls Tryz.prog f #[.int .i64 y,.int .i64 z] w (Aj R w)∧∀ v w',R.p v w'→RV ρ M w' r v):PE.ok ⟨f,n2 g⟩:=by
 intro xs r e;change n2 g xs=some r at e;refine ⟨pl,λρ M w vs _ hv=>?_⟩;unfold n2 at e;split at e
 ·rename_i y z
  split at e
  ·rename_i hs
   rw [Bool.and_eq_true] at hs;obtain ⟨va,_,rfl,h1,vb,_,rfl,h2,h3⟩:=hv;have h3:_=[]:=h3;have h1:va = .int .i64 y:=h1;have h2:vb = .int .i64 z:=h2;subst h3;subst h1;subst h2;obtain ⟨R,hc,hR⟩:=h y z r (D9 hs.1).1 (D9 hs.1).2 (D9 hs.2).1 (D9 hs.2).2 e ρ M w;exact Calls.mono hc λe w' ⟨v,e1,e2,e3⟩=>⟨v,e1,hR v w' e2,e3⟩
  ·cases e
 ·cases e
end
theorem J7{ρ:Bg}{M:Nat→Prop}{w:World}{u v:Value}(h:(Am u).p v w):RV ρ M w (.val u) v:=h
theorem Za{ρ:Bg}{M:Nat→Prop}{w:World}{q:Rat}{u v:Value}(h:(B7 (An q) (Am u)).p v w):RV ρ M w (.tup [.rat q,.val u]) v:=by
 obtain ⟨a,b,rfl,h1,h2⟩:=h;exact ⟨_,rfl,a,_,rfl,EU h1,b,_,rfl,h2,rfl⟩
theorem Y1{ρ:Bg}{M:Nat→Prop}{w:World}{u v:Value}(h:(B7 (CO 0 0) (Am u)).p v w):RV ρ M w (.tup [.agg [.num 0,.num 0],.val u]) v:=by
 obtain ⟨a,b,rfl,h1,h2⟩:=h;exact ⟨_,rfl,a,_,rfl,jJ h1,b,_,rfl,h2,rfl⟩
def yP(a b:Rat):Option AV:=if b=0 then some (.tup [.agg [.num 0,.num 0],.val (.int .i64 3)]) else some (.tup [.rat (a / b),.val (.int .i64 0)])
noncomputable def lK:PE:=⟨100,r2 λa b=>some (.rat (a - b))⟩
noncomputable def nU:PE:=⟨48,r2 λa b=>some (.rat (a*b))⟩
noncomputable def Acb:PE:=⟨113,r2 yP⟩
noncomputable def VU:PE:=⟨95,r1 λa=>some (.val (.int .i64 (FV a 0)))⟩
noncomputable def iY:PE:=⟨56,r1 λa=>some (.rat (-a))⟩
noncomputable def PI:PE:=⟨47,n1 λz=>some (.rat (z:Rat))⟩
noncomputable def jG:PE:=⟨49,r2 λa b=>some (.rat (a+b))⟩
noncomputable def Aa7:PE:=⟨32,r2 λa b=>some (.rat (a - b))⟩
noncomputable def pX:PE:=⟨37,r2 λa b=>some (.rat (a*b))⟩
noncomputable def AbQ:PE:=⟨110,r2 yP⟩
noncomputable def Ui:PE:=⟨38,r1 λa=>some (.val (.int .i64 (FV a 0)))⟩
noncomputable def rS:PE:=⟨36,r1 λa=>some (.rat (-a))⟩
noncomputable def YR:PE:=⟨28,n1 λz=>some (.rat (z:Rat))⟩
noncomputable def pV:PE:=⟨40,n2 λy z=>if z=0 then none else some (.rat (Rat.divInt y z))⟩
noncomputable def oG:PE:=⟨114,z1 λa=>some (.val (.int .i64 a.sign))⟩
noncomputable def AbA:PE:=⟨106,z2 λa b=>some (.num ((Int.gcd a b:Nat):Int))⟩
noncomputable def AbC:PE:=⟨78,z1 λa=>some (.val (.bool (decide (a=1))))⟩
section
theorem R9:lK.ok:=Nh (λ_ _=>by simp [go_sem]) λa b r sa sb e ρ M w va vb ha hb=>by cases e; exact ⟨_,AbM ha hb sa sb (by decide) (by decide),λv w' h=>(EU h).rv⟩
theorem Se:nU.ok:=Nh (λ_ _=>by simp [go_sem]) λa b r sa sb e ρ M w va vb ha hb=>by cases e; exact ⟨_,nJ ha hb sa sb (by decide) (by decide),λv w' h=>(EU h).rv⟩
theorem kN:Acb.ok:=Nh (λ_ _=>by simp [go_sem]) λa b r sa sb e ρ M w va vb ha hb=>by
 unfold yP at e;split at e
 ·rename_i h0
  cases e
  exact ⟨_,AfG ha hb sa sb (by decide) (by decide) h0,λv w' h=>Y1 h⟩
 ·rename_i h0
  cases e
  exact ⟨_,Ab4 ha hb sa sb (by decide) (by decide) h0,λv w' h=>Za h⟩
theorem Ol:VU.ok:=Yz (λ_ _=>by simp [go_sem]) λa r sa e ρ M w va ha=>by cases e; exact ⟨_,Qy ha sa (by decide),λv w' h=>J7 h⟩
theorem TU:iY.ok:=Yz (λ_ _=>by simp [go_sem]) λa r sa e ρ M w va ha=>by cases e; exact ⟨_,Abo ha sa (by decide),λv w' h=>(EU h).rv⟩
theorem Ms:PI.ok:=Abt (λ_ _=>by simp [go_sem]) λz r h0 h1 e ρ M w=>by cases e; exact ⟨_,X8 z h0 h1 rfl,λv w' h=>(EU h).rv⟩
theorem R5:jG.ok:=Nh (λ_ _=>by simp [go_sem]) λa b r sa sb e ρ M w va vb ha hb=>by cases e; exact ⟨_,Acx ha hb sa sb (by decide) (by decide),λv w' h=>(EU h).rv⟩
theorem tD:Aa7.ok:=Nh (λ_ _=>by simp [go_sem]) λa b r sa sb e ρ M w va vb ha hb=>by cases e; exact ⟨_,AiZ ha hb sa sb (by decide) (by decide),λv w' h=>(EU h).rv⟩
theorem So:pX.ok:=Nh (λ_ _=>by simp [go_sem]) λa b r sa sb e ρ M w va vb ha hb=>by cases e; exact ⟨_,Aa3 ha hb sa sb (by decide) (by decide),λv w' h=>(EU h).rv⟩
theorem rR:AbQ.ok:=Nh (λ_ _=>by simp [go_sem]) λa b r sa sb e ρ M w va vb ha hb=>by
 unfold yP at e;split at e
 ·rename_i h0
  cases e
  exact ⟨_,AeI ha hb sa sb (by decide) (by decide) h0,λv w' h=>Y1 h⟩
 ·rename_i h0
  cases e
  exact ⟨_,AhD ha hb sa sb (by decide) (by decide) h0,λv w' h=>Za h⟩
theorem O1:Ui.ok:=Yz (λ_ _=>by simp [go_sem]) λa r sa e ρ M w va ha=>by cases e; exact ⟨_,mE ha sa (by decide),λv w' h=>J7 h⟩
theorem S7:rS.ok:=Yz (λ_ _=>by simp [go_sem]) λa r sa e ρ M w va ha=>by cases e; exact ⟨_,AaW ha sa (by decide),λv w' h=>(EU h).rv⟩
theorem Vr:YR.ok:=Abt (λ_ _=>by simp [go_sem]) λz r h0 h1 e ρ M w=>by cases e; exact ⟨_,Aaa z h0 h1 rfl,λv w' h=>(EU h).rv⟩
theorem ZH:pV.ok:=AgA (λ_ _=>by simp [go_sem]) λy z r h0 h1 h2 h3 e ρ M w=>by
 split at e
 ·cases e
 ·rename_i hz
  cases e
  exact ⟨_,Adm rfl rfl h0 h1 h2 h3 hz,λv w' h=>(EU h).rv⟩
theorem dQ:oG.ok:=rF (λ_ _=>by simp [go_sem]) λa r sa e ρ M w va ha=>by cases e; exact ⟨_,Ab6 ha sa (by decide),λv w' h=>J7 h⟩
theorem qC:AbA.ok:=Abb (λ_ _=>by simp [go_sem]) λa b r sa sb e ρ M w va vb ha hb=>by cases e; exact ⟨_,Afa ha hb sa sb (by decide) (by decide),λv w' h=>(AdY h).rv⟩
theorem sB:AbC.ok:=rF (λ_ _=>by simp [go_sem]) λa r sa e ρ M w va ha=>by cases e; exact ⟨_,Ags ha sa (by decide),λv w' h=>J7 h⟩
end
noncomputable def Y4:List PE:=[nU,lK,VU,Ui,jG,pX,Acb,PI,YR,iY,Aa7,AbQ,rS,pV,oG,AbA,AbC]
theorem OU:∀ e∈Y4,PE.ok e:=λe he=>by
 simp only [Y4,List.mem_cons,List.not_mem_nil,or_false] at he
 rcases he with rfl | rfl | rfl | rfl | rfl | rfl | rfl | rfl | rfl | rfl | rfl | rfl | rfl | rfl | rfl | rfl | rfl
 ·exact Se
 ·exact R9
 ·exact Ol
 ·exact O1
 ·exact R5
 ·exact So
 ·exact kN
 ·exact Ms
 ·exact Vr
 ·exact TU
 ·exact tD
 ·exact rR
 ·exact S7
 ·exact ZH
 ·exact dQ
 ·exact qC
 ·exact sB
end
noncomputable def AC:List Nat:=[70,14,22,21,12,16,44,66,64,98,115,42,73,99,69,91,94,93,68,50,41,65,67,74,101,92,72,97,51,53,84,43,52,83,5,6,9,7,3,4,8,33,31,20,39,10,49,110,25,40,37,36,90,85,19,24,38,32,28,61,46,59,15,30,45,11,23,35,27,13,18,34,29,17,26,76,54,75,71,96,82,55,86]
theorem Bq:∀ f∈AC,Bf f:=λf h=>by
 simp only [AC,List.mem_cons,List.not_mem_nil,or_false] at h
 rcases h with rfl | rfl | rfl | rfl | rfl | rfl | rfl | rfl | rfl | rfl | rfl | rfl | rfl | rfl | rfl | rfl | rfl | rfl | rfl | rfl | rfl | rfl | rfl | rfl | rfl | rfl | rfl | rfl | rfl | rfl | rfl | rfl | rfl | rfl | rfl | rfl | rfl | rfl | rfl | rfl | rfl | rfl | rfl | rfl | rfl | rfl | rfl | rfl | rfl | rfl | rfl | rfl | rfl | rfl | rfl | rfl | rfl | rfl | rfl | rfl | rfl | rfl | rfl | rfl | rfl | rfl | rfl | rfl | rfl | rfl | rfl | rfl | rfl | rfl | rfl | rfl | rfl | rfl | rfl | rfl | rfl | rfl | rfl
 all_goals exact λ_ _=>by simp [go_sem]
section
structure VL where
 z:Nat→Int
 l:Nat→List Rat
 q:Nat→Rat
 r:Nat→List (Option Rat)
abbrev CE.i(k:Nat)(c:Int):CE:=.ap 1 (.v k) (.lit c)
def zD(V:VL):CE→Int
 | .ap 1 (.v k) (.lit c)=>V.z k+c
 | .ap 2 (.v k) (.lit c)=>((V.l k).getD c.toNat 0).num
 | _=>0
def Ou(l:List Rat):List Rat:=(l.reverse.dropWhile (λx=>decide (x=0))).reverse
def Aj3(a b:List Rat):List Rat:=Ou ((List.range (max a.length b.length)).map λi=>a.getD i 0+b.getD i 0)
def Aka(a b:List Rat):List Rat:=Ou ((List.range (max a.length b.length)).map λi=>a.getD i 0 - b.getD i 0)
def Adj(a:List Rat)(c:Rat):List Rat:=Ou (a.map λx=>c*x)
def Ajs(a:List Rat):List Rat:=Ou ((List.range (a.length - 1)).map λi=>(((i+1:Nat):Int):Rat)*a.getD (i+1) 0)
def Aek(R:List Rat)(x:Rat)(b:List Rat)(i:Nat):Nat→List Rat
 | 0=>R
 | j+1=>(Aek R x b i j).set (i+j) ((Aek R x b i j).getD (i+j) 0+x*b.getD j 0)
def Ahi(a b:List Rat):Nat→List Rat
 | 0=>List.replicate (a.length+b.length - 1) 0
 | i+1=>Aek (Ahi a b i) (a.getD i 0) b i b.length
def AjB(a b:List Rat):List Rat:=if a=[] ∨ b=[] then [] else Ahi a b a.length
def Ajm(a:List Rat)(x:Rat):Rat:=a.foldr (λc y=>y*x+c) 0
def qU:List Rat→Rat→List Rat
 | [],_=>[]
 | a :: l,c =>
  let s:=qU l c
  (List.range (s.length+1)).map λi=>(if i=0 then a else 0)+(if i=0 then 0 else s.getD (i - 1) 0)+c*s.getD i 0
def gG:List Rat→Rat
 | []=>1
 | x :: l=>if x=0 then gG l else x
mutual
def lD(V:VL):CE→List Rat
 | .v k=>V.l k
 | .ap 20 e i=>(lD V e).take (zD V i).toNat
 | .ap 70 e _=>Ou (lD V e)
 | .ap 71 a b=>Aj3 (lD V a) (lD V b)
 | .ap 72 a b=>Aka (lD V a) (lD V b)
 | .ap 73 a b=>AjB (lD V a) (lD V b)
 | .ap 74 a c=>Adj (lD V a) (qD V c)
 | .ap 75 a _=>Ajs (lD V a)
 | .ap 76 a c=>Ou (qU (lD V a) (qD V c))
 | .ap 77 e _=>(lD V e).take ((lD V e).length / 2)
 | .ap 80 q e=>qD V q :: lD V e
 | _=>[]
def qD(V:VL):CE→Rat
 | .v k=>V.q k
 | .ap 30 e i=>(lD V e).getD (zD V i).toNat 0
 | .ap 31 a b=>qD V a+qD V b
 | .ap 32 a b=>qD V a - qD V b
 | .ap 33 a b=>qD V a*qD V b
 | .ap 34 a _=>-qD V a
 | .ap 35 r i=>((rD V r).getD (zD V i).toNat none).getD 0
 | .ap 36 (.lit n) (.lit d)=>mkRat n d.toNat
 | .ap 37 i _=>((zD V i:Int):Rat)
 | .ap 38 e x=>Ajm (lD V e) (qD V x)
 | .ap 39 i j=>if zD V j=0 then (zD V i:Rat) else Rat.divInt (zD V i) (zD V j)
 | .ap 47 q _=>(((qD V q).num:Int):Rat)
 | .ap 48 q _=>(((qD V q).den:Int):Rat)
 | .ap 46 a b=>qD V a / qD V b
 | .ap 29 e _=>gG (lD V e)
 | _=>0
def rD(V:VL):CE→List (Option Rat)
 | .v k=>V.r k
 | .ap 40 n _=>List.replicate (zD V n).toNat none
 | .ap 41 r (.ap 0 i (.ap 52 q _))=>(rD V r).set (zD V i).toNat (some (qD V q))
 | .ap 42 e _=>(lD V e).map some
 | .ap 45 r i=>(rD V r).drop (zD V i).toNat
 | _=>[]
end
def A_(w:World):List (Option Rat)→List Value→Prop
 | [],cs=>cs=[]
 | some q :: l,cs=>∃ a b c d r,cs=a :: b :: c :: d :: r∧Al w (.agg #[a,b]) q.num∧Al w (.agg #[c,d]) (q.den:Int)∧A_ w l r
 | none :: l,cs=>∃ r,cs = .bool false :: .slice none 0 0 :: .bool false :: .slice none 0 0 :: r∧A_ w l r
theorem A_.grow{w w':World}(h:Bt w w'):∀{l:List (Option Rat)}{cs:List Value},A_ w l cs→A_ w' l cs
 | [],_,r=>r
 | some _ :: _,_,⟨a,b,c,d,r,e,h1,h2,h3⟩=>⟨a,b,c,d,r,e,h1.grow h,h2.grow h,A_.grow h h3⟩
 | none :: _,_,⟨r,e,h3⟩=>⟨r,e,A_.grow h h3⟩
theorem IP{w:World}{x y:Value}{z:Int}(h:Al w (.agg #[x,y]) z):∃ b A k c,x = .bool b∧y = .slice A k c:=by
 obtain ⟨s,e,A,c,e2,_⟩:=h;simp only [Value.agg.injEq] at e;have e:=congrArg Array.toList e;simp only [List.cons.injEq] at e;exact ⟨_,_,_,_,e.1,e.2.1.trans e2⟩
theorem Db{w:World}{x y:Value}{z:Int}(h:Al w (.agg #[x,y]) z):x.oneCell'=true∧y.oneCell'=true:=by
 obtain ⟨b,A,k,c,rfl,rfl⟩:=IP h;exact ⟨rfl,rfl⟩
theorem A_.one{w:World}:∀{l:List (Option Rat)}{cs:List Value},A_ w l cs→∀ v∈cs,v.oneCell'=true
 | [],_,h,v,hv=>by have h:_=[]:=h; subst h; cases hv
 | some _ :: _,_,⟨a,b,c,d,r,e,h1,h2,h3⟩,v,hv=>by
  subst e;simp only [List.mem_cons] at hv
  rcases hv with rfl | rfl | rfl | rfl | hv
  ·exact (Db h1).1
  ·exact (Db h1).2
  ·exact (Db h2).1
  ·exact (Db h2).2
  ·exact A_.one h3 v hv
 | none :: _,_,⟨r,e,h3⟩,v,hv=>by
  subst e;simp only [List.mem_cons] at hv
  rcases hv with rfl | rfl | rfl | rfl | hv
  ·rfl
  ·rfl
  ·rfl
  ·rfl
  ·exact A_.one h3 v hv
theorem A_.len{w:World}:∀{l:List (Option Rat)}{cs:List Value},A_ w l cs→cs.length=4*l.length
 | [],_,h=>by have h:_=[]:=h; subst h; rfl
 | some _ :: _,_,⟨a,b,c,d,r,e,h1,h2,h3⟩=>by subst e; simp [A_.len h3]; omega
 | none :: _,_,⟨r,e,h3⟩=>by subst e; simp [A_.len h3]; omega
theorem Im{w w':World}(h:Bt w w'):∀{l:List Rat}{cs:List Value},AI w l cs→AI w' l cs
 | [],_,r=>r
 | _ :: _,_,⟨a,b,c,d,r,e,h1,h2,h3⟩=>⟨a,b,c,d,r,e,h1.grow h,h2.grow h,Im h h3⟩
def XP.int(z:Int):XP:=⟨λ_ _ cs=>cs=[.int .i64 z],λ_ _ _ _ _ _ _ _ h=>h,λ_ _ _ h v hv=>by subst h; rw [List.mem_singleton] at hv; subst hv; rfl⟩
def XP.rats(l:List Rat):XP:=⟨λM w cs=>∃ A c,cs=[.slice A l.length c]∧l.length≤c∧(l.length≠0→∃ g off xs,A=some ⟨g,off,none⟩ ∧ ¬ M g∧g<w.heap.size∧w.rangeAt g off xs∧AI w l xs),
 λM M' w w' cs hg hk hm ⟨A,c,e,h1,h2⟩=>⟨A,c,e,h1,λh0=>by
  obtain ⟨g,off,xs,e1,m,s,ra,rc⟩:=h2 h0;exact ⟨g,off,xs,e1,λk=>m (hm g s k),Nat.lt_of_lt_of_le s hg.size,λj v e=>(T7.cell (w:=w) (hk g s m)).trans (ra j v e),Im hg rc⟩⟩,
 λ_ _ _ ⟨_,_,e,_⟩ v hv=>by subst e; rw [List.mem_singleton] at hv; subst hv; rfl⟩
def XP.num(q:Rat)(n:Nat):XP:=⟨λ_ w cs=>AR q n∧∃ a b c d,cs=[a,b,c,d]∧Al w (.agg #[a,b]) q.num∧Al w (.agg #[c,d]) (q.den:Int),
 λ_ _ _ _ _ hg _ _ ⟨s,a,b,c,d,e,h1,h2⟩=>⟨s,a,b,c,d,e,h1.grow hg,h2.grow hg⟩,
 λ_ _ _ ⟨_,a,b,c,d,e,h1,h2⟩ v hv=>by
  subst e;simp only [List.mem_cons,List.not_mem_nil,or_false] at hv
  rcases hv with rfl | rfl | rfl | rfl
  ·exact (Db h1).1
  ·exact (Db h1).2
  ·exact (Db h2).1
  ·exact (Db h2).2⟩
def XP.zi(z:Int)(n:Nat):XP:=⟨λ_ w cs=>Sm z n∧∃ a b,cs=[a,b]∧Al w (.agg #[a,b]) z,
 λ_ _ _ _ _ hg _ _ ⟨s,a,b,e,h1⟩=>⟨s,a,b,e,h1.grow hg⟩,
 λ_ _ _ ⟨_,a,b,e,h1⟩ v hv=>by
  subst e;simp only [List.mem_cons,List.not_mem_nil,or_false] at hv
  rcases hv with rfl | rfl
  ·exact (Db h1).1
  ·exact (Db h1).2⟩
def XP.zq(q:Rat)(n:Nat):XP:=⟨λ_ w cs=>∃ z:Int,(z:Rat)=q∧Sm z n∧∃ a b,cs=[a,b]∧Al w (.agg #[a,b]) z,
 λ_ _ _ _ _ hg _ _ ⟨z,hz,s,a,b,e,h1⟩=>⟨z,hz,s,a,b,e,h1.grow hg⟩,
 λ_ _ _ ⟨_,_,_,a,b,e,h1⟩ v hv=>by
  subst e;simp only [List.mem_cons,List.not_mem_nil,or_false] at hv
  rcases hv with rfl | rfl
  ·exact (Db h1).1
  ·exact (Db h1).2⟩
def Eh(w:World):List Rat→List Value→Prop
 | [],cs=>cs=[]
 | q :: l,cs=>∃(z:Int)(a b:Value)(r:List Value),cs=a :: b :: r∧(z:Rat)=q∧Al w (.agg #[a,b]) z∧Eh w l r
theorem Ir{w w':World}(h:Bt w w'):∀{l:List Rat}{cs:List Value},Eh w l cs→Eh w' l cs
 | [],_,r=>r
 | _ :: _,_,⟨z,a,b,r,e,hz,h1,h3⟩=>⟨z,a,b,r,e,hz,h1.grow h,Ir h h3⟩
def XP.ints(l:List Rat):XP:=⟨λM w cs=>∃ A c,cs=[.slice A l.length c]∧l.length≤c∧(l.length≠0→∃ g off xs,A=some ⟨g,off,none⟩ ∧ ¬ M g∧g<w.heap.size∧w.rangeAt g off xs∧Eh w l xs),
 λM M' w w' cs hg hk hm ⟨A,c,e,h1,h2⟩=>⟨A,c,e,h1,λh0=>by
  obtain ⟨g,off,xs,e1,m,s,ra,rc⟩:=h2 h0;exact ⟨g,off,xs,e1,λk=>m (hm g s k),Nat.lt_of_lt_of_le s hg.size,λj v e=>(T7.cell (w:=w) (hk g s m)).trans (ra j v e),Ir hg rc⟩⟩,
 λ_ _ _ ⟨_,_,e,_⟩ v hv=>by subst e; rw [List.mem_singleton] at hv; subst hv; rfl⟩
def Eg(M:Nat→Prop)(w:World):List (List Rat)→List Value→Prop
 | [],cs=>cs=[]
 | l :: ls,cs=>∃ v r,cs=v :: r∧(XP.rats l).p M w [v]∧Eg M w ls r
theorem KJ{M M':Nat→Prop}{w w':World}(hg:Bt w w')(hk:∀ b,b<w.heap.size → ¬ M b→T7 w w' b)(hm:∀ b,b<w.heap.size→M' b→M b):∀{l:List (List Rat)}{cs:List Value},Eg M w l cs→Eg M' w' l cs
 | [],_,r=>r
 | _ :: _,_,⟨v,r,e,h1,h2⟩=>⟨v,r,e,(XP.rats _).st M M' w w' [v] hg hk hm h1,KJ hg hk hm h2⟩
def XP.mat(l:List (List Rat)):XP:=⟨λM w cs=>∃ A c,cs=[.slice A l.length c]∧l.length≤c∧(l.length≠0→∃ g off xs,A=some ⟨g,off,none⟩ ∧ ¬ M g∧g<w.heap.size∧w.rangeAt g off xs∧Eg M w l xs),
 λM M' w w' cs hg hk hm ⟨A,c,e,h1,h2⟩=>⟨A,c,e,h1,λh0=>by
  obtain ⟨g,off,xs,e1,m,s,ra,rc⟩:=h2 h0;exact ⟨g,off,xs,e1,λk=>m (hm g s k),Nat.lt_of_lt_of_le s hg.size,λj v e=>(T7.cell (w:=w) (hk g s m)).trans (ra j v e),KJ hg hk hm rc⟩⟩,
 λ_ _ _ ⟨_,_,e,_⟩ v hv=>by subst e; rw [List.mem_singleton] at hv; subst hv; rfl⟩
def mD(V:VL):CE→List (List Rat)
 | .ap 81 e m=>lD V e :: mD V m
 | .ap 83 (.v k) (.v n)=>(List.range (V.z n).toNat).map λi=>V.l (k+i)
 | _=>[]
def AaS:CE→Bool
 | .ap 81 _ m=>AaS m
 | .ap 83 _ _=>false
 | _=>true
def lV:CE→Nat
 | .ap 81 _ m=>lV m+1
 | _=>0
def dF:CE→Nat→Option CE
 | .ap 81 e _,0=>some e
 | .ap 81 _ m,n+1=>dF m n
 | _,_=>none
theorem Agi(V:VL):∀ m:CE,AaS m=true→(mD V m).length=lV m:=by
 intro m
 induction m with
 | v k=>intro _; rfl
 | lit z=>intro _; rfl
 | ap f a b _ ih =>
  intro h;unfold AaS at h;split at h
  ·rename_i he
   cases he
   simp only [mD,lV];rw [List.length_cons,ih h]
  ·cases h
  ·rename_i h1 h2
   unfold mD;split
   ·rename_i he
    exact (h1 _ _ he).elim
   ·rename_i he
    exact (h2 _ _ he).elim
   ·unfold lV
    split
    ·rename_i he
     exact (h1 _ _ he).elim
    ·rfl
theorem nC(V:VL):∀{m:CE}{n:Nat}{e:CE},dF m n=some e→n<(mD V m).length:=by
 intro m
 induction m with
 | v k=>intro n e h; cases h
 | lit z=>intro n e h; cases h
 | ap f a b _ ih =>
  intro n e h;unfold dF at h;split at h
  ·rename_i he
   cases he
   simp only [mD];simp
  ·rename_i he
   cases he
   simp only [mD];have:=ih h;simpa using this
  ·cases h
theorem AaU{V:VL}{M:Nat→Prop}{w:World}:∀{m:CE}{n:Nat}{e:CE}{cs:List Value},dF m n=some e→Eg M w (mD V m) cs→∃ v,(cs.drop n).take 1=[v]∧(XP.rats (lD V e)).p M w [v]:=by
 intro m
 induction m with
 | v k=>intro n e cs h; cases h
 | lit z=>intro n e cs h; cases h
 | ap f a b _ ih =>
  intro n e cs h hc;unfold dF at h;split at h
  ·rename_i he
   cases he
   cases h
   unfold mD at hc;obtain ⟨v,r,rfl,h1,_⟩:=hc;exact ⟨v,rfl,h1⟩
  ·rename_i he
   cases he
   unfold mD at hc;obtain ⟨v,r,rfl,_,h2⟩:=hc;obtain ⟨v',q1,q2⟩:=ih h h2;exact ⟨v',by simpa using q1,q2⟩
  ·cases h
def XP.ixs(l:List Int):XP:=⟨λM w cs=>∃ A c,cs=[.slice A l.length c]∧l.length≤c∧(l.length≠0→∃ g off,A=some ⟨g,off,none⟩ ∧ ¬ M g∧g<w.heap.size∧w.rangeAt g off (l.map λz=>Value.int .i64 z)),
 λM M' w w' cs hg hk hm ⟨A,c,e,h1,h2⟩=>⟨A,c,e,h1,λh0=>by
  obtain ⟨g,off,e1,m,s,ra⟩:=h2 h0;exact ⟨g,off,e1,λk=>m (hm g s k),Nat.lt_of_lt_of_le s hg.size,λj v e=>(T7.cell (w:=w) (hk g s m)).trans (ra j v e)⟩⟩,
 λ_ _ _ ⟨_,_,e,_⟩ v hv=>by subst e; rw [List.mem_singleton] at hv; subst hv; rfl⟩
def iL(V:VL):CE→List Int
 | .ap 82 i m=>zD V i :: iL V m
 | _=>[]
def kI:CE→Nat
 | .ap 82 _ m=>kI m+1
 | _=>0
def wN:CE→Nat→Option CE
 | .ap 82 i _,0=>some i
 | .ap 82 _ m,n+1=>wN m n
 | _,_=>none
theorem nB(V:VL):∀ m:CE,(iL V m).length=kI m:=by
 intro m
 induction m with
 | v k=>rfl
 | lit z=>rfl
 | ap f a b _ ih =>
  unfold iL kI;split
  ·rename_i h
   cases h
   rw [List.length_cons,ih]
  ·rfl
theorem uG{V:VL}:∀{m:CE}{n:Nat}{i:CE},wN m n=some i→n<kI m∧(iL V m)[n]? = some (zD V i):=by
 intro m
 induction m with
 | v k=>intro n e h; cases h
 | lit z=>intro n e h; cases h
 | ap f a b _ ih =>
  intro n e h;unfold wN at h;split at h
  ·rename_i he
   cases he
   cases h
   exact ⟨Nat.succ_pos _,rfl⟩
  ·rename_i he
   cases he
   obtain ⟨q1,q2⟩:=ih h;exact ⟨Nat.succ_lt_succ q1,by unfold iL; simpa using q2⟩
  ·cases h
def XP.i8(z:Int):XP:=⟨λ_ _ cs=>cs=[.int .i8 z] ∧ -128≤z∧z≤127,λ_ _ _ _ _ _ _ _ h=>h,λ_ _ _ h v hv=>by obtain ⟨rfl,_⟩:=h; rw [List.mem_singleton] at hv; subst hv; rfl⟩
def XP.i64b(z:Int):XP:=⟨λ_ _ cs=>cs=[.int .i64 z] ∧ -128≤z∧z≤127,λ_ _ _ _ _ _ _ _ h=>h,λ_ _ _ h v hv=>by obtain ⟨rfl,_⟩:=h; rw [List.mem_singleton] at hv; subst hv; rfl⟩
def XP.prs(l:List Rat):XP:=⟨λM w cs=>∃ A c,cs=[.slice A (l.length / 2) c]∧l.length / 2≤c∧(∀ q∈l,-128≤q.num∧q.num≤127)∧(l.length / 2≠0→∃ g off,A=some ⟨g,off,none⟩ ∧ ¬ M g∧g<w.heap.size∧w.rangeAt g off (l.map λq=>.int .i8 q.num)),
 λM M' w w' cs hg hk hm ⟨A,c,e,h1,h3,h2⟩=>⟨A,c,e,h1,h3,λh0=>by
  obtain ⟨g,off,e1,m,s,ra⟩:=h2 h0;exact ⟨g,off,e1,λk=>m (hm g s k),Nat.lt_of_lt_of_le s hg.size,λj v e=>(T7.cell (w:=w) (hk g s m)).trans (ra j v e)⟩⟩,
 λ_ _ _ ⟨_,_,e,_⟩ v hv=>by subst e; rw [List.mem_singleton] at hv; subst hv; rfl⟩
def XP.row(r:List (Option Rat)):XP:=⟨λ_ w cs=>A_ w r cs,λ_ _ _ _ _ hg _ _ h=>h.grow hg,λ_ _ _ h=>h.one⟩
def XP.ik(k:IntKind)(z:Int):XP:=⟨λ_ _ cs=>cs=[.int k z],λ_ _ _ _ _ _ _ _ h=>h,λ_ _ _ h v hv=>by subst h; rw [List.mem_singleton] at hv; subst hv; rfl⟩
def XP.i16s(l:List Rat):XP:=⟨λM w cs=>∃ A c,cs=[.slice A l.length c]∧l.length≤c∧(∀ q∈l,-32768≤q.num∧q.num≤32767)∧(l.length≠0→∃ g off,A=some ⟨g,off,none⟩ ∧ ¬ M g∧g<w.heap.size∧w.rangeAt g off (l.map λq=>Value.int .i16 q.num)),
 λM M' w w' cs hg hk hm ⟨A,c,e,h1,h3,h2⟩=>⟨A,c,e,h1,h3,λh0=>by
  obtain ⟨g,off,e1,m,s,ra⟩:=h2 h0;exact ⟨g,off,e1,λk=>m (hm g s k),Nat.lt_of_lt_of_le s hg.size,λj v e=>(T7.cell (w:=w) (hk g s m)).trans (ra j v e)⟩⟩,
 λ_ _ _ ⟨_,_,e,_⟩ v hv=>by subst e; rw [List.mem_singleton] at hv; subst hv; rfl⟩
def XP.no:XP:=⟨λ_ _ _=>False,λ_ _ _ _ _ _ _ _ h=>h,λ_ _ _ h=>h.elim⟩
def xD(V:VL):CE→XP
 | .ap 50 i _=>.int (zD V i)
 | .ap 51 e _=>.rats (lD V e)
 | .ap 52 q (.lit n)=>.num (qD V q) n.toNat
 | .ap 53 q _=>.int (FV (qD V q) 0)
 | .ap 54 q (.lit n)=>.zi ((qD V q).den:Int) n.toNat
 | .ap 58 q (.lit n)=>.zi (qD V q).num n.toNat
 | .ap 55 i _=>.i8 (zD V i)
 | .ap 56 e _=>.prs (lD V e)
 | .ap 57 i _=>.i64b (zD V i)
 | .ap 59 q (.lit n)=>.zq (qD V q) n.toNat
 | .ap 63 e _=>.ints (lD V e)
 | .ap 64 m _=>.mat (mD V m)
 | .ap 65 m _=>.ixs (iL V m)
 | .ap 66 i _=>.ik .u8 (zD V i)
 | .ap 67 i _=>.ik .i16 (zD V i)
 | .ap 68 e _=>.i16s (lD V e)
 | _=>.no
def bD(V:VL):CE→XP
 | .ap 60 r _=>.row (rD V r)
 | _=>.no
def nD(V:VL):CE→Nat
 | .ap 61 i _=>(zD V i).toNat
 | _=>0
def jD(V:VL):CE→Nat
 | .ap 62 i _=>4*(zD V i).toNat
 | _=>0
theorem Ajb(V:VL)(q n:CE)(M:Nat→Prop)(w:World)(cs:List Value)(h:(xD V (.ap 52 q n)).p M w cs):cs.length=4∧(xD V (.ap 58 q n)).p M w (cs.take 2)∧(xD V (.ap 54 q n)).p M w (cs.drop 2):=by
 cases n with
 | lit n =>
  obtain ⟨s,a,b,c,d,rfl,h1,h2⟩:=h;exact ⟨rfl,⟨s.1,a,b,rfl,h1⟩,⟨s.2,c,d,rfl,h2⟩⟩
 | v k=>exact h.elim
 | ap f a b=>exact h.elim
@[reducible] def Ab (V:VL):Cd:=⟨xD V,bD V,nD V,jD V,Ajb V⟩
abbrev aI(k:Nat)(c:Int):AV:=.ext 1 false (.ap 50 (.i k c) (.lit 0))
abbrev aL(e:CE):AV:=.ext 1 false (.ap 51 e (.lit 0))
abbrev aQ(q:CE)(n:Nat):AV:=.ext 4 true (.ap 52 q (.lit (n:Int)))
abbrev aZ(q:CE)(n:Nat):AV:=.ext 2 true (.ap 59 q (.lit (n:Int)))
abbrev aLZ(e:CE):AV:=.ext 1 false (.ap 63 e (.lit 0))
abbrev aM(m:CE):AV:=.ext 1 false (.ap 64 m (.lit 0))
abbrev aX(m:CE):AV:=.ext 1 false (.ap 65 m (.lit 0))
abbrev aS(q:CE):AV:=.ext 1 false (.ap 53 q (.lit 0))
structure Fa where
 le:List (Nat × Nat × Int)
 len:List (CE × Nat × Int)
 bd:List (CE × Nat)
 zr:List (CE × Bool)
 rlen:List (CE × Nat × Int)
 full:List (CE × Nat)
 sum:List (Nat × Nat × Nat)
structure Bi (V:VL) (F:Fa):Prop where
 z0:V.z 0=0
 sm:∀ k,-1152921504606846976≤V.z k∧V.z k≤1152921504606846976
 le:∀ x∈F.le,V.z x.1≤V.z x.2.1+x.2.2
 len:∀ x∈F.len,((lD V x.1).length:Int)=V.z x.2.1+x.2.2
 bd:∀ x∈F.bd,∀ y∈lD V x.1,AR y x.2
 zr:∀ x∈F.zr,decide (qD V x.1=0)=x.2
 rlen:∀ x∈F.rlen,((rD V x.1).length:Int)=V.z x.2.1+x.2.2
 full:∀ x∈F.full,∀ y∈rD V x.1,∃ q,y=some q∧AR q x.2
 sum:∀ x∈F.sum,V.z x.1+V.z x.2.1=V.z x.2.2
def EF(F:Fa)(x y:Nat × Int):Bool:=(Nat.beq x.1 y.1 && decide (x.2≤y.2)) || F.le.any λf=>Nat.beq f.1 x.1 && Nat.beq f.2.1 y.1 && decide (f.2.2+x.2≤y.2)
def iD(V:VL)(x:Nat × Int):Int:=V.z x.1+x.2
theorem AE{V:VL}{F:Fa}(hF:Bi V F){x y:Nat × Int}(h:EF F x y=true):iD V x≤iD V y:=by
 unfold EF at h;unfold iD;rw [Bool.or_eq_true] at h
 rcases h with h | h
 ·rw [Bool.and_eq_true] at h
  have e:=Nat.eq_of_beq_eq_true h.1;have:=of_decide_eq_true h.2;rw [e];omega
 ·obtain ⟨f,hf,h⟩:=List.any_eq_true.1 h
  rw [Bool.and_eq_true,Bool.and_eq_true] at h;have e1:=Nat.eq_of_beq_eq_true h.1.1;have e2:=Nat.eq_of_beq_eq_true h.1.2;have e3:=of_decide_eq_true h.2;have:=hF.le f hf;rw [e1,e2] at this;omega
def Iz{α:Type}:List (CE × α)→CE→Option α
 | [],_=>none
 | x :: r,e=>if CE.beq x.1 e then some x.2 else Iz r e
theorem Bu{α:Type}:∀{l:List (CE × α)}{e:CE}{a:α},Iz l e=some a→(e,a)∈l
 | [],_,_,h=>by cases h
 | x :: r,e,a,h=>by
  unfold Iz at h;split at h
  ·rename_i hb
   have:=CE.beq_eq hb
   cases h
   rw [← this];exact List.mem_cons_self ..
  ·exact List.mem_cons_of_mem _ (Bu h)
def FK:AV→Option (Nat × Int)
 | .val (.int .i64 c)=>some (0,c)
 | .ext 1 false (.ap 50 (.ap 1 (.v k) (.lit c)) _)=>some (k,c)
 | _=>none
section
variable {V : VL} {F : Fa} {ρ : Bg} {M : Nat → Prop} {w : World}
theorem BM(hF:Bi V F){a:AV}{x:Nat × Int}{v:Value}(h:FK a=some x)(hv:@Bz (Ab V) ρ M w a v):v = .int .i64 (iD V x):=by
 unfold FK at h;split at h
 ·cases h
  have hv:v = .int .i64 _:=hv;rw [hv];unfold iD;simp [hF.z0]
 ·cases h
  have hv:@Rp (Ab V) ρ M w _ [v]:=hv;unfold Rp at hv;exact (List.cons.inj hv.2).1
 ·cases h
theorem Iv{k:Nat}{c:Int}{v:Value}(h:v = .int .i64 (V.z k+c)):@Bz (Ab V) ρ M w (aI k c) v:=by
 show @Rp (Ab V) ρ M w (aI k c) [v];unfold Rp;exact ⟨rfl,by rw [h]; rfl⟩
theorem C3{e d:CE}{v:Value}(h:@Bz (Ab V) ρ M w (.ext 1 false (.ap 51 e d)) v):(XP.rats (lD V e)).p M w [v]:=by
 have h:@Rp (Ab V) ρ M w (.ext 1 false (.ap 51 e d)) [v]:=h;unfold Rp at h;exact h.2
theorem EP{e:CE}{v:Value}(h:(XP.rats (lD V e)).p M w [v]):@Bz (Ab V) ρ M w (aL e) v:=by
 show @Rp (Ab V) ρ M w (aL e) [v];unfold Rp;exact ⟨rfl,h⟩
theorem AeB{q:CE}{n:Nat}{v:Value}(h:@Bz (Ab V) ρ M w (aQ q n) v):(An (qD V q)).p v w∧AR (qD V q) n:=by
 obtain ⟨cs,rfl,h⟩:=h;unfold Rp at h;obtain ⟨_,s,a,b,c,d,e,h1,h2⟩:=h;obtain ⟨x,A,k,y,rfl,rfl⟩:=IP h1;obtain ⟨x',A',k',y',rfl,rfl⟩:=IP h2;refine ⟨⟨x,A,k,y,x',A',k',y',?_,h1,h2⟩,by simpa using s⟩
 congr 1
 apply Array.ext';exact e
theorem Fk{q:CE}{n:Nat}{v:Value}(h:(An (qD V q)).p v w)(s:AR (qD V q) n):@Bz (Ab V) ρ M w (aQ q n) v:=by
 obtain ⟨b,A,k,c,b',A',k',c',rfl,h1,h2⟩:=h;refine ⟨_,rfl,?_⟩;unfold Rp;exact ⟨rfl,by simpa using s,_,_,_,_,rfl,h1,h2⟩
end
end
def tQ(c:Int):Bool:=decide (-1152921504606846976≤c) && decide (c≤1152921504606846976)
def VR(x:Nat × Int):AV:=if Nat.beq x.1 0 then .val (.int .i64 x.2) else aI x.1 x.2
def leB(F:Fa)(x y:Nat × Int):Option Bool:=if EF F x y then some true else if EF F (y.1,y.2+1) x then some false else none
def zI:List (Nat × Nat × Nat)→Nat→Nat→Option Nat
 | [],_,_=>none
 | x :: r,a,b=>if Nat.beq x.1 a && Nat.beq x.2.1 b then some x.2.2 else zI r a b
def wY:List (Nat × Nat × Nat)→Nat→Nat→Option Nat
 | [],_,_=>none
 | x :: r,a,b=>if Nat.beq x.2.2 a && Nat.beq x.1 b then some x.2.1 else wY r a b
theorem Tv{a b c:Nat}:∀{l:List (Nat × Nat × Nat)},zI l a b=some c→(a,b,c)∈l
 | [],h=>by cases h
 | x :: r,h=>by
  unfold zI at h;split at h
  ·rename_i e
   rw [Bool.and_eq_true] at e;have e1:=Nat.eq_of_beq_eq_true e.1;have e2:=Nat.eq_of_beq_eq_true e.2
   cases h
   rw [← e1,← e2];exact List.mem_cons_self ..
  ·exact List.mem_cons_of_mem _ (Tv h)
theorem Tw{a b c:Nat}:∀{l:List (Nat × Nat × Nat)},wY l a b=some c→(b,c,a)∈l
 | [],h=>by cases h
 | x :: r,h=>by
  unfold wY at h;split at h
  ·rename_i e
   rw [Bool.and_eq_true] at e;have e1:=Nat.eq_of_beq_eq_true e.1;have e2:=Nat.eq_of_beq_eq_true e.2
   cases h
   rw [← e1,← e2];exact List.mem_cons_self ..
  ·exact List.mem_cons_of_mem _ (Tw h)
def Ae1(F:Fa)(o:BinOp)(x y:Nat × Int):Option AV:=match o with
 | .add=>if Nat.beq y.1 0 && tQ (x.2+y.2) then some (VR (x.1,x.2+y.2)) else if Nat.beq x.1 0 && tQ (x.2+y.2) then some (VR (y.1,x.2+y.2)) else if tQ (x.2+y.2) then (zI F.sum x.1 y.1).map λc=>VR (c,x.2+y.2) else none
 | .sub=>if Nat.beq y.1 0 && tQ (x.2 - y.2) then some (VR (x.1,x.2 - y.2)) else if Nat.beq x.1 y.1 && tQ (x.2 - y.2) then some (.val (.int .i64 (x.2 - y.2))) else if tQ (x.2 - y.2) then (wY F.sum x.1 y.1).map λc=>VR (c,x.2 - y.2) else none
 | .lss=>(leB F y x).map λb=>.val (.bool (!b))
 | .leq=>(leB F x y).map λb=>.val (.bool b)
 | .gtr=>(leB F x y).map λb=>.val (.bool (!b))
 | .geq=>(leB F y x).map λb=>.val (.bool b)
 | .eql=>if EF F x y && EF F y x then some (.val (.bool true)) else if EF F (x.1,x.2+1) y || EF F (y.1,y.2+1) x then some (.val (.bool false)) else none
 | .neq=>if EF F x y && EF F y x then some (.val (.bool false)) else if EF F (x.1,x.2+1) y || EF F (y.1,y.2+1) x then some (.val (.bool true)) else none
 | _=>none
def sgC(F:Fa)(o:BinOp):AV→AV→Option AV
 | .ext 1 false (.ap 53 q _),.val (.int .i64 0)=>match o with
  | .eql=>(Iz F.zr q).map λb=>.val (.bool b)
  | .neq=>(Iz F.zr q).map λb=>.val (.bool (!b))
  | _=>none
 | _,_=>none
noncomputable def C_(T:TypeId):Bool:=match N0 T with
 | some (.slice _)=>true
 | _=>false
noncomputable def F_(T:TypeId):Bool:=match N0 T with
 | some (.slice e)=>Nat.beq e 36
 | _=>false
noncomputable def Ad3(F:Fa)(T:TypeId):AV→Option AV
 | .ext 1 false (.ap 51 e _)=>if C_ T then (Iz F.len e).map VR else none
 | .ext 1 false (.ap 56 e _)=>if C_ T then (Iz F.len (.ap 77 e (.lit 0))).map VR else none
 | .ext 1 false (.ap 63 e _)=>if C_ T then (Iz F.len e).map VR else none
 | .ext 1 false (.ap 64 m _)=>if C_ T && AaS m then some (.val (.int .i64 (lV m:Int))) else none
 | .ext 1 false (.ap 65 m _)=>if C_ T then some (.val (.int .i64 (kI m:Int))) else none
 | .slx _ (.ap 61 (.ap 1 (.v k) (.lit c)) _)=>if C_ T && EF F (0,0) (k,c) then some (VR (k,c)) else none
 | _=>none
noncomputable def zK(F:Fa)(T:TypeId)(x:AV)(h m:Nat × Int):Option AV:=if F_ T && Nat.beq h.1 m.1 && decide (h.2=m.2) && EF F (0,0) h then (match x with
 | .ext 1 false (.ap 51 e _)=>match Iz F.len e with
  | some n=>if EF F h n then some (aL (.ap 20 e (.i h.1 h.2))) else none
  | none=>none
 | .slx o (.ap 61 (.ap 1 (.v k) (.lit c)) _)=>if EF F h (k,c) then some (.slx o (.ap 61 (.i h.1 h.2) (.lit 0))) else none
 | _=>none) else none
noncomputable def AfI(F:Fa)(T:TypeId)(x:AV)(i:Nat × Int):Option AV:=match x with
 | .ext 1 false (.ap 51 e _)=>match Iz F.len e,Iz F.bd e with
  | some n,some b=>if F_ T && EF F (0,0) i && EF F (i.1,i.2+1) n then some (.rptr [aQ (.ap 30 e (.i i.1 i.2)) b]) else none
  | _,_=>none
 | _=>none
noncomputable def Lt(T:TypeId):Bool:=match N0 T with
 | some (.slice e)=>(match CT e with
  | some z=>Nat.beq z 2
  | none=>false)
 | _=>false
noncomputable def MV(T:TypeId):Bool:=match N0 T with
 | some (.slice e)=>(match CT e with
  | some z=>Nat.beq z 1
  | none=>false)
 | _=>false
noncomputable def Ad1(F:Fa)(T:TypeId)(x:AV)(i:Nat × Int):Option AV:=match x with
 | .ext 1 false (.ap 56 (.v k) _)=>(match Iz F.len (.ap 77 (.v k) (.lit 0)) with
  | some n=>if Lt T && Nat.beq i.1 0 && EF F (0,0) i && EF F (i.1,i.2+1) n then some (.rptr [.ext 1 false (.ap 55 (.ap 2 (.v k) (.lit (2*i.2))) (.lit 0)),.ext 1 false (.ap 55 (.ap 2 (.v k) (.lit (2*i.2+1))) (.lit 0))]) else none
  | none=>none)
 | .ext 1 false (.ap 63 e _)=>(match Iz F.len e,Iz F.bd e with
  | some n,some b=>if Lt T && EF F (0,0) i && EF F (i.1,i.2+1) n then some (.rptr [aZ (.ap 30 e (.i i.1 i.2)) b]) else none
  | _,_=>none)
 | .ext 1 false (.ap 64 m _)=>(match dF m i.2.toNat with
  | some e=>if MV T && Nat.beq i.1 0 && decide (0≤i.2) then some (.rptr [aL e]) else none
  | none=>none)
 | .ext 1 false (.ap 65 m _)=>(match wN m i.2.toNat with
  | some (.ap 1 (.v k) (.lit c))=>if MV T && Nat.beq i.1 0 && decide (0≤i.2) then some (.rptr [aI k c]) else none
  | _=>none)
 | _=>none
noncomputable def cvX(T U:TypeId):AV→Option AV
 | .ext 1 false (.ap 55 i _)=>(match N0 T,N0 U with
  | some (.int .i8),some (.int .i64)=>some (.ext 1 false (.ap 57 i (.lit 0)))
  | _,_=>none)
 | _=>none
noncomputable def AdH(F:Fa)(o:BinOp)(T:TypeId):AV→AV→Option AV
 | .ext 1 false (.ap 51 e _),.val (.slice none _ _)=>(match Iz F.len e,o with
  | some n,.eql=>if C_ T && EF F (0,1) n then some (.val (.bool false)) else none
  | some n,.neq=>if C_ T && EF F (0,1) n then some (.val (.bool true)) else none
  | _,_=>none)
 | _,_=>none
noncomputable def My(F:Fa)(k:PK)(xs:List AV):Option AV:=match k,xs with
 | .bin o T _,[x,y]=>match FK x,FK y with
  | some a,some b=>Ae1 F o a b
  | _,_=>(match AdH F o T x y with
   | some r=>some r
   | none=>sgC F o x y)
 | .blt .len [T],[x]=>Ad3 F T x
 | .blt .max [T,U],[x,y]=>match FK x,FK y with
  | some a,some b=>if Nat.beq T 3 && Nat.beq U 3 then (if EF F a b then some (VR b) else if EF F b a then some (VR a) else none) else none
  | _,_=>none
 | .slc T false true true,[x,h,m]=>match FK h,FK m with
  | some a,some b=>zK F T x a b
  | _,_=>none
 | .slc T false true false,[x,h]=>match FK h with
  | some a=>zK F T x a a
  | none=>none
 | .idx T,[x,i]=>match FK i with
  | some a=>(match AfI F T x a with
   | some r=>some r
   | none=>Ad1 F T x a)
  | none=>none
 | .conv T U,[x]=>cvX T U x
 | _,_=>none
section
variable {V : VL} {F : Fa} {ρ : Bg} {M : Nat → Prop} {w : World} {ρv : Operand → Value} {r : AV}
theorem Ew{z:Int}(h1 : -9223372036854775808≤z)(h2:z≤9223372036854775807):IntKind.i64.wrap z=z:=by rw [IntKind.wrap_i64]; omega
theorem EK(hF:Bi V F){x:Nat × Int}:@Bz (Ab V) ρ M w (VR x) (.int .i64 (iD V x)):=by
 unfold VR;split
 ·rename_i h
  have h:=Nat.eq_of_beq_eq_true h;show Value.int .i64 (iD V x) = .int .i64 x.2;unfold iD;rw [h,hF.z0,Int.zero_add]
 ·exact Iv rfl
theorem Hn(hF:Bi V F){x y:Nat × Int}{b:Bool}(h:leB F x y=some b):decide (iD V x≤iD V y)=b:=by
 unfold leB at h;split at h
 ·rename_i h1
  cases h
  exact decide_eq_true (AE hF h1)
 ·split at h
  ·rename_i h1
   cases h
   have:=AE hF h1;refine decide_eq_false ?_;unfold iD at *;simp only [] at this;omega
  ·cases h
theorem Wd(hF:Bi V F){o:BinOp}{x y:Nat × Int}(h:Ae1 F o x y=some r):∃ v,kJ o .i64 (iD V x) (iD V y)=some v ∧ @Bz (Ab V) ρ M w r v:=by
 have b1:=hF.sm x.1;have b2:=hF.sm y.1;have sm:∀ c,tQ c=true → -1152921504606846976≤c∧c≤1152921504606846976:=λc h=>by
  unfold tQ at h;rw [Bool.and_eq_true] at h;exact ⟨of_decide_eq_true h.1,of_decide_eq_true h.2⟩
 have eqv:EF F x y=true→EF F y x=true→iD V x=iD V y:=λh1 h2=>Int.le_antisymm (AE hF h1) (AE hF h2)
 have nev:(EF F (x.1,x.2+1) y || EF F (y.1,y.2+1) x)=true→iD V x≠iD V y:=λh e=>by
  rw [Bool.or_eq_true] at h
  rcases h with h | h
  ·have:=AE hF h
   unfold iD at *;simp only [] at this;omega
  ·have:=AE hF h
   unfold iD at *;simp only [] at this;omega
 cases o <;> simp only [Ae1] at h <;> try (cases h; done)
 ·split at h
  ·rename_i hc
   rw [Bool.and_eq_true] at hc
   cases h
   have e:=Nat.eq_of_beq_eq_true hc.1;have s:=sm _ hc.2;refine ⟨_,rfl,?_⟩;have hz:IntKind.i64.wrap (iD V x+iD V y)=iD V (x.1,x.2+y.2):=by
    unfold iD;rw [e,hF.z0];rw [Ew (by omega) (by omega)];simp only [];omega
   rw [hz];exact EK hF
  ·split at h
   ·rename_i hc
    rw [Bool.and_eq_true] at hc
    cases h
    have e:=Nat.eq_of_beq_eq_true hc.1;have s:=sm _ hc.2;refine ⟨_,rfl,?_⟩;have hz:IntKind.i64.wrap (iD V x+iD V y)=iD V (y.1,x.2+y.2):=by
     unfold iD;rw [e,hF.z0];rw [Ew (by omega) (by omega)];simp only [];omega
    rw [hz];exact EK hF
   ·split at h
    ·rename_i hc
     obtain ⟨c,hc2,rfl⟩:=Option.map_eq_some_iff.1 h;have s:=sm _ hc;have e:=hF.sum _ (Tv hc2);simp only [] at e;refine ⟨_,rfl,?_⟩;have hz:IntKind.i64.wrap (iD V x+iD V y)=iD V (c,x.2+y.2):=by
      unfold iD;rw [Ew (by omega) (by omega)];simp only [];omega
     rw [hz];exact EK hF
    ·cases h
 ·split at h
  ·rename_i hc
   rw [Bool.and_eq_true] at hc
   cases h
   have e:=Nat.eq_of_beq_eq_true hc.1;have s:=sm _ hc.2;refine ⟨_,rfl,?_⟩;have hz:IntKind.i64.wrap (iD V x - iD V y)=iD V (x.1,x.2 - y.2):=by
    unfold iD;rw [e,hF.z0];rw [Ew (by omega) (by omega)];simp only [];omega
   rw [hz];exact EK hF
  ·split at h
   ·rename_i hc
    rw [Bool.and_eq_true] at hc
    cases h
    have e:=Nat.eq_of_beq_eq_true hc.1;have s:=sm _ hc.2;refine ⟨_,rfl,?_⟩;show Value.int .i64 (IntKind.i64.wrap (iD V x - iD V y)) = .int .i64 (x.2 - y.2);have hz:IntKind.i64.wrap (iD V x - iD V y)=x.2 - y.2:=by
     unfold iD;rw [e];rw [Ew (by omega) (by omega)];omega
    rw [hz]
   ·split at h
    ·rename_i hc
     obtain ⟨c,hc2,rfl⟩:=Option.map_eq_some_iff.1 h;have s:=sm _ hc;have e:=hF.sum _ (Tw hc2);simp only [] at e;refine ⟨_,rfl,?_⟩;have hz:IntKind.i64.wrap (iD V x - iD V y)=iD V (c,x.2 - y.2):=by
      unfold iD;rw [Ew (by omega) (by omega)];simp only [];omega
     rw [hz];exact EK hF
    ·cases h
 ·split at h
  ·rename_i hc
   rw [Bool.and_eq_true] at hc
   cases h
   refine ⟨_,rfl,?_⟩;show Value.bool _ = .bool true;rw [eqv hc.1 hc.2];simp
  ·split at h
   ·rename_i hc
    cases h
    refine ⟨_,rfl,?_⟩;show Value.bool _ = .bool false;simp [nev hc]
   ·cases h
 ·split at h
  ·rename_i hc
   rw [Bool.and_eq_true] at hc
   cases h
   refine ⟨_,rfl,?_⟩;show Value.bool _ = .bool false;rw [eqv hc.1 hc.2];simp
  ·split at h
   ·rename_i hc
    cases h
    refine ⟨_,rfl,?_⟩;show Value.bool _ = .bool true;simp [nev hc]
   ·cases h
 ·obtain ⟨b,hb,rfl⟩:=Option.map_eq_some_iff.1 h
  have:=Hn hF hb;refine ⟨_,rfl,?_⟩;show Value.bool (decide (iD V x<iD V y)) = .bool (!b);rw [← this]
  congr 1
  by_cases hh:iD V y≤iD V x
  ·simp [hh]
  ·simp [hh]; omega
 ·obtain ⟨b,hb,rfl⟩:=Option.map_eq_some_iff.1 h
  have:=Hn hF hb;refine ⟨_,rfl,?_⟩;show Value.bool (decide (iD V x≤iD V y)) = .bool b;rw [this]
 ·obtain ⟨b,hb,rfl⟩:=Option.map_eq_some_iff.1 h
  have:=Hn hF hb;refine ⟨_,rfl,?_⟩;show Value.bool (decide (iD V y<iD V x)) = .bool (!b);rw [← this]
  congr 1
  by_cases hh:iD V x≤iD V y
  ·simp [hh]
  ·simp [hh]; omega
 ·obtain ⟨b,hb,rfl⟩:=Option.map_eq_some_iff.1 h
  have:=Hn hF hb;refine ⟨_,rfl,?_⟩;show Value.bool (decide (iD V y≤iD V x)) = .bool b;rw [this]
theorem N8(q:Rat):(FV q 0 == 0)=decide (q=0):=by
 unfold FV
 by_cases h1:q<0
 ·have:q≠0:=λe=>by rw [e] at h1; exact absurd h1 (by decide)
  simp [h1,this]
 ·by_cases h2:q=0
  ·simp [h2]
  ·simp [h1,h2]
theorem cB(hF:Bi V F){o:BinOp}{x y:AV}{vx vy:Value}(h:sgC F o x y=some r)(hx:@Bz (Ab V) ρ M w x vx)(hy:@Bz (Ab V) ρ M w y vy):∃ p q v,vx = .int .i64 p∧vy = .int .i64 q∧kJ o .i64 p q=some v ∧ @Bz (Ab V) ρ M w r v:=by
 unfold sgC at h;split at h
 ·rename_i q _
  have hx:@Rp (Ab V) ρ M w _ [vx]:=hx;unfold Rp at hx;have hx:vx = .int .i64 (FV (qD V q) 0):=(List.cons.inj hx.2).1;have hy:vy = .int .i64 0:=hy;split at h
  ·obtain ⟨b,hb,rfl⟩:=Option.map_eq_some_iff.1 h
   have:=hF.zr _ (Bu hb);refine ⟨_,_,_,hx,hy,rfl,?_⟩;show Value.bool _ = .bool b;rw [N8,this]
  ·obtain ⟨b,hb,rfl⟩:=Option.map_eq_some_iff.1 h
   have:=hF.zr _ (Bu hb);refine ⟨_,_,_,hx,hy,rfl,?_⟩;show Value.bool (!(FV (qD V q) 0 == 0)) = .bool (!b);rw [N8,this]
  ·cases h
 ·cases h
theorem Cl{T:TypeId}(h:C_ T=true):∃ e,Tryz.prog.underlying T=some (.slice e):=by
 unfold C_ at h;split at h
 ·rename_i e he
  exact ⟨e,he⟩
 ·cases h
theorem De{T:TypeId}(h:F_ T=true):Tryz.prog.underlying T=some (.slice 36):=by
 unfold F_ at h;split at h
 ·rename_i e he
  have:=Nat.eq_of_beq_eq_true h;rw [← this];exact he
 ·cases h
theorem Ya:CT 36=some 4:=by kernel_rfl
theorem Y7{o k:Nat}{c:Int}{d:CE}{v:Value}(h:@Bz (Ab V) ρ M w (.slx o (.ap 61 (.ap 1 (.v k) (.lit c)) d)) v):∃ g cc kk,ρ o=some (g,cc)∧v = .slice (some ⟨g,0,none⟩) (iD V (k,c)).toNat kk∧(iD V (k,c)).toNat≤kk:=by
 have h:@Rp (Ab V) ρ M w _ [v]:=h;unfold Rp at h;obtain ⟨g,kk,cc,e1,e2,e3⟩:=h;exact ⟨g,cc,kk,e1,(List.cons.inj e2).1,e3⟩
theorem WQ(hF:Bi V F){T:TypeId}{x:AV}{vx:Value}(h:Ad3 F T x=some r)(hx:@Bz (Ab V) ρ M w x vx):∃ e A n c,Tryz.prog.underlying T=some (.slice e)∧vx = .slice A n c ∧ @Bz (Ab V) ρ M w r (.int .i64 (n:Int)):=by
 unfold Ad3 at h;split at h
 ·rename_i e _
  split at h
  ·rename_i hT
   obtain ⟨el,hd⟩:=Cl hT;obtain ⟨n,hn,rfl⟩:=Option.map_eq_some_iff.1 h;have hl:=hF.len _ (Bu hn);have hx:@Rp (Ab V) ρ M w _ [vx]:=hx;unfold Rp at hx;obtain ⟨A,c,e1,_⟩:=hx.2;refine ⟨el,A,_,c,hd,(List.cons.inj e1).1,?_⟩;rw [hl];exact EK hF
  ·cases h
 ·rename_i e _
  split at h
  ·rename_i hT
   obtain ⟨el,hd⟩:=Cl hT;obtain ⟨n,hn,rfl⟩:=Option.map_eq_some_iff.1 h;have hl:=hF.len _ (Bu hn);have hx:@Rp (Ab V) ρ M w _ [vx]:=hx;unfold Rp at hx;obtain ⟨A,c,e1,_⟩:=hx.2;refine ⟨el,A,_,c,hd,(List.cons.inj e1).1,?_⟩;have e2:(lD V (.ap 77 e (.lit 0))).length=(lD V e).length / 2:=by
    simp only [lD,List.length_take];omega
   rw [e2] at hl;rw [hl];exact EK hF
  ·cases h
 ·rename_i e _
  split at h
  ·rename_i hT
   obtain ⟨el,hd⟩:=Cl hT;obtain ⟨n,hn,rfl⟩:=Option.map_eq_some_iff.1 h;have hl:=hF.len _ (Bu hn);have hx:@Rp (Ab V) ρ M w _ [vx]:=hx;unfold Rp at hx;obtain ⟨A,c,e1,_⟩:=hx.2;refine ⟨el,A,_,c,hd,(List.cons.inj e1).1,?_⟩;rw [hl];exact EK hF
  ·cases h
 ·rename_i e _
  split at h
  ·rename_i hT
   rw [Bool.and_eq_true] at hT;obtain ⟨el,hd⟩:=Cl hT.1
   cases h
   have hx:@Rp (Ab V) ρ M w _ [vx]:=hx;unfold Rp at hx;obtain ⟨A,c,e1,_⟩:=hx.2;refine ⟨el,A,_,c,hd,(List.cons.inj e1).1,?_⟩;rw [Agi _ _ hT.2];exact rfl
  ·cases h
 ·rename_i e _
  split at h
  ·rename_i hT
   obtain ⟨el,hd⟩:=Cl hT
   cases h
   have hx:@Rp (Ab V) ρ M w _ [vx]:=hx;unfold Rp at hx;obtain ⟨A,c,e1,_⟩:=hx.2;refine ⟨el,A,_,c,hd,(List.cons.inj e1).1,?_⟩;rw [nB];exact rfl
  ·cases h
 ·rename_i o k c d
  split at h
  ·rename_i hT
   rw [Bool.and_eq_true] at hT;obtain ⟨el,hd⟩:=Cl hT.1;have h0:=AE hF hT.2
   cases h
   obtain ⟨g,cc,kk,_,e2,_⟩:=Y7 hx;refine ⟨el,_,_,_,hd,e2,?_⟩;have hz:iD V (0,0)=0:=by unfold iD; simp [hF.z0]
   rw [hz] at h0;rw [Int.toNat_of_nonneg h0];exact EK hF
  ·cases h
 ·cases h
theorem tM(hF:Bi V F):iD V (0,0)=0:=by unfold iD; simp [hF.z0]
theorem NQ(k:Nat)(c:Int):zD V (.i k c)=iD V (k,c):=rfl
theorem NV{l:List Rat}{cs:List Value}(n:Nat)(h:AI w l cs):AI w (l.take n) (cs.take (4*n)):=by
 induction n generalizing l cs with
 | zero=>simp [AI]
 | succ n ih =>
  cases l with
  | nil=>unfold AI at h; subst h; simp [AI]
  | cons q l =>
   unfold AI at h;obtain ⟨a,b,c,d,r,rfl,h1,h2,h3⟩:=h;rw [List.take_succ_cons,show 4*(n+1)=4*n+1+1+1+1 by omega,List.take_succ_cons,List.take_succ_cons,List.take_succ_cons,List.take_succ_cons];exact ⟨a,b,c,d,_,rfl,h1,h2,ih h3⟩
theorem LZ(hF:Bi V F){T:TypeId}{x:AV}{a b:Nat × Int}{vx:Value}(h:zK F T x a b=some r)(hx:@Bz (Ab V) ρ M w x vx):∃(n:Nat)(A:Option Addr)(ln c:Nat),iD V a=(n:Int)∧iD V b=(n:Int)∧Tryz.prog.underlying T=some (.slice 36)∧vx = .slice A ln c∧n≤ln∧ln≤c∧∀ k,n≤k → @Bz (Ab V) ρ M w r (.slice A n k):=by
 letI:=Ab V
 unfold zK at h;split at h
 ·rename_i hc
  simp only [Bool.and_eq_true] at hc;obtain ⟨⟨⟨hT,e1⟩,e2⟩,h0⟩:=hc;have e1:=Nat.eq_of_beq_eq_true e1;have e2:=of_decide_eq_true e2;have h0:=AE hF h0;rw [tM hF] at h0;have hab:iD V b=iD V a:=by unfold iD; rw [e1,e2]
  obtain ⟨n,hn⟩:∃ n:Nat,iD V a=(n:Int):=⟨(iD V a).toNat,(Int.toNat_of_nonneg h0).symm⟩;split at h
  ·rename_i e _
   split at h
   ·rename_i ln hl
    split at h
    ·rename_i hle
     cases h
     have hle:=AE hF hle;have hlen:=hF.len _ (Bu hl);obtain ⟨A,c,e3,e4,e5⟩:=C3 (e:=e) hx;have hnl:n≤(lD V e).length:=by
      have:iD V ln=V.z ln.1+ln.2:=rfl;simp only [] at hlen;omega
     refine ⟨n,A,_,c,hn,by rw [hab,hn],De hT,(List.cons.inj e3).1,hnl,e4,λkc hkc=>EP ?_⟩;have hzl:(lD V (.ap 20 e (.i a.1 a.2)))=(lD V e).take n:=by
      simp only [lD];rw [NQ,show iD V (a.1,a.2)=iD V a from rfl,hn];rfl
     rw [hzl];have htl:((lD V e).take n).length=n:=by rw [List.length_take]; omega
     refine ⟨A,kc,by rw [htl],by rw [htl]; exact hkc,λhne=>?_⟩;obtain ⟨g,off,xs,k1,k2,k3,k4,k5⟩:=e5 (by rw [htl] at hne; omega);exact ⟨g,off,_,k1,k2,k3,BH k4,NV n k5⟩
    ·cases h
   ·cases h
  ·rename_i o k c d
   split at h
   ·rename_i hle
    cases h
    have hle:=AE hF hle;obtain ⟨g,cc,kk,e3,e4,e5⟩:=Y7 hx;refine ⟨n,_,_,kk,hn,by rw [hab,hn],De hT,e4,by omega,e5,λkc hkc=>?_⟩;show @Rp (Ab V) ρ M w _ [_];unfold Rp;have hN:(Ab V).N (.ap 61 (.i a.1 a.2) (.lit 0))=n:=by
     show (zD V (.i a.1 a.2)).toNat=n;rw [NQ,show iD V (a.1,a.2)=iD V a from rfl,hn];rfl
    exact ⟨g,kc,cc,e3,by rw [hN],by rw [hN]; exact hkc⟩
   ·cases h
  ·cases h
 ·cases h
theorem K2:∀{l:List Rat}{cs:List Value}{i:Nat},AI w l cs→i<l.length→∃ a b c d,(cs.drop (4*i)).take 4=[a,b,c,d]∧Al w (.agg #[a,b]) (l.getD i 0).num∧Al w (.agg #[c,d]) ((l.getD i 0).den:Int)
 | q :: l,_,0,h,_=>by
  unfold AI at h;obtain ⟨a,b,c,d,r,rfl,h1,h2,h3⟩:=h;exact ⟨a,b,c,d,rfl,h1,h2⟩
 | q :: l,_,i+1,h,hi=>by
  unfold AI at h;obtain ⟨a,b,c,d,r,rfl,h1,h2,h3⟩:=h;have:=K2 (i:=i) h3 (by simpa using hi);rw [show 4*(i+1)=4+4*i by omega,← List.drop_drop];simpa using this
theorem Vm(hF:Bi V F){T:TypeId}{x:AV}{a:Nat × Int}{vx:Value}(h:AfI F T x a=some r)(hx:@Bz (Ab V) ρ M w x vx):∃ g off n c,Tryz.prog.underlying T=some (.slice 36)∧vx = .slice (some ⟨g,off,none⟩) n c∧0≤iD V a∧iD V a<n ∧ @Bz (Ab V) ρ M w r (.pointer (some ⟨g,off+(iD V a).toNat*4,none⟩)):=by
 letI:=Ab V
 unfold AfI at h;split at h
 ·rename_i e _
  split at h
  ·rename_i n b hn hb
   split at h
   ·rename_i hc
    simp only [Bool.and_eq_true] at hc;obtain ⟨⟨hT,h0⟩,h1⟩:=hc
    cases h
    have h0:=AE hF h0;rw [tM hF] at h0;have h1:=AE hF h1;have hlen:=hF.len _ (Bu hn);have hlt:(iD V a).toNat<(lD V e).length:=by
     have e1:iD V n=V.z n.1+n.2:=rfl;have e2:iD V (a.1,a.2+1)=V.z a.1+(a.2+1):=rfl;have e3:iD V a=V.z a.1+a.2:=rfl;simp only [] at hlen;omega
    obtain ⟨A,c,e3,e4,e5⟩:=C3 (e:=e) hx;obtain ⟨g,off,xs,rfl,k2,k3,k4,k5⟩:=e5 (by omega);refine ⟨g,off,_,c,De hT,(List.cons.inj e3).1,h0,by omega,?_⟩;show @Rp (Ab V) ρ M w (.rptr _) [_];unfold Rp;obtain ⟨p,q,s,t,z1,z2,z3⟩:=K2 k5 hlt;refine ⟨g,off+(iD V a).toNat*4,[p,q,s,t],rfl,k2,k3,?_,?_⟩
    ·rw [← z1,Nat.mul_comm]
     exact BH (BW k4)
    ·refine @AQ.one (Ab V) ρ M w _ _ ?_
     unfold Rp;have hq:qD V (.ap 30 e (.i a.1 a.2))=(lD V e).getD (iD V a).toNat 0:=by
      simp only [qD];rfl
     refine ⟨rfl,?_⟩;show (XP.num (qD V (.ap 30 e (.i a.1 a.2))) _).p M w _;rw [hq];have hmem:(lD V e).getD (iD V a).toNat 0∈lD V e:=by
      rw [List.getD_eq_getElem?_getD,List.getElem?_eq_getElem hlt];exact List.getElem_mem hlt
     exact ⟨by simpa using hF.bd _ (Bu hb) _ hmem,p,q,s,t,rfl,z2,z3⟩
   ·cases h
  ·cases h
 ·cases h
theorem VN(hF:Bi V F){o:BinOp}{T:TypeId}{x y:AV}{vx vy:Value}(h:AdH F o T x y=some r)(hx:@Bz (Ab V) ρ M w x vx)(hy:@Bz (Ab V) ρ M w y vy):∃ e A n c n' c',Tryz.prog.underlying T=some (.slice e)∧vx = .slice (some A) n c∧vy = .slice none n' c'∧((o = .eql∧r = .val (.bool false)) ∨ (o = .neq∧r = .val (.bool true))):=by
 unfold AdH at h;split at h
 ·rename_i e d n' c'
  have hy:vy = .slice none n' c':=hy;obtain ⟨A,c,e1,e2,e3⟩:=C3 (ρ:=ρ) hx;have key:∀{n:Nat × Int},Iz F.len e=some n→C_ T && EF F (0,1) n→∃ el A n c n' c',Tryz.prog.underlying T=some (.slice el)∧vx = .slice (some A) n c∧vy = .slice none n' c':=fun {n} hn hc=>by
   rw [Bool.and_eq_true] at hc;obtain ⟨el,hel⟩:=Cl hc.1;have h1:=AE hF hc.2;have hlen:=hF.len _ (Bu hn);have e0:iD V n=V.z n.1+n.2:=rfl;have e01:iD V (0,1)=1:=by unfold iD; simp [hF.z0]
   rw [e01] at h1;simp only [] at hlen;obtain ⟨g,off,xs,rfl,_⟩:=e3 (by omega);exact ⟨el,_,_,_,_,_,hel,(List.cons.inj e1).1,hy⟩
  split at h
  ·rename_i n hn
   split at h
   ·rename_i hc
    cases h
    obtain ⟨a1,a2,a3,a4,a5,a6,q1,q2,q3⟩:=key hn hc;exact ⟨a1,a2,a3,a4,a5,a6,q1,q2,q3,.inl ⟨rfl,rfl⟩⟩
   ·cases h
  ·rename_i n hn
   split at h
   ·rename_i hc
    cases h
    obtain ⟨a1,a2,a3,a4,a5,a6,q1,q2,q3⟩:=key hn hc;exact ⟨a1,a2,a3,a4,a5,a6,q1,q2,q3,.inr ⟨rfl,rfl⟩⟩
   ·cases h
  ·cases h
 ·cases h
theorem aN{T U:TypeId}{x:AV}{vx:Value}(h:cvX T U x=some r)(hx:@Bz (Ab V) ρ M w x vx):∃ z,Tryz.prog.underlying T=some (.int .i8)∧Tryz.prog.underlying U=some (.int .i64)∧vx = .int .i8 z ∧ @Bz (Ab V) ρ M w r (.int .i64 (IntKind.i64.wrap z)):=by
 unfold cvX at h;split at h
 ·rename_i i d
  split at h
  ·rename_i h1 h2
   cases h
   have hx:@Rp (Ab V) ρ M w _ [vx]:=hx;unfold Rp at hx;obtain ⟨e,b1,b2⟩:=hx.2;refine ⟨zD V i,h1,h2,(List.cons.inj e).1,?_⟩;show @Rp (Ab V) ρ M w _ [_];unfold Rp;refine ⟨rfl,?_,b1,b2⟩;rw [Ew (by omega) (by omega)]
  ·cases h
 ·cases h
theorem IE{T:TypeId}(h:MV T=true):∃ e,Tryz.prog.underlying T=some (.slice e)∧CT e=some 1:=by
 unfold MV at h;split at h
 ·rename_i e he
  split at h
  ·rename_i z hz
   have:=Nat.eq_of_beq_eq_true h;exact ⟨e,he,by rw [hz,this]⟩
  ·cases h
 ·cases h
theorem KG{T:TypeId}(h:Lt T=true):∃ e,Tryz.prog.underlying T=some (.slice e)∧CT e=some 2:=by
 unfold Lt at h;split at h
 ·rename_i e he
  split at h
  ·rename_i z hz
   have:=Nat.eq_of_beq_eq_true h;exact ⟨e,he,by rw [hz,this]⟩
  ·cases h
 ·cases h
theorem KU:∀{l:List Rat}{cs:List Value}{i:Nat},Eh w l cs→i<l.length→∃(z:Int)(a b:Value),(cs.drop (2*i)).take 2=[a,b]∧(z:Rat)=l.getD i 0∧Al w (.agg #[a,b]) z
 | q :: l,_,0,h,_=>by
  unfold Eh at h;obtain ⟨z,a,b,r,rfl,h1,h2,h3⟩:=h;exact ⟨z,a,b,rfl,h1,h2⟩
 | q :: l,_,i+1,h,hi=>by
  unfold Eh at h;obtain ⟨z,a,b,r,rfl,h1,h2,h3⟩:=h;have:=KU (i:=i) h3 (by simpa using hi);rw [show 2*(i+1)=2+2*i by omega,← List.drop_drop];simpa using this
theorem Uk(hF:Bi V F){T:TypeId}{x:AV}{a:Nat × Int}{vx:Value}(h:Ad1 F T x a=some r)(hx:@Bz (Ab V) ρ M w x vx):∃ e z g off n c,Tryz.prog.underlying T=some (.slice e)∧CT e=some z∧vx = .slice (some ⟨g,off,none⟩) n c∧0≤iD V a∧iD V a<n ∧ @Bz (Ab V) ρ M w r (.pointer (some ⟨g,off+(iD V a).toNat*z,none⟩)):=by
 letI:=Ab V
 unfold Ad1 at h;split at h
 ·rename_i k d
  split at h
  ·rename_i n hn
   split at h
   ·rename_i hc
    simp only [Bool.and_eq_true] at hc;obtain ⟨⟨⟨hT,e0⟩,h0⟩,h1⟩:=hc
    cases h
    have e0:=Nat.eq_of_beq_eq_true e0;have h0:=AE hF h0;rw [tM hF] at h0;have h1:=AE hF h1;have hlen:=hF.len _ (Bu hn);have hl2:(lD V (.ap 77 (.v k) (.lit 0))).length=(V.l k).length / 2:=by
     simp only [lD,List.length_take];omega
    have ha:iD V a=a.2:=by unfold iD; rw [e0,hF.z0]; omega
    have e1:iD V n=V.z n.1+n.2:=rfl;have e2:iD V (a.1,a.2+1)=iD V a+1:=by unfold iD; simp only []; omega
    simp only [] at hlen;rw [hl2] at hlen;have hx:@Rp (Ab V) ρ M w _ [vx]:=hx;unfold Rp at hx;obtain ⟨A,c,e3,_,hb,e5⟩:=hx.2;have hlt:(iD V a).toNat<(V.l k).length / 2:=by omega
    obtain ⟨g,off,rfl,k2,k3,k4⟩:=e5 (by show (V.l k).length / 2≠0; omega);obtain ⟨el,t1,t2⟩:=KG hT;refine ⟨el,2,g,off,_,c,t1,t2,(List.cons.inj e3).1,h0,by show iD V a<(((V.l k).length / 2:Nat):Int); omega,?_⟩;show @Rp (Ab V) ρ M w (.rptr _) [_];unfold Rp;generalize hi:(iD V a).toNat=i at *;have z1:(2*a.2).toNat=2*i:=by omega
    have z2:(2*a.2+1).toNat=2*i+1:=by omega
    have l1:2*i<(V.l k).length:=by omega
    have l2:2*i+1<(V.l k).length:=by omega
    have q1:zD V (.ap 2 (.v k) (.lit (2*a.2)))=((V.l k)[2*i]).num:=by
     simp only [zD];rw [z1,List.getD_eq_getElem?_getD,List.getElem?_eq_getElem l1];rfl
    have q2:zD V (.ap 2 (.v k) (.lit (2*a.2+1)))=((V.l k)[2*i+1]).num:=by
     simp only [zD];rw [z2,List.getD_eq_getElem?_getD,List.getElem?_eq_getElem l2];rfl
    refine ⟨g,off+i*2,[.int .i8 ((V.l k)[2*i]).num,.int .i8 ((V.l k)[2*i+1]).num],rfl,k2,k3,?_,?_⟩
    ·have e6:(((V.l k).map λq=>Value.int .i8 q.num).drop (2*i)).take 2=[.int .i8 ((V.l k)[2*i]).num,.int .i8 ((V.l k)[2*i+1]).num]:=by
      rw [← List.map_drop,← List.map_take,List.drop_eq_getElem_cons l1,List.drop_eq_getElem_cons l2];rfl
     rw [← e6,Nat.mul_comm i 2];exact BH (BW k4)
    ·refine @AQ.app (Ab V) ρ M w [_] [_] [_] [_] (@AQ.one (Ab V) ρ M w _ _ ?_) (@AQ.one (Ab V) ρ M w _ _ ?_)
     ·unfold Rp
      refine ⟨rfl,?_⟩;show (XP.i8 (zD V (.ap 2 (.v k) (.lit (2*a.2))))).p M w _;rw [q1];exact ⟨rfl,hb _ (List.getElem_mem l1)⟩
     ·unfold Rp
      refine ⟨rfl,?_⟩;show (XP.i8 (zD V (.ap 2 (.v k) (.lit (2*a.2+1))))).p M w _;rw [q2];exact ⟨rfl,hb _ (List.getElem_mem l2)⟩
   ·cases h
  ·cases h
 ·rename_i e d
  split at h
  ·rename_i n b hn hb
   split at h
   ·rename_i hc
    simp only [Bool.and_eq_true] at hc;obtain ⟨⟨hT,h0⟩,h1⟩:=hc
    cases h
    have h0:=AE hF h0;rw [tM hF] at h0;have h1:=AE hF h1;have hlen:=hF.len _ (Bu hn);have hlt:(iD V a).toNat<(lD V e).length:=by
     have e1:iD V n=V.z n.1+n.2:=rfl;have e2:iD V (a.1,a.2+1)=V.z a.1+(a.2+1):=rfl;have e3:iD V a=V.z a.1+a.2:=rfl;simp only [] at hlen;omega
    have hx:@Rp (Ab V) ρ M w _ [vx]:=hx;unfold Rp at hx;obtain ⟨A,c,e3,e4,e5⟩:=hx.2;obtain ⟨g,off,xs,rfl,k2,k3,k4,k5⟩:=e5 (by omega);obtain ⟨el,t1,t2⟩:=KG hT;refine ⟨el,2,g,off,_,c,t1,t2,(List.cons.inj e3).1,h0,by omega,?_⟩;show @Rp (Ab V) ρ M w (.rptr _) [_];unfold Rp;obtain ⟨z,p,q,z1,z2,z3⟩:=KU k5 hlt;refine ⟨g,off+(iD V a).toNat*2,[p,q],rfl,k2,k3,?_,?_⟩
    ·rw [← z1,Nat.mul_comm]
     exact BH (BW k4)
    ·refine @AQ.one (Ab V) ρ M w _ _ ?_
     unfold Rp;have hq:qD V (.ap 30 e (.i a.1 a.2))=(lD V e).getD (iD V a).toNat 0:=by
      simp only [qD];rfl
     refine ⟨rfl,?_⟩;show (XP.zq (qD V (.ap 30 e (.i a.1 a.2))) _).p M w _;rw [hq];have hmem:(lD V e).getD (iD V a).toNat 0∈lD V e:=by
      rw [List.getD_eq_getElem?_getD,List.getElem?_eq_getElem hlt];exact List.getElem_mem hlt
     have hs:=(hF.bd _ (Bu hb) _ hmem).1;rw [← z2,Rat.num_intCast] at hs;exact ⟨z,z2,by simpa using hs,p,q,rfl,z3⟩
   ·cases h
  ·cases h
 ·rename_i m d
  split at h
  ·rename_i e he
   split at h
   ·rename_i hc
    simp only [Bool.and_eq_true] at hc;obtain ⟨⟨hT,e0⟩,h0⟩:=hc
    cases h
    have e0:=Nat.eq_of_beq_eq_true e0;have h0:=of_decide_eq_true h0;have ha:iD V a=a.2:=by unfold iD; rw [e0,hF.z0]; omega
    have hx:@Rp (Ab V) ρ M w _ [vx]:=hx;unfold Rp at hx;obtain ⟨A,c,e3,e4,e5⟩:=hx.2;have hlt:a.2.toNat<(mD V m).length:=nC V he;obtain ⟨g,off,xs,rfl,k2,k3,k4,k5⟩:=e5 (by omega);obtain ⟨el,t1,t2⟩:=IE hT;refine ⟨el,1,g,off,_,c,t1,t2,(List.cons.inj e3).1,by omega,by omega,?_⟩;show @Rp (Ab V) ρ M w (.rptr _) [_];unfold Rp;obtain ⟨u,z1,z2⟩:=AaU he k5;refine ⟨g,off+(iD V a).toNat*1,[u],rfl,k2,k3,?_,?_⟩
    ·rw [ha,← z1,Nat.mul_one]
     exact BH (BW k4)
    ·exact @AQ.one (Ab V) ρ M w _ _ (EP (V:=V) (ρ:=ρ) z2)
   ·cases h
  ·cases h
 ·rename_i m d
  split at h
  ·rename_i kk cc he
   split at h
   ·rename_i hc
    simp only [Bool.and_eq_true] at hc;obtain ⟨⟨hT,e0⟩,h0⟩:=hc
    cases h
    have e0:=Nat.eq_of_beq_eq_true e0;have h0:=of_decide_eq_true h0;have ha:iD V a=a.2:=by unfold iD; rw [e0,hF.z0]; omega
    have hx:@Rp (Ab V) ρ M w _ [vx]:=hx;unfold Rp at hx;obtain ⟨A,c,e3,e4,e5⟩:=hx.2;obtain ⟨hlt,hget⟩:=uG (V:=V) he;rw [← nB V] at hlt;obtain ⟨g,off,rfl,k2,k3,k4⟩:=e5 (by omega);obtain ⟨el,t1,t2⟩:=IE hT;refine ⟨el,1,g,off,_,c,t1,t2,(List.cons.inj e3).1,by omega,by omega,?_⟩;show @Rp (Ab V) ρ M w (.rptr _) [_];unfold Rp;have hz:zD V (.ap 1 (.v kk) (.lit cc))=V.z kk+cc:=rfl;have e6:(((iL V m).map λz=>Value.int .i64 z).drop a.2.toNat).take 1=[.int .i64 (V.z kk+cc)]:=by
     rw [← List.map_drop,← List.map_take,List.drop_eq_getElem_cons hlt];have:(iL V m)[a.2.toNat]=V.z kk+cc:=by
      rw [List.getElem?_eq_getElem hlt] at hget;rw [← hz];exact Option.some.inj hget
     rw [this];rfl
    refine ⟨g,off+(iD V a).toNat*1,[.int .i64 (V.z kk+cc)],rfl,k2,k3,?_,?_⟩
    ·rw [ha,← e6,Nat.mul_one]
     exact BH (BW k4)
    ·exact @AQ.one (Ab V) ρ M w _ _ (Iv (V:=V) (ρ:=ρ) rfl)
   ·cases h
  ·cases h
 ·cases h
end
noncomputable def Ac6(F:Fa)(T:TypeId)(j:CE)(a:AV):Option CE:=match j,FK a with
 | .ap 61 (.ap 1 (.v k) (.lit c)) _,some i=>if F_ T && EF F (0,0) i && EF F (i.1,i.2+1) (k,c) then some (.ap 62 (.i i.1 i.2) (.lit 0)) else none
 | _,_=>none
def Ot(F:Fa):CE→Option (Nat × Int)
 | .ap 41 r (.ap 0 _ (.ap 52 _ _))=>Ot F r
 | .ap 40 (.ap 1 (.v k) (.lit c)) _=>if EF F (0,0) (k,c) then some (k,c) else none
 | .ap 42 e _=>Iz F.len e
 | .v k=>Iz F.rlen (.v k)
 | _=>none
def kW:CE→Nat→Option (Nat × Int)
 | .ap 45 (.v y) (.ap 1 (.v k) (.lit c)),x=>if Nat.beq y x then some (k,c) else none
 | _,_=>none
def Yv:List (CE × Nat)→Nat→Option ((Nat × Int) × Nat)
 | [],_=>none
 | p :: r,x=>match kW p.1 x with
  | some d=>some (d,p.2)
  | none=>Yv r x
theorem kM{e:CE}{x:Nat}{d:Nat × Int}(h:kW e x=some d):e = .ap 45 (.v x) (.ap 1 (.v d.1) (.lit d.2)):=by
 unfold kW at h;split at h
 ·split at h
  ·rename_i hb
   have:=Nat.eq_of_beq_eq_true hb;subst this
   cases h
   rfl
  ·cases h
 ·cases h
theorem OX:∀{l:List (CE × Nat)}{x:Nat}{d:Nat × Int}{n:Nat},Yv l x=some (d,n)→(CE.ap 45 (.v x) (.ap 1 (.v d.1) (.lit d.2)),n)∈l
 | [],_,_,_,h=>by cases h
 | p :: r,x,d,n,h=>by
  unfold Yv at h;split at h
  ·rename_i d' hd
   cases h
   rw [← kM hd];exact List.mem_cons_self ..
  ·exact List.mem_cons_of_mem _ (OX h)
noncomputable def iU(F:Fa)(T:TypeId)(c p:CE):Option AV:=match c,p with
 | .ap 60 r _,.ap 62 (.ap 1 (.v k) (.lit i)) _=>if Nat.beq T 36 then (match r with
  | .v x=>match Iz F.full (.v x),Iz F.rlen (.v x) with
   | some n,some l=>if EF F (0,0) (k,i) && EF F (k,i+1) l then some (aQ (.ap 35 (.v x) (.i k i)) n) else none
   | none,some l=>(match Yv F.full x with
    | some (d,n)=>if EF F (0,0) d && EF F d (k,i) && EF F (k,i+1) l then some (aQ (.ap 35 (.v x) (.i k i)) n) else none
    | none=>none)
   | _,_=>none
  | _=>none) else none
 | _,_=>none
def FO:AV→Option (CE × Nat)
 | .ext 4 true (.ap 52 q (.lit n))=>some (q,n.toNat)
 | .rat q=>if decide (mkRat q.num q.den=q) && decide (((q.den:Int)).toNat=q.den) then (if Nat.blt q.num.natAbs 4294967296 && Nat.blt q.den 4294967296 then some (.ap 36 (.lit q.num) (.lit (q.den:Int)),1) else if smQ q then some (.ap 36 (.lit q.num) (.lit (q.den:Int)),100) else none) else none
 | .agg [.ext 2 true (.ap 54 q (.lit n)),.num z]=>if decide (z=1) then some (.ap 48 q (.lit 0),max n.toNat 1) else none
 | .agg [.ext 2 true (.ap 58 q (.lit n)),.num z]=>if decide (z=1) then some (.ap 47 q (.lit 0),max n.toNat 1) else none
 | _=>none
noncomputable def Wx(F:Fa)(T:TypeId)(c p:CE)(a:AV):Option CE:=match c,p,FO a with
 | .ap 60 r _,.ap 62 (.ap 1 (.v k) (.lit i)) _,some (q,n)=>match Ot F r with
  | some l=>if Nat.beq T 36 && EF F (0,0) (k,i) && EF F (k,i+1) l then some (.ap 60 (.ap 41 r (.ap 0 (.i k i) (.ap 52 q (.lit (n:Int))))) (.lit 0)) else none
  | none=>none
 | _,_,_=>none
noncomputable def sR(F:Fa)(T:TypeId)(x y:AV):Option (TypeId × CE × CE):=match FK x,FK y with
 | some a,some b=>if F_ T && Nat.beq a.1 b.1 && decide (a.2=b.2) && !(Nat.beq a.1 0) && EF F (0,0) a && EF F a (0,1048576) then some (36,.ap 60 (.ap 40 (.i a.1 a.2) (.lit 0)) (.lit 0),.ap 61 (.i a.1 a.2) (.lit 0)) else none
 | _,_=>none
def Vc:Nat→List AV→Option CE
 | 0,[]=>some (.lit 0)
 | k+1,a :: l=>match FO a,Vc k l with
  | some (q,_),some e=>some (.ap 80 q e)
  | _,_=>none
 | _,_=>none
def Ako(F:Fa):Bool:=(Iz F.full (.lit 1)).isSome
noncomputable def Ae3(F:Fa)(T:TypeId)(n:Nat)(l:List AV):Option AV:=if Ako F && F_ T && (Nat.ble 1 n || (Iz F.full (.lit 2)).isSome) then (Vc n l).map aL else none
noncomputable def AdA(F:Fa)(T:TypeId):CE→Option (TypeId × CE × CE)
 | .ap 51 e _=>(match Iz F.len e with
  | some n=>if F_ T && EF F (0,1) n && EF F n (0,1048576) then some (36,.ap 60 (.ap 42 e (.lit 0)) (.lit 0),.ap 61 (.i n.1 n.2) (.lit 0)) else none
  | none=>none)
 | _=>none
def oF(e:CE)(n b:Nat):List AV:=(List.range n).map λj:Nat=>aQ (.ap 30 e (.i 0 (j:Int))) b
noncomputable def Ac1(F:Fa)(T:TypeId):CE→Option (TypeId × List AV)
 | .ap 51 e _=>(match Iz F.len e,Iz F.bd e with
  | some n,some b=>if (Iz F.full (.lit 3)).isSome && F_ T && Nat.beq n.1 0 && decide (0≤n.2) && decide (n.2≤1000) then some (36,oF e n.2.toNat b) else none
  | _,_=>none)
 | _=>none
noncomputable def RL(F:Fa):XT:=⟨true,My F,Ac6 F,iU F,Wx F,sR F,Ae3 F,AdA F,Ac1 F⟩
section
variable {V : VL} {F : Fa} {ρ : Bg} {M : Nat → Prop} {w : World} {r : AV}
theorem Ta(hF:Bi V F):∀(r:CE){l:Nat × Int},Ot F r=some l→((rD V r).length:Int)=iD V l:=by
 intro r
 induction r with
 | v k=>intro l h; unfold Ot at h; exact hF.rlen _ (Bu h)
 | lit z=>intro l h; unfold Ot at h; cases h
 | ap f a b iha _ =>
  intro l h;unfold Ot at h;split at h
  ·rename_i e
   injection e with e1 e2 e3
   subst e1;subst e2;subst e3;simp only [rD];rw [List.length_set];exact iha h
  ·rename_i k c d e
   injection e with e1 e2 e3
   subst e1;subst e2;split at h
   ·rename_i hc
    cases h
    have h0:=AE hF hc;rw [tM hF] at h0;simp only [rD];rw [List.length_replicate,NQ];exact Int.toNat_of_nonneg h0
   ·cases h
  ·rename_i e
   injection e with e1 e2 e3
   subst e1;subst e2;simp only [rD];rw [List.length_map];exact hF.len _ (Bu h)
  ·rename_i e; cases e
  ·cases h
theorem GT:∀{l:List (Option Rat)}{cs:List Value}{i:Nat}{q:Rat},A_ w l cs→l[i]? = some (some q)→∃ a b c d,(cs.drop (4*i)).take 4=[a,b,c,d]∧Al w (.agg #[a,b]) q.num∧Al w (.agg #[c,d]) (q.den:Int)
 | some q :: l,_,0,q',⟨a,b,c,d,r,e,h1,h2,h3⟩,h=>by
  subst e;simp at h;subst h;exact ⟨a,b,c,d,rfl,h1,h2⟩
 | none :: l,_,0,q',_,h=>by simp at h
 | some q :: l,_,i+1,q',⟨a,b,c,d,r,e,h1,h2,h3⟩,h=>by
  subst e;have:=GT (i:=i) h3 (by simpa using h);rw [show 4*(i+1)=4+4*i by omega,← List.drop_drop];simpa using this
 | none :: l,_,i+1,q',⟨r,e,h3⟩,h=>by
  subst e;have:=GT (i:=i) h3 (by simpa using h);rw [show 4*(i+1)=4+4*i by omega,← List.drop_drop];simpa using this
theorem Gd:∀{l:List (Option Rat)}{cs:List Value}{i:Nat}{q:Rat}{a b c d:Value},A_ w l cs→i<l.length→Al w (.agg #[a,b]) q.num→Al w (.agg #[c,d]) (q.den:Int)→A_ w (l.set i (some q)) (cs.take (4*i) ++ [a,b,c,d] ++ cs.drop (4*i+4))
 | some q :: l,_,0,q',a,b,c,d,⟨a0,b0,c0,d0,r,e,h1,h2,h3⟩,_,i1,i2=>by
  subst e;exact ⟨a,b,c,d,r,by simp,i1,i2,h3⟩
 | none :: l,_,0,q',a,b,c,d,⟨r,e,h3⟩,_,i1,i2=>by
  subst e;exact ⟨a,b,c,d,r,by simp,i1,i2,h3⟩
 | some q :: l,_,i+1,q',a,b,c,d,⟨a0,b0,c0,d0,r,e,h1,h2,h3⟩,hi,i1,i2=>by
  subst e;refine ⟨a0,b0,c0,d0,_,?_,h1,h2,Gd (i:=i) h3 (by simpa using hi) i1 i2⟩;rw [show 4*(i+1)=4*i+1+1+1+1 by omega];simp
 | none :: l,_,i+1,q',a,b,c,d,⟨r,e,h3⟩,hi,i1,i2=>by
  subst e;refine ⟨_,?_,Gd (i:=i) h3 (by simpa using hi) i1 i2⟩;rw [show 4*(i+1)=4*i+1+1+1+1 by omega];simp
theorem AgP:∃ d,Tryz.prog.underlying 36=some d∧d.isRow=true:=by
 have h:(Tryz.prog.underlying 36).map (·.isRow)=some true:=by kernel_rfl
 obtain ⟨d,h1,h2⟩:=Option.map_eq_some_iff.1 h;exact ⟨d,h1,h2⟩
theorem Aa0:(Tryz.prog.info? 36).map (·.size)=some 4:=by kernel_rfl
theorem AiY(k:Nat)(c:Int)(d:CE):(Ab V).J (.ap 62 (.i k c) d)=4*(iD V (k,c)).toNat:=rfl
theorem Y6{g i:Nat}{q:Rat}{n:Nat}{l:List (Option Rat)}{cs:List Value}{qc:CE}(hq:qD V qc=q)(hn:AR q n)(hr:w.rangeAt g 0 cs)(hc:A_ w l cs)(hi:l[i]? = some (some q)):∃ v,(Instr.loadAt 36 (.pointer (some ⟨g,4*i,none⟩))).run Tryz.prog w = .ok v w ∧ @RV (Ab V) ρ M w (aQ qc n) v:=by
 obtain ⟨a,b,c,d,e,h1,h2⟩:=GT hc hi;obtain ⟨dd,hu,hd⟩:=AgP;have hr':w.rangeAt g (4*i) [a,b,c,d]:=by
  rw [← e];have:=@BH (Ab V) w g (4*i) 4 _ (by simpa using @BW (Ab V) w g 0 (4*i) cs hr);exact this
 obtain ⟨x,A,k,y,rfl,rfl⟩:=IP h1;obtain ⟨x',A',k',y',rfl,rfl⟩:=IP h2;refine ⟨_,run_loadAt_mid w g (4*i) 36 _ dd hr' hu hd Aa0,?_⟩;exact Fk (V:=V) (hq ▸ ⟨x,A,k,y,x',A',k',y',rfl,h1,h2⟩) (hq ▸ hn)
theorem TJ(hF:Bi V F){T:TypeId}{c p:CE}(h:iU F T c p=some r){g:Nat}{cs:List Value}(hr:w.rangeAt g 0 cs)(hb:(bD V c).p M w cs):∃ v,(Instr.loadAt T (.pointer (some ⟨g,(Ab V).J p,none⟩))).run Tryz.prog w = .ok v w ∧ @RV (Ab V) ρ M w r v:=by
 unfold iU at h;split at h
 ·rename_i r0 d k i d'
  change A_ w (rD V r0) cs at hb;split at h
  ·rename_i hT
   have hT:=Nat.eq_of_beq_eq_true hT;subst hT;rw [AiY];split at h
   ·rename_i x
    split at h
    ·rename_i n l hn hl
     split at h
     ·rename_i hc
      simp only [Bool.and_eq_true] at hc;have c3:=AE hF hc.1;rw [tM hF] at c3;have c4:=AE hF hc.2;have hlen:=hF.rlen _ (Bu hl)
      cases h
      have hlt:(iD V (k,i)).toNat<(rD V (.v x)).length:=by
       have e1:iD V l=V.z l.1+l.2:=rfl;have e2:iD V (k,i+1)=V.z k+(i+1):=rfl;have e3:iD V (k,i)=V.z k+i:=rfl;simp only [] at hlen;omega
      obtain ⟨q,e,hq⟩:=hF.full _ (Bu hn) _ (List.getElem_mem hlt);have hget:(rD V (.v x))[(iD V (k,i)).toNat]? = some (some q):=by rw [List.getElem?_eq_getElem hlt,e]
      refine Y6 (q:=q) ?_ hq hr hb hget;simp only [qD];rw [NQ,List.getD_eq_getElem?_getD,hget];rfl
     ·cases h
    ·rename_i l hn hl
     split at h
     ·rename_i d n hd
      split at h
      ·rename_i hc
       simp only [Bool.and_eq_true] at hc;have c1:=AE hF hc.1.1;rw [tM hF] at c1;have c2:=AE hF hc.1.2;have c4:=AE hF hc.2;have hlen:=hF.rlen _ (Bu hl)
       cases h
       have hlt:(iD V (k,i)).toNat<(rD V (.v x)).length:=by
        have e1:iD V l=V.z l.1+l.2:=rfl;have e2:iD V (k,i+1)=V.z k+(i+1):=rfl;have e3:iD V (k,i)=V.z k+i:=rfl;simp only [] at hlen;omega
       have hm:(rD V (.v x))[(iD V (k,i)).toNat]∈rD V (.ap 45 (.v x) (.ap 1 (.v d.1) (.lit d.2))):=by
        show _∈(rD V (.v x)).drop (iD V d).toNat;rw [List.mem_drop_iff_getElem];exact ⟨(iD V (k,i)).toNat - (iD V d).toNat,by omega,by congr 1; omega⟩
       obtain ⟨q,e,hq⟩:=hF.full _ (OX hd) _ hm;have hget:(rD V (.v x))[(iD V (k,i)).toNat]? = some (some q):=by rw [List.getElem?_eq_getElem hlt,e]
       refine Y6 (q:=q) ?_ hq hr hb hget;simp only [qD];rw [NQ,List.getD_eq_getElem?_getD,hget];rfl
      ·cases h
     ·cases h
    ·cases h
   ·cases h
  ·cases h
 ·cases h
theorem OQ{a:CE}{z:Int}{n:Nat}{q:CE}{v:Value}(ha:∀ cs,(xD V a).p M w cs→(XP.zi z n).p M w cs)(hq:qD V q=(z:Rat))(hv:@RV (Ab V) ρ M w (.agg [.ext 2 true a,.num 1]) v):(An (qD V q)).p v w∧AR (qD V q) (max n 1):=by
 obtain ⟨cs,rfl,hc⟩:=hv;unfold AQ at hc;obtain ⟨x,y,e,h1,h2⟩:=hc;unfold AQ at h2;obtain ⟨x2,y2,rfl,h2,h3⟩:=h2;unfold AQ at h3;subst h3;unfold Rp at h1 h2;obtain ⟨s1,a1,b1,rfl,i1⟩:=ha x h1.2;obtain ⟨a2,b2,rfl,i2⟩:=h2;obtain ⟨u,A,kk,c,rfl,rfl⟩:=IP i1;obtain ⟨u',A',kk',c',rfl,rfl⟩:=IP i2;rw [hq];refine ⟨⟨u,A,kk,c,u',A',kk',c',?_,by rw [Rat.num_intCast]; exact i1,?_⟩,by
  obtain ⟨i,hi⟩:∃ i,max n 1=i+1:=⟨max n 1 - 1,by omega⟩;rw [hi];exact AR.whole (s1.mono (by omega))⟩
 ·congr 1
  apply Array.ext';exact e
 ·rw [Rat.den_intCast]
  exact i2
theorem Bn{a:AV}{q:CE}{n:Nat}{v:Value}(h:FO a=some (q,n))(hv:@RV (Ab V) ρ M w a v):(An (qD V q)).p v w∧AR (qD V q) n:=by
 unfold FO at h;split at h
 ·rename_i q' n'
  cases h
  have hv:@Bz (Ab V) ρ M w (.ext 4 true (.ap 52 q (.lit n'))) v:=hv;obtain ⟨cs,rfl,hc⟩:=hv;have:=@AeB V ρ M w q n'.toNat (.agg cs) ⟨cs,rfl,by
   unfold Rp at hc ⊢;refine ⟨hc.1,?_⟩;have h2:=hc.2;show (XP.num (qD V q) ((n'.toNat:Nat):Int).toNat).p M w cs.toList;rw [Int.toNat_natCast];exact h2⟩
  exact this
 ·rename_i q'
  split at h
  ·rename_i hc
   rw [Bool.and_eq_true] at hc;have e1:=of_decide_eq_true hc.1;have hv:@Bz (Ab V) ρ M w (.rat q') v:=hv;have hr:=@Fl (Ab V) ρ M w v (.rat q') q' rfl hv;have hq:qD V (.ap 36 (.lit q'.num) (.lit (q'.den:Int)))=q':=by
    simp only [qD];rw [Int.toNat_natCast];exact e1
   split at h
   ·rename_i hs
    rw [Bool.and_eq_true] at hs
    cases h
    rw [hq];have h1:=Nat.le_of_ble_eq_true hs.1;have h2:=Nat.le_of_ble_eq_true hs.2;exact ⟨hr,by unfold Sm; rw [Nat.pow_one]; exact h1,by unfold Sm; rw [Int.natAbs_natCast,Nat.pow_one]; exact h2⟩
   ·split at h
    ·rename_i hs
     cases h
     rw [hq];exact ⟨hr,@Hv (Ab V) _ hs⟩
    ·cases h
  ·cases h
 ·rename_i q' n' z'
  split at h
  ·rename_i hz
   cases of_decide_eq_true hz
   cases h
   exact OQ (a:=.ap 54 q' (.lit n')) (z:=((qD V q').den:Int)) (λcs h=>h) rfl hv
  ·cases h
 ·rename_i q' n' z'
  split at h
  ·rename_i hz
   cases of_decide_eq_true hz
   cases h
   exact OQ (a:=.ap 58 q' (.lit n')) (z:=(qD V q').num) (λcs h=>h) rfl hv
  ·cases h
 ·cases h
theorem PL(hF:Bi V F){T:TypeId}{c p c':CE}{a:AV}(h:Wx F T c p a=some c'){cs:List Value}{v:Value}(hb:(bD V c).p M w cs)(hv:@RV (Ab V) ρ M w a v) :
  (Tryz.prog.info? T).map (·.size)=some v.cells.size∧(∀ x∈v.cells.toList,x.oneCell'=true)∧(Ab V).J p+v.cells.size≤cs.length∧(bD V c').p M w (cs.take ((Ab V).J p) ++ v.cells.toList ++ cs.drop ((Ab V).J p+v.cells.size)):=by
 unfold Wx at h;split at h
 ·rename_i r0 d k i d' q n hn
  change A_ w (rD V r0) cs at hb;obtain ⟨hr,hsm⟩:=Bn hn hv;split at h
  ·rename_i l hl
   split at h
   ·rename_i hc
    simp only [Bool.and_eq_true] at hc;obtain ⟨⟨c1,c2⟩,c3⟩:=hc;have c1:=Nat.eq_of_beq_eq_true c1;subst c1;have c2:=AE hF c2;rw [tM hF] at c2;have c3:=AE hF c3;have hlen:=Ta hF _ hl
    cases h
    obtain ⟨x,A,kk,y,x',A',k',y',rfl,h1,h2⟩:=hr;have hlt:(iD V (k,i)).toNat<(rD V r0).length:=by
     have e2:iD V (k,i+1)=V.z k+(i+1):=rfl;have e3:iD V (k,i)=V.z k+i:=rfl;omega
    have hcl:=hb.len;rw [AiY];refine ⟨Aa0,λz hz=>?_,?_,?_⟩
    ·simp only [Value.cells,List.mem_cons,List.not_mem_nil,or_false] at hz
     rcases hz with rfl | rfl | rfl | rfl <;> rfl
    ·show 4*(iD V (k,i)).toNat+4≤cs.length
     omega
    ·show A_ w (rD V (.ap 41 r0 (.ap 0 (.i k i) (.ap 52 q (.lit (n:Int)))))) _
     simp only [rD];rw [NQ];exact Gd hb hlt h1 h2
   ·cases h
  ·cases h
 ·cases h
end
section
variable {V : VL} {F : Fa} {ρ : Bg} {M : Nat → Prop} {w : World} {r : AV}
theorem Vo(hF:Bi V F){T:TypeId}{j p:CE}{a:AV}(h:Ac6 F T j a=some p){g k:Nat}{v:Value}(hv:@RV (Ab V) ρ M w a v):(Instr.indexAt T (.slice (some ⟨g,0,none⟩) ((Ab V).N j) k) v).run Tryz.prog w = .ok (.pointer (some ⟨g,(Ab V).J p,none⟩)) w:=by
 letI:=Ab V
 unfold Ac6 at h;split at h
 ·rename_i k' c d i hi
  split at h
  ·rename_i hc
   simp only [Bool.and_eq_true] at hc;obtain ⟨⟨hT,h0⟩,h1⟩:=hc
   cases h
   have h0:=AE hF h0;rw [tM hF] at h0;have h1:=AE hF h1;have hv1:@Bz (Ab V) ρ M w a v:=by
    cases a <;> first | exact hv | (unfold FK at hi; cases hi)
   have hv:=BM hF hi hv1;subst hv;have hN:(Ab V).N (.ap 61 (.ap 1 (.v k') (.lit c)) d)=(iD V (k',c)).toNat:=rfl;have e2:iD V (i.1,i.2+1)=V.z i.1+(i.2+1):=rfl;have e3:iD V i=V.z i.1+i.2:=rfl;have:=DL (w:=w) (g:=g) (off:=0) (c:=k) (len:=(iD V (k',c)).toNat) (k:=.i64) (i:=iD V i) (De hT) Ya ⟨h0,by omega⟩;rw [hN,this];have hJ:(Ab V).J (.ap 62 (.i i.1 i.2) (.lit 0))=0+(iD V i).toNat*4:=by
    show 4*(iD V (i.1,i.2)).toNat=0+(iD V i).toNat*4;rw [show iD V (i.1,i.2)=iD V i from rfl];omega
   rw [hJ]
  ·cases h
 ·cases h
theorem Rq:∃ i z,Tryz.prog.info? 36=some i∧i.zero=some z∧i.size=4∧i.bytes≤1048576∧z.cells.toList=[.bool false,.slice none 0 0,.bool false,.slice none 0 0]:=by
 have h:((Tryz.prog.info? 36).bind λi=>i.zero.map λz=>(i.size,decide (i.bytes≤1048576),z.cells.toList))=some (4,true,[.bool false,.slice none 0 0,.bool false,.slice none 0 0]):=by kernel_rfl
 obtain ⟨i,hi,h⟩:=Option.bind_eq_some_iff.1 h;obtain ⟨z,hz,h⟩:=Option.map_eq_some_iff.1 h;simp only [Prod.mk.injEq] at h;exact ⟨i,z,hi,hz,h.1,of_decide_eq_true h.2.1,h.2.2⟩
theorem Px:Ih 36=true:=by kernel_rfl
theorem Iy:∀ n,A_ w (List.replicate n none) (Ii n [.bool false,.slice none 0 0,.bool false,.slice none 0 0])
 | 0=>rfl
 | n+1=>⟨_,rfl,Iy n⟩
theorem TT(hF:Bi V F){T e:TypeId}{x y:AV}{c j:CE}(h:sR F T x y=some (e,c,j)):Ih e=true∧∀(ρ:Bg)(M:Nat→Prop)(w:World)(vx vy:Value),@RV (Ab V) ρ M w x vx → @RV (Ab V) ρ M w y vy →
  ∃ cells,(Instr.makeSlice T vx vy).run Tryz.prog w = .ok (.slice (some ⟨w.heap.size,0,none⟩) ((Ab V).N j) ((Ab V).N j)) (w.alloc (.cells cells e))∧(bD V c).p M w cells.toList:=by
 letI:=Ab V
 unfold sR at h;split at h
 ·rename_i a b ha hb
  split at h
  ·rename_i hc
   simp only [Bool.and_eq_true] at hc;obtain ⟨⟨⟨⟨⟨hT,e1⟩,e2⟩,_⟩,h0⟩,h1⟩:=hc
   cases h
   refine ⟨Px,λρ M w vx vy hx hy=>?_⟩;have e1:=Nat.eq_of_beq_eq_true e1;have e2:=of_decide_eq_true e2;have hab:iD V b=iD V a:=by unfold iD; rw [e1,e2]
   have h0:=AE hF h0;rw [tM hF] at h0;have h1:=AE hF h1;have h1:iD V a≤1048576:=by
    have:iD V (0,1048576)=V.z 0+1048576:=rfl;rw [hF.z0] at this;omega
   have one:∀{a:AV}{x:Nat × Int}{v:Value},FK a=some x → @RV (Ab V) ρ M w a v→v = .int .i64 (iD V x):=fun {a} {x} {v} hi hv=>BM hF hi (by cases a <;> first | exact hv | (unfold FK at hi; cases hi))
   have hx:=one ha hx;have hy:=one hb hy;subst hx;subst hy;obtain ⟨i,z,hi,hz,hs,hby,hcl⟩:=Rq;have hbc:(i.bytes:Int)*iD V a≤281474976710656:=by
    have h5:(i.bytes:Int)≤1048576:=by omega
    calc (i.bytes:Int)*iD V a≤1048576*1048576:=Int.mul_le_mul h5 h1 (by omega) (by omega)
     _≤281474976710656:=by decide
   have hrun:=run_make (P:=Tryz.prog) w T 36 i z (De hT) hi hz .i64 .i64 (iD V a) (iD V a) h0 (Int.le_refl _) hbc (by omega);have hN:(Ab V).N (.ap 61 (.i a.1 a.2) (.lit 0))=(iD V a).toNat:=rfl;refine ⟨madeCells z.cells ((iD V a).toNat*i.size),?_,?_⟩
   ·rw [hab,hN]
    exact hrun
   ·show A_ w (rD V (.ap 40 (.i a.1 a.2) (.lit 0))) _
    simp only [rD];rw [NQ,show iD V (a.1,a.2)=iD V a from rfl];have hzs:z.cells.size=4:=by
     have:=congrArg List.length hcl;simpa using this
    rw [hs,← hzs,H9,hcl];exact Iy _
  ·cases h
 ·cases h
theorem GW(hF:Bi V F){k:PK}{xs:List AV}(h:My F k xs=some r){ρv:Operand→Value}{ys:List Operand}(hv:@CH (Ab V) ρ M w xs (ys.map ρv)) :
  ∃ v,(∀ o:Oper,o.op=MN k ys→(execOp ρv o).run Tryz.prog w = .ok (.value v) w) ∧ @RV (Ab V) ρ M w r v:=by
 letI:=Ab V
 have two:∀{x y:AV},@CH (Ab V) ρ M w [x,y] (ys.map ρv)→∃ a b,ys=[a,b] ∧ @Bz (Ab V) ρ M w x (ρv a) ∧ @Bz (Ab V) ρ M w y (ρv b):=fun {x y} ⟨va,_,e1,h1,vb,_,e2,h2,e3⟩=>by
  have e3:_=[]:=e3;subst e3;subst e2
  match ys,e1 with
  | [a,b],e1 =>
   simp only [List.map_cons,List.map_nil,List.cons.injEq,and_true] at e1;exact ⟨a,b,rfl,e1.1 ▸ h1,e1.2 ▸ h2⟩
 have one:∀{x:AV},@CH (Ab V) ρ M w [x] (ys.map ρv)→∃ a,ys=[a] ∧ @Bz (Ab V) ρ M w x (ρv a):=fun {x} ⟨va,_,e1,h1,e3⟩=>by
  have e3:_=[]:=e3;subst e3
  match ys,e1 with
  | [a],e1 =>
   simp only [List.map_cons,List.map_nil,List.cons.injEq,and_true] at e1;exact ⟨a,rfl,e1 ▸ h1⟩
 have three:∀{x y z:AV},@CH (Ab V) ρ M w [x,y,z] (ys.map ρv)→∃ a b c,ys=[a,b,c] ∧ @Bz (Ab V) ρ M w x (ρv a) ∧ @Bz (Ab V) ρ M w y (ρv b) ∧ @Bz (Ab V) ρ M w z (ρv c):=fun {x y z} ⟨va,_,e1,h1,vb,_,e2,h2,vc,_,e4,h4,e3⟩=>by
  have e3:_=[]:=e3;subst e3;subst e4;subst e2
  match ys,e1 with
  | [a,b,c],e1 =>
   simp only [List.map_cons,List.map_nil,List.cons.injEq,and_true] at e1;exact ⟨a,b,c,rfl,e1.1 ▸ h1,e1.2.1 ▸ h2,e1.2.2 ▸ h4⟩
 have rv:∀{a:AV}{v:Value},@Bz (Ab V) ρ M w a v → @RV (Ab V) ρ M w a v:=λh=>@Bz.rv (Ab V) ρ M w _ _ h
 unfold My at h;split at h
 ·rename_i o T U x y
  obtain ⟨a,b,rfl,hx,hy⟩:=two hv;split at h
  ·rename_i p q hp hq
   obtain ⟨v,hb,hr⟩:=Wd (ρ:=ρ) (M:=M) (w:=w) hF h;obtain ⟨v',w',hrun,rfl,rfl⟩:=Mb (ρv:=ρv) (w:=w) (T:=T) (T2:=U) hb (BM hF hp hx) (BM hF hq hy);exact ⟨_,hrun,rv hr⟩
  ·split at h
   ·rename_i r0 h0
    cases h
    obtain ⟨e,A,n,c,n',c',hd,e1,e2,hr⟩:=VN hF h0 hx hy
    rcases hr with ⟨rfl,rfl⟩ | ⟨rfl,rfl⟩
    ·refine ⟨.bool false,λz hz=>?_,rfl⟩
     have hz:z.op = .binOp .eql T a b U:=hz;unfold execOp;rw [hz];simp [eqGuard,binOp,e1,e2,H8 hd]
    ·refine ⟨.bool true,λz hz=>?_,rfl⟩
     have hz:z.op = .binOp .neq T a b U:=hz;unfold execOp;rw [hz];simp [eqGuard,binOp,e1,e2,H8 hd]
   ·obtain ⟨p,q,v,e1,e2,hb,hr⟩:=cB hF h hx hy
    obtain ⟨v',w',hrun,rfl,rfl⟩:=Mb (ρv:=ρv) (w:=w) (T:=T) (T2:=U) hb e1 e2;exact ⟨_,hrun,rv hr⟩
 ·rename_i T x
  obtain ⟨a,rfl,hx⟩:=one hv;obtain ⟨e,A,n,c,hd,ha,hr⟩:=WQ hF h hx;refine ⟨_,λo ho=>?_,rv hr⟩;have ho:o.op = .call { callee:=.builtin .len,args:=#[a],argTypes:=#[T] }:=ho;unfold execOp;rw [ho];simp [resolve,invoke,builtin,Builtin.len_,Sem.run_bind,run_underlying hd,ha,goInt]
 ·rename_i T U x y
  obtain ⟨a,b,rfl,hx,hy⟩:=two hv;split at h
  ·rename_i p q hp hq
   split at h
   ·rename_i hTU
    rw [Bool.and_eq_true] at hTU;have hT:=Nat.eq_of_beq_eq_true hTU.1;have hU:=Nat.eq_of_beq_eq_true hTU.2;subst hT;subst hU;have hx:=BM hF hp hx;have hy:=BM hF hq hy;have key:r=VR p∧iD V q≤iD V p ∨ r=VR q∧iD V p≤iD V q:=by
     split at h
     ·rename_i hle
      cases h
      exact .inr ⟨rfl,AE hF hle⟩
     ·split at h
      ·rename_i hle
       cases h
       exact .inl ⟨rfl,AE hF hle⟩
      ·cases h
    have hr:@Bz (Ab V) ρ M w r (.int .i64 (max (iD V p) (iD V q))):=by
     rcases key with ⟨rfl,hle⟩ | ⟨rfl,hle⟩
     ·rw [show max (iD V p) (iD V q)=iD V p by omega]
      exact EK hF
     ·rw [show max (iD V p) (iD V q)=iD V q by omega]
      exact EK hF
    refine ⟨_,λo ho=>?_,rv hr⟩;have ho:o.op = .call { callee:=.builtin .max,args:=#[a,b],argTypes:=#[3,3] }:=ho;unfold execOp;rw [ho]
    by_cases h:iD V p<iD V q
    ·have:max (iD V p) (iD V q)=iD V q:=by omega
     simp [go_sem,hx,hy,h,this]
    ·have:max (iD V p) (iD V q)=iD V p:=by omega
     simp [go_sem,hx,hy,h,this]
   ·cases h
  ·cases h
 ·rename_i T x hh m
  obtain ⟨a,b,c,rfl,hx,hy,hz⟩:=three hv;split at h
  ·rename_i p q hp hq
   obtain ⟨n,A,ln,cc,h1,h2,h3,h4,h6,h5,hr⟩:=LZ hF h hx;have hy:=BM hF hp hy;have hz:=BM hF hq hz;refine ⟨_,λo ho=>?_,rv (hr n (Nat.le_refl _))⟩;have ho:o.op = .slice T a none (some b) (some c):=ho;unfold execOp;rw [ho];show Sem.run _ (Instr.sliceAt T (ρv a) none (some (ρv b)) (some (ρv c)) >>= λx=>pure (Next.value x)) w=_;rw [h4,hy,hz,h1,h2];exact CA (Np h3 Ya (Nat.le_refl _) (Nat.le_trans h6 h5))
  ·cases h
 ·rename_i T x hh
  obtain ⟨a,b,rfl,hx,hy⟩:=two hv;split at h
  ·rename_i p hp
   obtain ⟨n,A,ln,cc,h1,h2,h3,h4,h6,h5,hr⟩:=LZ hF h hx;have hy:=BM hF hp hy;refine ⟨_,λo ho=>?_,rv (hr cc (Nat.le_trans h6 h5))⟩;have ho:o.op = .slice T a none (some b) none:=ho;unfold execOp;rw [ho];show Sem.run _ (Instr.sliceAt T (ρv a) none (some (ρv b)) none >>= λx=>pure (Next.value x)) w=_;rw [h4,hy,h1];exact CA (On h3 Ya h6 h5)
  ·cases h
 ·rename_i T x i
  obtain ⟨a,b,rfl,hx,hy⟩:=two hv;split at h
  ·rename_i p hp
   have hy:=BM hF hp hy;split at h
   ·rename_i r0 h0
    cases h
    obtain ⟨g,off,n,c,h1,h2,h3,h4,hr⟩:=Vm hF h0 hx;refine ⟨_,λo ho=>?_,rv hr⟩;have ho:o.op = .indexAddr T a b:=ho;unfold execOp;rw [ho];show Sem.run _ (Instr.indexAt T (ρv a) (ρv b) >>= λx=>pure (Next.value x)) w=_;rw [h2,hy];exact CA (DL h1 Ya ⟨h3,h4⟩)
   ·obtain ⟨e,z,g,off,n,c,h1,h2,h3,h4,h5,hr⟩:=Uk hF h hx
    refine ⟨_,λo ho=>?_,rv hr⟩;have ho:o.op = .indexAddr T a b:=ho;unfold execOp;rw [ho];show Sem.run _ (Instr.indexAt T (ρv a) (ρv b) >>= λx=>pure (Next.value x)) w=_;rw [h3,hy];exact CA (DL h1 h2 ⟨h4,h5⟩)
  ·cases h
 ·rename_i T U x
  obtain ⟨a,rfl,hx⟩:=one hv;obtain ⟨z,hT,hU,ha,hr⟩:=aN h hx;refine ⟨_,λo ho=>?_,rv hr⟩;have ho:o.op = .convert T U a:=ho;unfold execOp;rw [ho];simp [convert,Sem.run_bind,run_underlying hT,run_underlying hU,ha,go_sem]
 ·cases h
theorem aW{a:AV}{q:CE}{n:Nat}{x:List Value}(h:FO a=some (q,n))(r:@Rp (Ab V) ρ M w a x):∃ p u s t,x=[p,u,s,t]∧Al w (.agg #[p,u]) (qD V q).num∧Al w (.agg #[s,t]) ((qD V q).den:Int):=by
 have hv:@RV (Ab V) ρ M w a (.agg x.toArray):=by
  have h:=h;unfold FO at h;split at h
  ·exact ⟨_,rfl,r⟩
  ·exact ⟨_,rfl,r⟩
  ·unfold Rp at r; exact r.elim
  ·unfold Rp at r; exact r.elim
  ·cases h
 obtain ⟨⟨b,A,k,c,b',A',k',c',e,h1,h2⟩,_⟩:=Bn h hv;simp only [Value.agg.injEq] at e;have e:=congrArg Array.toList e;exact ⟨_,_,_,_,e,h1,h2⟩
theorem MQ:∀{n:Nat}{l:List AV}{e:CE}{cs:List Value},Vc n l=some e → @AQ (Ab V) ρ M w l cs→(lD V e).length=n∧AI w (lD V e) cs
 | 0,[],e,cs,h,r=>by
  unfold Vc at h
  cases h
  unfold AQ at r;exact ⟨by simp [lD],by rw [r]; simp [lD,AI]⟩
 | k+1,a :: l,e,cs,h,r=>by
  unfold Vc at h;split at h
  ·rename_i q n e' hq hl
   cases h
   unfold AQ at r;obtain ⟨x,y,rfl,r1,r2⟩:=r;obtain ⟨p,u,s,t,rfl,i1,i2⟩:=aW hq r1;obtain ⟨h1,h2⟩:=MQ hl r2;have he:lD V (.ap 80 q e')=qD V q :: lD V e':=by simp only [lD]
   rw [he];exact ⟨by rw [List.length_cons,h1],p,u,s,t,y,rfl,i1,i2,h2⟩
  ·cases h
 | 0,_ :: _,_,_,h,_=>by unfold Vc at h; cases h
 | _+1,[],_,_,h,_=>by unfold Vc at h; cases h
theorem Vs{T:TypeId}{n:Nat}{l:List AV}(h:Ae3 F T n l=some r){g:Nat}{cs:List Value}(hm:¬ M g)(hg:g<w.heap.size)(hr:w.rangeAt g 0 cs){ρ':Bg}(hc:@AQ (Ab V) ρ' M w l cs):@RV (Ab V) ρ M w r (.slice (some ⟨g,0,none⟩) n n):=by
 unfold Ae3 at h;split at h
 ·obtain ⟨e,he,rfl⟩:=Option.map_eq_some_iff.1 h
  obtain ⟨h1,h2⟩:=MQ he hc;refine @Bz.rv (Ab V) ρ M w _ _ (EP ⟨some ⟨g,0,none⟩,n,by rw [h1],Nat.le_of_eq h1,λ_=>⟨g,0,cs,rfl,hm,hg,hr,h2⟩⟩)
 ·cases h
theorem Ju:∀{l:List Rat}{cs:List Value},AI w l cs→A_ w (l.map some) cs
 | [],_,h=>h
 | _ :: _,_,⟨a,b,c,d,r,e,h1,h2,h3⟩=>⟨a,b,c,d,r,e,h1,h2,Ju h3⟩
theorem Xd(hF:Bi V F){T et:TypeId}{e c n:CE}(h:AdA F T e=some (et,c,n)):Ih et=true∧Tryz.prog.underlying T=some (.slice et)∧(∃ i z,Tryz.prog.info? et=some i∧i.zero=some z∧i.size=4∧z.cells.size=4∧i.bytes≤1048576)∧1≤(Ab V).N n∧(Ab V).N n≤1048576 ∧
  ∀(M:Nat→Prop)(w:World)(v:Value),((Ab V).X e).p M w [v]→∃ g off xs k,v = .slice (some ⟨g,off,none⟩) ((Ab V).N n) k∧w.rangeAt g off xs∧xs.length=(Ab V).N n*4∧((Ab V).B c).p M w xs:=by
 unfold AdA at h;split at h
 ·rename_i e d
  split at h
  ·rename_i n hn
   split at h
   ·rename_i hc
    simp only [Bool.and_eq_true] at hc;obtain ⟨⟨hT,h1⟩,h2⟩:=hc
    cases h
    have h1:=AE hF h1;have h2:=AE hF h2;have hlen:=hF.len _ (Bu hn);have e0:iD V n=V.z n.1+n.2:=rfl;have e01:iD V (0,1)=1:=by unfold iD; simp [hF.z0]
    have e02:iD V (0,1048576)=1048576:=by unfold iD; simp [hF.z0]
    rw [e01] at h1;rw [e02] at h2;simp only [] at hlen;have hN:(Ab V).N (.ap 61 (.i n.1 n.2) (.lit 0))=(lD V e).length:=by
     show (zD V (.i n.1 n.2)).toNat=_;rw [NQ];show (iD V n).toNat=_;omega
    obtain ⟨i,z,q1,q2,q3,q4,q5⟩:=Rq;refine ⟨Px,De hT,⟨i,z,q1,q2,q3,by rw [← Array.length_toList,q5]; rfl,q4⟩,by rw [hN]; omega,by rw [hN]; omega,λM w v hv=>?_⟩;obtain ⟨A,c,k1,k2,k3⟩:=hv;obtain ⟨g,off,xs,rfl,_,_,hr,hcs⟩:=k3 (by omega);have ho:=Ju hcs;refine ⟨g,off,xs,c,by rw [hN]; exact (List.cons.inj k1).1,hr,?_,?_⟩
    ·rw [ho.len,List.length_map,hN,Nat.mul_comm]
    ·show A_ w (rD V (.ap 42 e (.lit 0))) xs
     simp only [rD];exact ho
   ·cases h
  ·cases h
 ·cases h
theorem OC{e:CE}{b:Nat}:∀{l:List Rat}{xs:List Value}{j0:Nat},AI w l xs→(∀ i,i<l.length→qD V (.ap 30 e (.i 0 ((j0+i:Nat):Int)))=l.getD i 0)→(∀ x∈l,AR x b) → @AQ (Ab V) ρ M w ((List.range' j0 l.length).map λj:Nat=>aQ (.ap 30 e (.i 0 (j:Int))) b) xs∧xs.length=l.length*4
 | [],xs,j0,h,_,_=>by
  have h:xs=[]:=h;subst h;exact ⟨by simp [AQ],rfl⟩
 | x :: l,xs,j0,⟨a,b',c,d,r,e1,h1,h2,h3⟩,hq,hs=>by
  subst e1;obtain ⟨k1,k2⟩:=OC (j0:=j0+1) h3 (λi hi=>by
   have:=hq (i+1) (by simpa using hi);rw [show j0+(i+1)=j0+1+i by omega] at this;simpa using this) λy hy=>hs y (List.mem_cons_of_mem _ hy)
  have e0:=hq 0 (by simp);rw [List.getD_cons_zero,Nat.add_zero] at e0;refine ⟨?_,by simp [k2]; omega⟩;rw [List.length_cons,List.range'_succ,List.map_cons];unfold AQ;refine ⟨[a,b',c,d],r,rfl,?_,k1⟩;unfold Rp;refine ⟨rfl,?_,a,b',c,d,rfl,?_,?_⟩
  ·rw [e0]
   simpa using hs x (List.mem_cons_self ..)
  ·rw [e0]
   exact h1
  ·rw [e0]
   exact h2
theorem Vp(hF:Bi V F){T et:TypeId}{e:CE}{l:List AV}(h:Ac1 F T e=some (et,l)):Ih et=true∧Tryz.prog.underlying T=some (.slice et)∧(∃ i z,Tryz.prog.info? et=some i∧i.zero=some z∧i.size=4∧z.cells.size=4∧i.bytes≤1048576)∧l.length≤1048576 ∧
  ∀(ρ:Bg)(M:Nat→Prop)(w:World)(v:Value),((Ab V).X e).p M w [v]→∃ A xs k,v = .slice A l.length k∧xs.length=l.length*4 ∧ @AQ (Ab V) ρ M w l xs∧(l.length≠0→∃ g off,A=some ⟨g,off,none⟩∧w.rangeAt g off xs):=by
 unfold Ac1 at h;split at h
 ·rename_i e d
  split at h
  ·rename_i n b hn hb
   split at h
   ·rename_i hc
    simp only [Bool.and_eq_true] at hc;obtain ⟨⟨⟨⟨_,hT⟩,h0⟩,h1⟩,h2⟩:=hc
    cases h
    have h0:=Nat.eq_of_beq_eq_true h0;have h1:=of_decide_eq_true h1;have h2:=of_decide_eq_true h2;have hlen:=hF.len _ (Bu hn);simp only [h0,hF.z0,Int.zero_add] at hlen;have hN:n.2.toNat=(lD V e).length:=by omega
    have hl:(oF e n.2.toNat b).length=(lD V e).length:=by simp [oF,hN]
    obtain ⟨i,z,q1,q2,q3,q4,q5⟩:=Rq;refine ⟨Px,De hT,⟨i,z,q1,q2,q3,by rw [← Array.length_toList,q5]; rfl,q4⟩,by rw [hl]; omega,λρ M w v hv=>?_⟩;obtain ⟨A,c,k1,k2,k3⟩:=hv;have hq:∀ i,i<(lD V e).length→qD V (.ap 30 e (.i 0 ((0+i:Nat):Int)))=(lD V e).getD i 0:=λi _=>by
     simp only [qD,zD,hF.z0];rw [show (0+((0+i:Nat):Int)).toNat=i by omega]
    by_cases h3:(lD V e).length=0
    ·refine ⟨A,[],c,by rw [hl]; exact (List.cons.inj k1).1,by rw [hl,h3]; rfl,?_,λh=>absurd (hl.trans h3) h⟩
     rw [show oF e n.2.toNat b=[] from List.length_eq_zero_iff.1 (hl.trans h3)];simp [AQ]
    ·obtain ⟨g,off,xs,rfl,_,_,hr,hcs⟩:=k3 h3
     obtain ⟨r1,r2⟩:=OC (ρ:=ρ) (M:=M) (e:=e) (b:=b) (j0:=0) hcs hq λx hx=>hF.bd _ (Bu hb) x hx
     refine ⟨_,xs,c,by rw [hl]; exact (List.cons.inj k1).1,by rw [hl]; exact r2,?_,λ_=>⟨g,off,rfl,hr⟩⟩;unfold oF;rw [hN,List.range_eq_range'];exact r1
   ·cases h
  ·cases h
 ·cases h
theorem Fh(hF:Bi V F):@KC (Ab V) (RL F):=by
 refine @KC.mk (Ab V) (RL F) ?_ ?_ ?_ ?_ ?_ ?_ ?_ ?_
 ·exact λk xs r h ρ M w ρv ys _ hv=>GW hF h hv
 ·exact λT j a p h ρ M w g k v hv=>Vo hF h hv
 ·exact λT c p r h ρ M w g cs hr hb=>TJ hF h hr hb
 ·exact λT c p a c' h ρ M w cs v hb hv=>PL hF h hb hv
 ·exact λT x y e c j h=>TT hF h
 ·intro T n l r h ρ M w g cs hm hg hr hc
  simp only [RL] at h;exact @Vs V F ρ M w r T n l h g cs hm hg hr ρ hc
 ·intro T e et c n h
  simp only [RL] at h;exact Xd hF h
 ·intro T e et l h
  simp only [RL] at h;exact Vp hF h
end
section
set_option maxHeartbeats 1600000 in
theorem UB(v:Value)(z:Int)(w:World)(h:Al w v z)(hl:len z.natAbs≤4398046511104):Calls Tryz.prog 93 #[v] w λe w'=>e = .returned (.bool (decide (z=1)))∧Below w.heap.size w w':=by
 obtain ⟨n,hn⟩:∃ n,z.natAbs=n:=⟨_,rfl⟩;obtain ⟨b,hb⟩:∃ b,decide (z<0)=b:=⟨_,rfl⟩;obtain ⟨A,c,rfl,H⟩:=h.parts_ hn hb;rw [hn] at hl;have hm:=H.out.mem.2.2;clear h
 cases b with
 | true =>
  have hz:decide (z=1)=false:=by simp at hb ⊢; omega
  have HZ:=Lib.hid hz;clear hz hb hn hm
  go_enter Tryz.func93,Tryz.ntmps93
  go_wp2
  go_ret
  rw [HZ.out];exact ⟨rfl,Ai _ _⟩
 | false =>
  by_cases h1:len n=1
  ·have h1':(Ae n).length=1:=h1
   obtain ⟨x,hx⟩:∃ x,Ae n=[x]:=List.length_eq_one_iff.1 h1';have hnx:n=x:=by
    have:=Ao n;rw [hx] at this;simp [val] at this;exact this.symm
   obtain ⟨ad,rfl,hlt,hc⟩:=hm.at_ (k:=0) (by omega);have hx0:(Ae n)[0]'(by omega)=n:=by simp [hx,← hnx]
   have hadd:ad.add 0=ad:=by unfold Addr.add; simp
   rw [hx0,hadd] at hc;have hcell:=(World.cell?_alloc_lt w (Obj.cells #[.bool false,.slice (some ad) 1 c] 34) ad hlt).trans hc;have hz:decide (z=1)=decide (n=1):=by
    have:¬ z<0:=by simpa using hb
    rw [decide_eq_decide]; omega
   have HZ:=Lib.hid hz;have HC:=Lib.hid hc;rw [h1];clear hz hb hn hm hx hx0 hnx h1' hc
   go_enter Tryz.func93,Tryz.ntmps93
   go_wp2
   go_ret
   rw [HZ.out];refine ⟨congrArg (λb=>Ending.returned (Value.bool b)) ?_,Ai _ _⟩;show ((n:Int) == 1)=decide (n=1);rw [Bool.eq_iff_iff];simp;omega
  ·have hz:decide (z=1)=false:=by
    simp only [decide_eq_false_iff_not]
    rintro rfl
    apply h1;rw [← hn];decide +kernel
   have HZ:=Lib.hid hz;have hne:((len n:Int) == 1)=false:=by simp; omega
   clear hz hb hn hm
   go_enter Tryz.func93,Tryz.ntmps93
   go_wp2
   go_ret
   rw [HZ.out];exact ⟨rfl,Ai _ _⟩
theorem Abs{x:Int}{i:Nat}{va:Value}{w:World}(ha:(Af x).p va w)(sx:Sm x i)(hi:i≤1000000000):Calls Tryz.prog 93 #[va] w (Aj (Am (.bool (decide (x=1)))) w):=
 (UB va x w ha (Nat.le_trans (sx.len hi) (by decide))).mono λ_ _ ⟨e,hb⟩=>⟨_,e,rfl,hb⟩
variable [Cd]
noncomputable def jH:PE:=⟨93,z1 λa=>some (.val (.bool (decide (a=1))))⟩
theorem mJ:jH.ok:=rF (λ_ _=>by simp [jH,go_sem]) λa r sa e ρ M w va ha=>by cases e; exact ⟨_,Abs ha sa (by decide),λv w' h=>J7 h⟩
noncomputable def WF:PE:=⟨57,z2 λa b=>some (.val (.bool (decide (a=b))))⟩
theorem fQ:WF.ok:=Abb (λ_ _=>by simp [WF,go_sem]) λa b r sa sb e ρ M w va vb ha hb=>by cases e; exact ⟨_,Ab5 ha hb sa sb (by decide) (by decide),λv w' h=>J7 h⟩
noncomputable def Acm:List PE:=jH :: WF :: Y4
theorem pL:Ke (Gr Acm):=Ox λe he=>by
 rcases List.mem_cons.1 he with rfl | he
 ·exact mJ
 rcases List.mem_cons.1 he with rfl | he
 ·exact fQ
 ·exact OU e he
end
def Cn(l:List Rat):Nat→Rat
 | 0=>gG l
 | k+1=>Cn l k / (((l.getD k 0 / Cn l k).den:Int):Rat)
def Eu(l:List Rat):Rat:=Cn l l.length
def Cj(l:List Rat):List Rat:=l.map λx=>x / Eu l
structure Ei (D:Int) (s:Nat) (l:List Rat):Prop where
 ne:D≠0
 sd:Sm D s
 el:∀ x∈l,∃ z:Int,x*(D:Rat)=(z:Rat)∧Sm z s
theorem Xz:∀ l:List Rat,gG l=1 ∨ (gG l∈l∧gG l≠0)
 | []=>.inl rfl
 | x :: l=>by
  unfold gG;split
  ·rcases Xz l with h | ⟨h1,h2⟩
   ·exact .inl h
   ·exact .inr ⟨List.mem_cons_of_mem _ h1,h2⟩
  ·rename_i h
   exact .inr ⟨List.mem_cons_self ..,h⟩
theorem KF(q:Rat):((q.den:Int):Rat)≠0:=λe=>by
 have:=Rat.intCast_inj.1 (show ((q.den:Int):Rat)=((0:Int):Rat) by rw [e]; rfl);have:=q.den_pos;omega
theorem Lz(q:Rat):q*((q.den:Int):Rat)=(q.num:Rat):=by
 have h:=Rat.num_divInt_den q;rw [Rat.divInt_eq_div] at h;have:=KF q
 grind
theorem YW{q:Rat}{G z:Int}(h:q*(G:Rat)=(z:Rat)):(q.den:Int) ∣ G:=by
 have h1:(q.num:Rat)=q*((q.den:Int):Rat):=(Lz q).symm;have h2:((q.num*G:Int):Rat)=((z*(q.den:Int):Int):Rat):=by
  rw [Rat.intCast_mul,Rat.intCast_mul,h1,← h]
  grind
 have h3:=Rat.intCast_inj.1 h2;have hc:Nat.Coprime q.den q.num.natAbs:=q.reduced.symm;have h4:q.den ∣ q.num.natAbs*G.natAbs:=by
  rw [← Int.natAbs_mul,h3,Int.natAbs_mul];exact ⟨z.natAbs,by simp [Nat.mul_comm]⟩
 exact Int.ofNat_dvd_left.2 (hc.dvd_of_dvd_mul_left h4)
theorem Aet{a b:Int}{s:Nat}(h:a.natAbs≤b.natAbs)(hb:Sm b s):Sm a s:=Nat.lt_of_le_of_lt h hb
theorem RU{a b c:Int}{s:Nat}(h:a*c=b)(hc:c≠0)(hb:Sm b s):Sm a s:=by
 refine Aet ?_ hb;rw [← h,Int.natAbs_mul];exact Nat.le_mul_of_pos_right _ (by omega)
theorem sD{q:Rat}{D z:Int}{s:Nat}(h:q*(D:Rat)=(z:Rat))(h0:D≠0)(sz:Sm z s)(sd:Sm D s):AR q s:=by
 have:q=Rat.divInt z D:=by
  rw [Rat.divInt_eq_div,← h];have:(D:Rat)≠0:=λe=>h0 (Rat.intCast_inj.1 (by simpa using e))
  grind
 rw [this];exact AR.of sz sd h0
section
variable {D : Int} {s : Nat} {l : List Rat}
theorem Ei.rsm(h:Ei D s l){x:Rat}(hx:x∈l):AR x s:=by
 obtain ⟨z,h1,h2⟩:=h.el x hx;exact sD h1 h.ne h2 h.sd
theorem Ei.at_(h:Ei D s l)(k:Nat):∃ z:Int,l.getD k 0*(D:Rat)=(z:Rat)∧Sm z s:=by
 by_cases hk:k<l.length
 ·rw [List.getD_eq_getElem?_getD,List.getElem?_eq_getElem hk]
  exact h.el _ (List.getElem_mem hk)
 ·rw [List.getD_eq_getElem?_getD,List.getElem?_eq_none (by omega)]
  exact ⟨0,by simp,by unfold Sm; simp; exact Nat.pow_pos (by decide)⟩
theorem Jg(h:Ei D s l):∀ k,∃ G:Int,G≠0∧Sm G s∧Cn l k*(D:Rat)=(G:Rat)∧∀ j,j<k→∃ w:Int,l.getD j 0 / Cn l k=(w:Rat)∧Sm w s
 | 0=>by
  unfold Cn
  rcases Xz l with h1 | ⟨h1,h2⟩
  ·exact ⟨D,h.ne,h.sd,by rw [h1,Rat.one_mul],λj hj=>absurd hj (Nat.not_lt_zero j)⟩
  ·obtain ⟨z,h3,h4⟩:=h.el _ h1
   refine ⟨z,λe=>?_,h4,h3,λj hj=>absurd hj (Nat.not_lt_zero j)⟩;rw [e] at h3
   rcases Rat.mul_eq_zero.1 h3 with h5 | h5
   ·exact h2 h5
   ·exact h.ne (Rat.intCast_inj.1 (by simpa using h5))
 | k+1=>by
  obtain ⟨G,g0,gs,hG,hw⟩:=Jg h k;have hD:(D:Rat)≠0:=λe=>h.ne (Rat.intCast_inj.1 (by simpa using e))
  have hGr:(G:Rat)≠0:=λe=>g0 (Rat.intCast_inj.1 (by simpa using e))
  have hU:Cn l k≠0:=λe=>by rw [e,Rat.zero_mul] at hG; exact hGr hG.symm
  obtain ⟨z,hz,zs⟩:=h.at_ k;generalize hq:l.getD k 0 / Cn l k=q;have hqG:q*(G:Rat)=(z:Rat):=by
   rw [← hq,← hz,← hG]
   grind
  obtain ⟨G',hG'⟩:=YW hqG;have hd0:=KF q;have hd1:(q.den:Int)≠0:=by have:=q.den_pos; omega
  have g1:G'≠0:=λe=>by rw [e,Int.mul_zero] at hG'; exact g0 hG'
  have hU':Cn l (k+1)=Cn l k / ((q.den:Int):Rat):=by
   show Cn l k / (((l.getD k 0 / Cn l k).den:Int):Rat)=_;rw [hq]
  have hGc:(G:Rat)=((q.den:Int):Rat)*(G':Rat):=by rw [hG',Rat.intCast_mul]
  refine ⟨G',g1,RU (c:=(q.den:Int)) (by rw [hG',Int.mul_comm]) hd1 gs,?_,λj hj=>?_⟩
  ·rw [hU']
   have:=hG;rw [hGc] at this
   grind
  ·have fin:∀ w:Int,l.getD j 0 / Cn l (k+1)=(w:Rat)→Sm w s:=λw e=>by
    obtain ⟨zj,hzj,zjs⟩:=h.at_ j;refine RU (c:=G') (b:=zj) ?_ g1 zjs;refine Rat.intCast_inj.1 ?_;rw [Rat.intCast_mul,← e,← hzj,hU'];have:=hG;rw [hGc] at this
    grind
   by_cases e:j=k
   ·subst e
    have:l.getD j 0 / Cn l (j+1)=(q.num:Rat):=by
     rw [hU',← Lz q];have h5:l.getD j 0=q*Cn l j:=by rw [← hq]; grind
     rw [h5]
     grind
    exact ⟨q.num,this,fin _ this⟩
   ·obtain ⟨w,hw1,_⟩:=hw j (by omega)
    have:l.getD j 0 / Cn l (k+1)=((w*(q.den:Int):Int):Rat):=by
     rw [hU',Rat.intCast_mul,← hw1]
     grind
    exact ⟨_,this,fin _ this⟩
theorem Qg(h:Ei D s l)(k:Nat):Cn l k≠0:=λe=>by
 obtain ⟨G,g0,_,hG,_⟩:=Jg h k;rw [e,Rat.zero_mul] at hG;exact g0 (Rat.intCast_inj.1 (by simpa using hG.symm))
theorem Fv(h:Ei D s l)(k:Nat):AR (Cn l k) s:=by
 obtain ⟨G,g0,gs,hG,_⟩:=Jg h k;exact sD hG h.ne gs h.sd
theorem eG(h:Ei D s l){x:Rat}(hx:x∈Cj l):∃ w:Int,x=(w:Rat)∧Sm w s:=by
 obtain ⟨y,hy,rfl⟩:=List.mem_map.1 hx;obtain ⟨j,hj,rfl⟩:=List.getElem_of_mem hy;obtain ⟨G,_,_,_,hw⟩:=Jg h l.length;obtain ⟨w,h1,h2⟩:=hw j hj;rw [List.getD_eq_getElem?_getD,List.getElem?_eq_getElem hj] at h1;exact ⟨w,h1,h2⟩
end
end Go.Proofs.YtdopbgnkneeceaaGreat
