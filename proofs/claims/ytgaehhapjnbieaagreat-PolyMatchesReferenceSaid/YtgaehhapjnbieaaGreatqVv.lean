/- An abstract machine: contracts of functions, and loops. -/
import Derived.Test.YtgaehhapjnbieaaGreatqVm
set_option linter.unusedSectionVars false
set_option linter.unusedVariables false
set_option linter.unusedSimpArgs false
set_option maxRecDepth 100000
namespace Go.Proofs.YtgaehhapjnbieaaGreat
open Go.RowKit
abbrev B4:B6:=λ_=>none
section
variable [Dn]
noncomputable def Dz(fn:Func)(s:Fm):Option AV:=match Ew s fn.results.toList with
 | some l=>match vI l with
  | some r=>DD (λ_=>none) r
  | none=>none
 | none=>none
def Q0(W0:World)(M0:Nat→Prop)(s:Fm)(ρ:B6)(M:Nat→Prop)(a:Act)(w:World):Prop:=FS (λb=>W0.heap.size≤b) W0 B4 M0 [] 16 s ρ M a w
def Ajm(fn:Func)(r:AV)(W0:World)(M0:Nat→Prop)(e:Exit)(a:Act)(w:World):Prop:=(e = .normal ∨ e = .ret)∧∃ s ρ M,Q0 W0 M0 s ρ M a w∧Dz fn s=some r
theorem EI{f:Nat}{fn:Func}{c:Code}{xs xs':List AV}{r:AV}{ρ:B6}{M:Nat→Prop}{w:World}{vs:List Value}(hf:Tryz.prog.funcs[f]? = some fn)(hb:fn.body=some c)(hx:Gg (λ_=>none) xs=some xs')(hlen:xs'.length≤fn.ntmps)(hbnd:∀ b,M b→b<w.heap.size)(hv:Cz ρ M w xs vs)
  (h:∀ a,Q0 w M ⟨xs' ++ List.replicate (fn.ntmps - xs'.length) (.val undef),[],16,[]⟩ B4 M a w→c.wp Tryz.prog (Ajm fn r w M) a w) :
  Calls Tryz.prog f vs.toArray w λe w'=>∃ v,e = .returned v∧RV ρ M w' r v∧Below w.heap.size w w':=by
 have hv:Cz B4 M w xs' vs:=NP (σ:=λ_=>none) (λ_ _ _ e=>by cases e) (λ_ h=>h) hx hv;refine calls_of_wp hf hb (Code.wp_mono ?_ (h { tmps:=vs.toArray ++ Array.replicate (fn.ntmps - vs.toArray.size) undef,defers:=[] } ?_))
 ·intro e a' w' ⟨he,s,ρ',M',hF,hr⟩
  unfold Dz at hr;split at hr
  ·rename_i l hl
   split at hr
   ·rename_i r0 hr0
    obtain ⟨v,e1,e2⟩:=G6 hF (λ_ h=>h) hl hr0;have e3:RV ρ M w' r v:=YB (σ:=λ_=>none) (λ_ _ _ e=>by cases e) hF.sup hr e2;have hfin:a'.defers=[]∧∃ v,(results fn a'.tmps).run Tryz.prog w' = .ok v w'∧∃ u,Ending.returned v = .returned u∧RV ρ M w' r u∧Below w.heap.size w w':=⟨hF.defers,v,e1,v,rfl,e3,⟨hF.fr.os,hF.fr.tape,hF.fr.output,hF.fr.size,λb hb=>hF.fr.keep b hb (by omega)⟩⟩
    rcases he with rfl | rfl
    ·exact hfin
    ·exact hfin
   ·cases hr
  ·cases hr
 ·have hvl:vs.length=xs'.length:=hv.len
  refine ⟨by simp [hvl],rfl,λt x hx=>?_,⟨λo b e=>(by cases e),λo o' b b' g c c' e=>(by cases e)⟩,λo p e=>(by cases e),Nat.le_refl _,hbnd,QS.refl _ _,Tr.refl _ _ _,λ_ h=>h,λ_ h=>.inl h,λo p e=>.inl e,λo _ _=>⟨rfl,λ_ _ _ e=>(by cases e)⟩⟩;have hx:(xs' ++ List.replicate (fn.ntmps - xs'.length) (.val undef))[t]? = some x:=hx;show ∃ v,(vs.toArray ++ Array.replicate (fn.ntmps - vs.toArray.size) undef)[t]? = some v∧_;rw [List.getElem?_append] at hx;split at hx
  ·rename_i hlt
   obtain ⟨v,e,k⟩:=hv.get hx;exact ⟨v,by rw [Array.getElem?_append_left (by simp [hvl,hlt])]; simpa using e,k.rv⟩
  ·rename_i hge
   rw [List.getElem?_replicate] at hx;split at hx
   ·cases hx
    refine ⟨undef,?_,rfl⟩;rw [Array.getElem?_append_right (by simp [hvl]; omega),Array.getElem?_replicate,if_pos];simp [hvl];omega
   ·cases hx
end
section
variable {E : Dn} {T : Tb} {pl : List Nat} {n : Nat} {c : Code} {s : Fm} {W0 : World} {M0 : Nat → Prop} {ρ : B6} {M : Nat → Prop} {a : Act} {w : World} {Q : Exit → Act → World → Prop}
theorem CH{γ:Type}(μ:γ→Nat)(V:γ→VL)(I:γ→Prop)(sI:Fm)(round:∀ g,I g→∀ ρ M a w,@Q0 (Ae (V g)) W0 M0 sI ρ M a w→c.wp Tryz.prog (Exit.then (λa' w'=>∃ g' ρ' M',I g'∧μ g'<μ g ∧ @Q0 (Ae (V g')) W0 M0 sI ρ' M' a' w') Q) a w)
  (g:γ) (hI:I g) (hF:@Q0 (Ae (V g)) W0 M0 sI ρ M a w):(Code.loop c).wp Tryz.prog Q a w:=by
 refine DI (λg a w=>I g∧∃ ρ M,@Q0 (Ae (V g)) W0 M0 sI ρ M a w) μ ?_ g ⟨hI,ρ,M,hF⟩;intro g a w ⟨hI,ρ,M,hF⟩;refine Code.wp_mono ?_ (round g hI ρ M a w hF);intro e a' w' he
 cases e <;> first | exact he | skip
 obtain ⟨g',ρ',M',h1,h2,h3⟩:=he;exact ⟨g',⟨h1,ρ',M',h3⟩,h2⟩
theorem A7{E E':Dn}{s s':Fm}(d:Rd)(hd:M_ E E' d)(hm0:∀ b,M0 b→b<W0.heap.size)(h:Fs d 16 s s'=true)(hb:below 16 s'.H=below 16 s.H)(hF:@Q0 E W0 M0 s ρ M a w):∃ ρ' M',@Q0 E' W0 M0 s' ρ' M' a w:=
 ⟨_,_,FS.move hd (λo p e=>by cases e) hm0 (.inr λb h=>.inl h) h hb hF⟩
end
def q2(k lim:Nat)(bnd:Nat→Nat→Nat):List AV→Option AV
 | [x,y]=>match Nb x,Nb y with
  | some p,some q=>if Nat.ble p.2 lim && Nat.ble q.2 lim then some (aQ (.ap k p.1 q.1) (bnd p.2 q.2)) else none
  | _,_=>none
 | _=>none
def q1(k lim:Nat)(bnd:Nat→Nat):List AV→Option AV
 | [x]=>match Nb x with
  | some p=>if Nat.ble p.2 lim then some (aQ (.ap k p.1 (.lit 0)) (bnd p.2)) else none
  | none=>none
 | _=>none
def qs1(lim:Nat):List AV→Option AV
 | [x]=>match Nb x with
  | some p=>if Nat.ble p.2 lim then some (aS p.1) else none
  | none=>none
 | _=>none
def qs2(lim:Nat):List AV→Option AV
 | [x,y]=>match Nb x,Nb y with
  | some p,some q=>if Nat.ble p.2 lim && Nat.ble q.2 lim then some (aS (.ap 32 p.1 q.1)) else none
  | _,_=>none
 | _=>none
def UW(g h:List AV→Option AV):List AV→Option AV:=λxs=>match g xs with
 | some r=>some r
 | none=>h xs
def qw(F:Fa):List AV→Option AV
 | [x]=>match Ij x with
  | some i=>if smI i.2 then some (aQ (.ap 37 (.i i.1 i.2) (.lit 0)) 2) else none
  | none=>none
 | _=>none
theorem mM(x y:Rat):DR (x - y) 0=DR x y:=by
 unfold DR
 by_cases h1:x<y
 ·have:x - y<0:=by grind
  simp [h1,this]
 ·by_cases h2:x=y
  ·subst h2
   have:x - x=0:=by grind
   simp [this]
  ·have h3:¬ x - y<0:=by grind
   have h4:¬ x - y=0:=by grind
   simp [h1,h2,h3,h4]
section
variable {V : VL} {F : Fa} {f k lim : Nat}
theorem Ed{E:Dn}{g h:List AV→Option AV}(hg:@PE.ok E ⟨f,g⟩)(hh:@PE.ok E ⟨f,h⟩):@PE.ok E ⟨f,UW g h⟩:=by
 intro xs r e;have e:UW g h xs=some r:=e;unfold UW at e;split at e
 ·rename_i r' hr
  cases e
  exact hg xs r hr
 ·exact hh xs r e
theorem VN{bnd:Nat→Nat→Nat}(pl:Br f)(h:∀ a b i j va vb w,(As (qD V a)).p va w→(As (qD V b)).p vb w→At (qD V a) i→At (qD V b) j→i≤lim→j≤lim→Calls Tryz.prog f #[va,vb] w (Ak (As (qD V (.ap k a b))) w)∧At (qD V (.ap k a b)) (bnd i j)):@PE.ok (Ae V) ⟨f,q2 k lim bnd⟩:=by
 intro xs r e;change q2 k lim bnd xs=some r at e;refine ⟨pl,λρ M w vs _ hv=>?_⟩;unfold q2 at e;split at e
 ·rename_i x y
  split at e
  ·rename_i p q hp hq
   split at e
   ·rename_i hc
    rw [Bool.and_eq_true] at hc
    cases e
    obtain ⟨va,_,rfl,h1,vb,_,rfl,h2,h3⟩:=hv;have h3:_=[]:=h3;subst h3;obtain ⟨a1,a2⟩:=Df hp (@Co.rv (Ae V) ρ M w _ _ h1);obtain ⟨b1,b2⟩:=Df hq (@Co.rv (Ae V) ρ M w _ _ h2);obtain ⟨hc,hs⟩:=h p.1 q.1 p.2 q.2 va vb w a1 b1 a2 b2 (Nat.le_of_ble_eq_true hc.1) (Nat.le_of_ble_eq_true hc.2);exact Calls.mono hc λe w' ⟨v,e1,e2,e3⟩=>⟨v,e1,@Co.rv (Ae V) ρ M w' _ _ (Cp e2 hs),e3⟩
   ·cases e
  ·cases e
 ·cases e
theorem AhB{bnd:Nat→Nat}(pl:Br f)(h:∀ a i va w,(As (qD V a)).p va w→At (qD V a) i→i≤lim→Calls Tryz.prog f #[va] w (Ak (As (qD V (.ap k a (.lit 0)))) w)∧At (qD V (.ap k a (.lit 0))) (bnd i)):@PE.ok (Ae V) ⟨f,q1 k lim bnd⟩:=by
 intro xs r e;change q1 k lim bnd xs=some r at e;refine ⟨pl,λρ M w vs _ hv=>?_⟩;unfold q1 at e;split at e
 ·rename_i x
  split at e
  ·rename_i p hp
   split at e
   ·rename_i hc
    cases e
    obtain ⟨va,_,rfl,h1,h3⟩:=hv;have h3:_=[]:=h3;subst h3;obtain ⟨a1,a2⟩:=Df hp (@Co.rv (Ae V) ρ M w _ _ h1);obtain ⟨hc,hs⟩:=h p.1 p.2 va w a1 a2 (Nat.le_of_ble_eq_true hc);exact Calls.mono hc λe w' ⟨v,e1,e2,e3⟩=>⟨v,e1,@Co.rv (Ae V) ρ M w' _ _ (Cp e2 hs),e3⟩
   ·cases e
  ·cases e
 ·cases e
theorem Ahi{ρ:B6}{M:Nat→Prop}{w:World}{q:CE}{v:Value}(h:(Ap (.int .i64 (DR (qD V q) 0))).p v w):@RV (Ae V) ρ M w (aS q) v:=by
 have h:v = .int .i64 (DR (qD V q) 0):=h;show @Rp (Ae V) ρ M w (aS q) [v];unfold Rp;exact ⟨rfl,by rw [h]; rfl⟩
theorem tN(pl:Br f)(h:∀ a i va w,(As (qD V a)).p va w→At (qD V a) i→i≤lim→Calls Tryz.prog f #[va] w (Ak (Ap (.int .i64 (DR (qD V a) 0))) w)):@PE.ok (Ae V) ⟨f,qs1 lim⟩:=by
 intro xs r e;change qs1 lim xs=some r at e;refine ⟨pl,λρ M w vs _ hv=>?_⟩;unfold qs1 at e;split at e
 ·rename_i x
  split at e
  ·rename_i p hp
   split at e
   ·rename_i hc
    cases e
    obtain ⟨va,_,rfl,h1,h3⟩:=hv;have h3:_=[]:=h3;subst h3;obtain ⟨a1,a2⟩:=Df hp (@Co.rv (Ae V) ρ M w _ _ h1);exact Calls.mono (h p.1 p.2 va w a1 a2 (Nat.le_of_ble_eq_true hc)) λe w' ⟨v,e1,e2,e3⟩=>⟨v,e1,Ahi e2,e3⟩
   ·cases e
  ·cases e
 ·cases e
theorem uK(pl:Br f)(h:∀ a b i j va vb w,(As (qD V a)).p va w→(As (qD V b)).p vb w→At (qD V a) i→At (qD V b) j→i≤lim→j≤lim→Calls Tryz.prog f #[va,vb] w (Ak (Ap (.int .i64 (DR (qD V a) (qD V b)))) w)):@PE.ok (Ae V) ⟨f,qs2 lim⟩:=by
 intro xs r e;change qs2 lim xs=some r at e;refine ⟨pl,λρ M w vs _ hv=>?_⟩;unfold qs2 at e;split at e
 ·rename_i x y
  split at e
  ·rename_i p q hp hq
   split at e
   ·rename_i hc
    rw [Bool.and_eq_true] at hc
    cases e
    obtain ⟨va,_,rfl,h1,vb,_,rfl,h2,h3⟩:=hv;have h3:_=[]:=h3;subst h3;obtain ⟨a1,a2⟩:=Df hp (@Co.rv (Ae V) ρ M w _ _ h1);obtain ⟨b1,b2⟩:=Df hq (@Co.rv (Ae V) ρ M w _ _ h2);refine Calls.mono (h p.1 q.1 p.2 q.2 va vb w a1 b1 a2 b2 (Nat.le_of_ble_eq_true hc.1) (Nat.le_of_ble_eq_true hc.2)) λe w' ⟨v,e1,e2,e3⟩=>⟨v,e1,Ahi ?_,e3⟩
    have hq:qD V (.ap 32 p.1 q.1)=qD V p.1 - qD V q.1:=by simp only [qD]
    rw [hq,mM];exact e2
   ·cases e
  ·cases e
 ·cases e
end
noncomputable def AfY:PE:=⟨72,UW vH.g (q2 31 100000000 λi j=>i+j+1)⟩
noncomputable def Agk:PE:=⟨57,UW AbA.g (q2 32 100000000 λi j=>i+j+1)⟩
noncomputable def Ah1:PE:=⟨58,UW uT.g (q2 33 200000000 λi j=>i+j)⟩
noncomputable def Ahy:PE:=⟨102,UW rX.g (q1 34 200000000 λi=>i)⟩
noncomputable def Aaf:PE:=⟨100,UW X_.g (qs1 200000000)⟩
noncomputable def Ag6:PE:=⟨84,UW zG.g (qs2 200000000)⟩
noncomputable def Agu:PE:=⟨40,UW Acg.g (q2 31 100000000 λi j=>i+j+1)⟩
noncomputable def AhV:PE:=⟨42,UW Abw.g (q2 33 100000000 λi j=>i+j)⟩
noncomputable def Ago:PE:=⟨41,UW pL.g (q1 34 100000000 λi=>i)⟩
noncomputable def AaM:PE:=⟨48,UW Zu.g (qs1 100000000)⟩
noncomputable def AhL:PE:=⟨32,UW sH.g (qs2 140000000)⟩
noncomputable def gS(F:Fa):PE:=⟨63,UW UR.g (qw F)⟩
section
variable {V : VL} {F : Fa}
theorem uE:@PE.ok (Ae V) AfY:=Ed (@Xa (Ae V)) (VN (λ_ _=>by simp [go_sem]) λa b i j va vb w ha hb sa sb hi hj=>by simp only [qD]; exact ⟨Ahp ha hb sa sb hi hj,sa.add sb⟩)
theorem rZ:@PE.ok (Ae V) Agk:=Ed (@Xj (Ae V)) (VN (λ_ _=>by simp [go_sem]) λa b i j va vb w ha hb sa sb hi hj=>by simp only [qD]; exact ⟨Ahh ha hb sa sb hi hj,sa.sub sb⟩)
theorem xW:@PE.ok (Ae V) Ah1:=Ed (@Wv (Ae V)) (VN (λ_ _=>by simp [go_sem]) λa b i j va vb w ha hb sa sb hi hj=>by simp only [qD]; exact ⟨cW ha hb sa sb hi hj,sa.mul sb⟩)
theorem uI:@PE.ok (Ae V) Ahy:=Ed (@WD (Ae V)) (AhB (λ_ _=>by simp [go_sem]) λa i va w ha sa hi=>by simp only [qD]; exact ⟨Ahd ha sa hi,sa.neg⟩)
theorem lG:@PE.ok (Ae V) Aaf:=Ed (@QJ (Ae V)) (tN (λ_ _=>by simp [go_sem]) λa i va w ha sa hi=>SU ha sa hi)
theorem wB:@PE.ok (Ae V) Ag6:=Ed (@U5 (Ae V)) (uK (λ_ _=>by simp [go_sem]) λa b i j va vb w ha hb sa sb hi hj=>AhF ha hb sa sb hi hj)
theorem tB:@PE.ok (Ae V) Agu:=Ed (@V8 (Ae V)) (VN (λ_ _=>by simp [go_sem]) λa b i j va vb w ha hb sa sb hi hj=>by simp only [qD]; exact ⟨AhR ha hb sa sb (by omega) (by omega),sa.add sb⟩)
theorem xM:@PE.ok (Ae V) AhV:=Ed (@VH (Ae V)) (VN (λ_ _=>by simp [go_sem]) λa b i j va vb w ha hb sa sb hi hj=>by simp only [qD]; exact ⟨Agx ha hb sa sb (by omega) (by omega),sa.mul sb⟩)
theorem AaN:@PE.ok (Ae V) Ago:=Ed (@Vm (Ae V)) (AhB (λ_ _=>by simp [go_sem]) λa i va w ha sa hi=>by simp only [qD]; exact ⟨Ahm ha sa (by omega),sa.neg⟩)
theorem nA:@PE.ok (Ae V) AaM:=Ed (@Q7 (Ae V)) (tN (λ_ _=>by simp [go_sem]) λa i va w ha sa hi=>Ab8 ha sa (by omega))
theorem Aci:@PE.ok (Ae V) AhL:=Ed (@Wa (Ae V)) (uK (λ_ _=>by simp [go_sem]) λa b i j va vb w ha hb sa sb hi hj=>AfX ha hb sa sb hi hj)
theorem Yl(hF:AP V F):@PE.ok (Ae V) (gS F):=Ed (@OI (Ae V)) (by
 intro xs r e;change qw F xs=some r at e;refine ⟨λ_ _=>by simp [go_sem],λρ M w vs _ hv=>?_⟩;unfold qw at e;split at e
 ·rename_i x
  split at e
  ·rename_i i hi
   split at e
   ·rename_i hc
    cases e
    obtain ⟨va,_,rfl,h1,h3⟩:=hv;have h3:_=[]:=h3;subst h3;have hva:=BV hF hi h1;subst hva;unfold smI at hc;rw [Bool.and_eq_true] at hc;have c1:=of_decide_eq_true hc.1;have c2:=of_decide_eq_true hc.2;have b:=hF.sm i.1;have hz:iD V i=V.z i.1+i.2:=rfl;have hq:qD V (.ap 37 (.i i.1 i.2) (.lit 0))=((iD V i:Int):Rat):=by simp only [qD]; rfl
    refine Calls.mono (fG (iD V i) (by omega) (by omega) rfl) λe w' ⟨v,e1,e2,e3⟩=>⟨v,e1,@Co.rv (Ae V) ρ M w' _ _ (Cp (by rw [hq]; exact e2) ?_),e3⟩
    rw [hq];exact At.whole (i:=1) (by unfold Sm; omega)
   ·cases e
  ·cases e
 ·cases e)
end
noncomputable def tY(F:Fa):List PE:=[AfY,Ah1,Agk,AhL,Aaf,AaM,Agu,AhV,gS F,Ag6,Ahy,Ago] ++ WV
theorem Wy{V:VL}{F:Fa}(hF:AP V F){l:List PE}(hl:∀ e∈l,@PE.ok (Ae V) e):@LO (Ae V) (Ke (l ++ tY F)):=@Q8 (Ae V) _ λe he=>by
 rcases List.mem_append.1 he with he | he
 ·exact hl e he
 ·rcases List.mem_append.1 he with he | he
  ·simp only [List.mem_cons,List.not_mem_nil,or_false] at he
   rcases he with rfl | rfl | rfl | rfl | rfl | rfl | rfl | rfl | rfl | rfl | rfl | rfl
   ·exact uE
   ·exact xW
   ·exact rZ
   ·exact Aci
   ·exact lG
   ·exact nA
   ·exact tB
   ·exact xM
   ·exact Yl hF
   ·exact wB
   ·exact uI
   ·exact AaN
  ·exact @QI (Ae V) e he
inductive JX where
 | sq (c:Code)
 | bk (i:Nat)
inductive Ex where
 | nor
 | ret
 | ext (m:Nat)
def Ex.e:Ex→Exit
 | .nor=>.normal
 | .ret=>.ret
 | .ext m=>.exit m
inductive Yw where
 | loop (b:Code) (k:List JX) (s:Fm)
 | done (e:Ex) (s:Fm)
def Z_:List JX→(Exit→Act→World→Prop)→Exit→Act→World→Prop
 | [],Q=>Q
 | .sq c :: k,Q=>Exit.then (c.wp Tryz.prog (Z_ k Q)) (Z_ k Q)
 | .bk i :: k,Q=>Exit.inBlock i (Z_ k Q)
inductive Cf where
 | run (c:Code)
 | at_ (e:Ex)
noncomputable def AQ(T:Tb)(pl:List Nat)(m:Nat):Nat→Cf→List JX→Fm→Option Yw
 | 0,_,_,_=>none
 | n+1,cf,k,s=>match cf with
  | .run c=>(match c with
   | .skip=>AQ T pl m n (.at_ .nor) k s
   | .region _ ops dr=>(match NW T (orC T.call (EQ pl (DW T pl m))) dr ops s with
    | some s'=>AQ T pl m n (.at_ .nor) k s'
    | none=>none)
   | .seq x y=>AQ T pl m n (.run x) (.sq y :: k) s
   | .cond (.tmp t) x y=>(match s.tm[t]? with
    | some (.val (.bool true))=>AQ T pl m n (.run x) k s
    | some (.val (.bool false))=>AQ T pl m n (.run y) k s
    | _=>none)
   | .block i x=>AQ T pl m n (.run x) (.bk i :: k) s
   | .loop b=>some (.loop b k s)
   | .exit i=>AQ T pl m n (.at_ (.ext i)) k s
   | .ret=>AQ T pl m n (.at_ .ret) k s
   | _=>none)
  | .at_ e=>match k with
   | []=>some (.done e s)
   | .sq c :: k=>(match e with
    | .nor=>AQ T pl m n (.run c) k s
    | e=>AQ T pl m n (.at_ e) k s)
   | .bk i :: k=>(match e with
    | .ext j=>if Nat.beq j i then AQ T pl m n (.at_ .nor) k s else AQ T pl m n (.at_ (.ext j)) k s
    | e=>AQ T pl m n (.at_ e) k s)
section
variable {E : Dn} {T : Tb} {pl : List Nat} {W0 : World} {M0 : Nat → Prop} {Q : Exit → Act → World → Prop}
def holds(Q:Exit→Act→World→Prop)(k:List JX)(a:Act)(w:World):Cf→Prop
 | .run c=>c.wp Tryz.prog (Z_ k Q) a w
 | .at_ e=>Z_ k Q e.e a w
def ZC(E:Dn)(W0:World)(M0:Nat→Prop)(Q:Exit→Act→World→Prop):Yw→Prop
 | .loop b k s=>∀ ρ M a w,@Q0 E W0 M0 s ρ M a w→(Code.loop b).wp Tryz.prog (Z_ k Q) a w
 | .done e s=>∀ ρ M a w,@Q0 E W0 M0 s ρ M a w→Q e.e a w
theorem R5(hT:@Qv E T)(hpl:∀ f∈pl,Br f){m:Nat}:∀(n:Nat)(cf:Cf)(k:List JX)(s:Fm)(o:Yw),AQ T pl m n cf k s=some o→ZC E W0 M0 Q o→∀ ρ M a w,@Q0 E W0 M0 s ρ M a w→holds Q k a w cf
 | 0,_,_,_,_,h,_,_,_,_,_,_=>by unfold AQ at h; cases h
 | n+1,cf,k,s,o,h,hQ,ρ,M,a,w,hF=>by
  have ih:=R5 (m:=m) hT hpl n;unfold AQ at h
  cases cf with
  | run c =>
   simp only [] at h;show c.wp Tryz.prog (Z_ k Q) a w
   cases c with
   | skip=>exact wp_skip (ih _ _ _ _ h hQ ρ M a w hF)
   | region i ops dr =>
    simp only [] at h;split at h
    ·rename_i s' hs'
     exact @KE E T _ _ W0 B4 M0 [] 16 s s' ρ M a w ops dr (Z_ k Q) hT (@AbR E _ _ (@Qv.call E T hT) (@Hk E T pl hpl m (@P5 E T pl hT hpl m).1)) i hs' (λ_ h=>h) hF λρ' M' a' w' hF'=>ih (.at_ .nor) _ _ _ h hQ ρ' M' a' w' hF'
    ·cases h
   | seq x y=>exact wp_seq (ih (.run x) (.sq y :: k) _ _ h hQ ρ M a w hF)
   | cond t x y =>
    cases t with
    | tmp t =>
     simp only [] at h;obtain ⟨Fsize,Fdef,Fslots,_⟩:=id hF;split at h
     ·rename_i ht
      obtain ⟨v,e1,e2⟩:=Fslots t _ ht;have e2:v = .bool true:=e2;exact wp_cond_true (by rw [CC e1,e2]) (ih (.run x) _ _ _ h hQ ρ M a w hF)
     ·rename_i ht
      obtain ⟨v,e1,e2⟩:=Fslots t _ ht;have e2:v = .bool false:=e2;exact wp_cond_false (by rw [CC e1,e2]) (ih (.run y) _ _ _ h hQ ρ M a w hF)
     ·cases h
    | _=>cases h
   | block i x=>exact wp_block (ih (.run x) (.bk i :: k) _ _ h hQ ρ M a w hF)
   | loop b=>cases h; exact hQ ρ M a w hF
   | exit i=>exact wp_exit (ih (.at_ (.ext i)) _ _ _ h hQ ρ M a w hF)
   | ret=>exact wp_ret (ih (.at_ .ret) _ _ _ h hQ ρ M a w hF)
   | _=>cases h
  | at_ e =>
   simp only [] at h;show Z_ k Q e.e a w
   cases k with
   | nil=>cases h; exact hQ ρ M a w hF
   | cons f k =>
    cases f with
    | sq c =>
     cases e with
     | nor=>exact ih (.run c) k s o h hQ ρ M a w hF
     | ret=>exact ih (.at_ .ret) k s o h hQ ρ M a w hF
     | ext m=>exact ih (.at_ (.ext m)) k s o h hQ ρ M a w hF
    | bk i =>
     cases e with
     | nor=>exact ih (.at_ .nor) k s o h hQ ρ M a w hF
     | ret=>exact ih (.at_ .ret) k s o h hQ ρ M a w hF
     | ext m =>
      simp only [] at h;show (if m=i then Z_ k Q .normal a w else Z_ k Q (.exit m) a w);split at h
      ·rename_i hm
       rw [if_pos (Nat.eq_of_beq_eq_true hm)];exact ih (.at_ .nor) k s o h hQ ρ M a w hF
      ·rename_i hm
       rw [if_neg λe=>hm (by rw [e]; exact Nat.beq_refl i)];exact ih (.at_ (.ext m)) k s o h hQ ρ M a w hF
end
def Vi:Code→List JX→Option (Code × List JX)
 | .loop b,k=>some (b,k)
 | .seq x y,k=>match Vi x (.sq y :: k) with
  | some r=>some r
  | none=>Vi y k
 | .block i x,k=>Vi x (.bk i :: k)
 | _,_=>none
def Xo(c:Code)(k:List JX):Code:=match Vi c k with | some r=>r.1 | none=>.skip
def Xp(c:Code)(k:List JX):List JX:=match Vi c k with | some r=>r.2 | none=>[]
def Af:Option Yw→Fm
 | some (.loop _ _ s)=>s
 | some (.done _ s)=>s
 | none=>⟨[],[],0,[]⟩
def lkN:List (Nat × AV)→Nat→AV
 | [],_=>.any
 | x :: l,i=>if Nat.beq x.1 i then x.2 else lkN l i
def wL(l:List (Nat × AV)):Nat→Nat→List AV
 | 0,_=>[]
 | n+1,i=>lkN l i :: wL l n (i+1)
def LS(n:Nat)(l:List (Nat × AV))(H:HP)(nx:Nat):Fm:=⟨wL l n 0,H,nx,[]⟩
def B5(n:Nat)(xs:List AV):Fm:=⟨xs ++ List.replicate (n - xs.length) (.val undef),[],16,[]⟩
section
variable {V V' : VL} {ρ ρ' : B6} {M : Nat → Prop} {w : World} {cs : List Value}
def Le(V V':VL)(p:AV × AV):Prop:=∀(ρ ρ':B6)(M:Nat→Prop)(w:World)(cs:List Value),@Rp (Ae V) ρ M w p.1 cs → @Rp (Ae V') ρ' M w p.2 cs
theorem Cv{k k':Nat}{c c':Int}(h:iD V (k,c)=iD V' (k',c')):Le V V' (aI k c,aI k' c'):=λρ ρ' M w cs r=>by
 unfold Rp at r ⊢;refine ⟨r.1,?_⟩;have h2:=r.2;show (XP.int (zD V' (.i k' c'))).p M w cs;rw [M9,← h];exact h2
theorem MQ{k':Nat}{c c':Int}(h:c=iD V' (k',c')):Le V V' (.val (.int .i64 c),aI k' c'):=λρ ρ' M w cs r=>by
 unfold Rp at r ⊢;obtain ⟨rfl,_⟩:=r;refine ⟨rfl,?_⟩;show (XP.int (zD V' (.i k' c'))).p M w _;rw [M9,← h];rfl
theorem BR{e e':CE}(h:lD V e=lD V' e'):Le V V' (aL e,aL e'):=λρ ρ' M w cs r=>by
 unfold Rp at r ⊢;refine ⟨r.1,?_⟩;have h2:=r.2;show (XP.rats (lD V' e')).p M w cs;rw [← h];exact h2
theorem M8{q q':CE}{n:Nat}(h:qD V q=qD V' q'):Le V V' (aQ q n,aQ q' n):=λρ ρ' M w cs r=>by
 unfold Rp at r ⊢;refine ⟨r.1,?_⟩;have h2:=r.2;show (XP.num (qD V' q') _).p M w cs;rw [← h];exact h2
theorem CU{d:Rd}(h1:∀ p∈d.vs,Le V V' p)(h2:d.ns=[])(h3:d.bs=[])(h4:d.rest=[]):M_ (Ae V) (Ae V') d:=
 ⟨h1,λp hp=>(by rw [h2] at hp; cases hp),λp hp=>(by rw [h3] at hp; cases hp),λp hp=>(by rw [h4] at hp; cases hp)⟩
end
noncomputable def BT(F:Fa)(l:List PE):Tb:=⟨Ke (l ++ tY F),oZ F,noC⟩
theorem Lx{V:VL}{F:Fa}(hF:AP V F){l:List PE}(hl:∀ e∈l,@PE.ok (Ae V) e):@Qv (Ae V) (BT F l):=@Qv.mk (Ae V) _ (Wy hF hl) (dT hF) (@qO (Ae V))
theorem AN{V:VL}{F:Fa}{l:List PE}{m n:Nat}{cf:Cf}{k:List JX}{s:Fm}{W0:World}{M0:Nat→Prop}{Q:Exit→Act→World→Prop}{ρ:B6}{M:Nat→Prop}{a:Act}{w:World}(hF:AP V F)(hl:∀ e∈l,@PE.ok (Ae V) e)(o:Yw)(h:AQ (BT F l) Am m n cf k s=some o)(hS:@Q0 (Ae V) W0 M0 s ρ M a w)(hQ:ZC (Ae V) W0 M0 Q o):holds Q k a w cf:=
 R5 (Lx hF hl) CV n cf k s o h hQ ρ M a w hS
theorem Eg{l:List Rat}{n:Nat}(hn:n≤l.length)(h:∀ i,n≤i→l.getD i 0=0)(ht:n=0 ∨ l.getD (n - 1) 0≠0):l.take n=Cd l:=by
 have hd:l=l.take n ++ l.drop n:=(List.take_append_drop n l).symm;have hz:∀ x∈(l.drop n).reverse,decide (x=0)=true:=λx hx=>by
  obtain ⟨i,hi,e⟩:=List.getElem_of_mem (List.mem_reverse.1 hx);have:=h (n+i) (by omega);rw [List.getElem_drop] at e;rw [List.getD_eq_getElem?_getD,List.getElem?_eq_getElem (by rw [List.length_drop] at hi; omega)] at this;have e2:l[n+i]'(by rw [List.length_drop] at hi; omega)=x:=e;simp only [Option.getD_some] at this;rw [e2] at this;simp [this]
 unfold Cd;have key:l.reverse.dropWhile (λx=>decide (x=0))=(l.take n).reverse:=by
  conv=>lhs; rw [hd,List.reverse_append]
  rw [List.dropWhile_append_of_pos hz]
  rcases ht with rfl | ht
  ·simp
  ·have hn0:0<n:=by
    rcases Nat.eq_zero_or_pos n with rfl | h0
    ·exact absurd (h 0 (Nat.le_refl _)) (by simpa using ht)
    ·exact h0
   have hne:l.take n≠[]:=λe=>by
    have:=congrArg List.length e;rw [List.length_take] at this;have:min n l.length=0:=this;omega
   cases hr:(l.take n).reverse with
   | nil=>rw [List.reverse_eq_nil_iff] at hr; exact absurd hr hne
   | cons x r =>
    have hx:x=l.getD (n - 1) 0:=by
     have h1:(l.take n).reverse[0]? = some x:=by rw [hr]; rfl
     rw [List.getElem?_reverse (by rw [List.length_take]; omega),List.length_take,List.getElem?_take] at h1;rw [show min n l.length - 1 - 0=n - 1 by omega,if_pos (by omega)] at h1;rw [List.getD_eq_getElem?_getD,h1];rfl
    rw [List.dropWhile_cons_of_neg];rw [hx];simpa using ht
 rw [key,List.reverse_reverse]
noncomputable def AcD:Func:=Tryz.f52
noncomputable def vB:=Bw AcD
noncomputable def yY:=Xo vB []
noncomputable def Aeo:List JX:=Xp vB []
def Et(l:List Rat)(n:Nat):VL:=⟨λk=>match k with | 1=>(n:Int) | 2=>(l.length:Int) | _=>0,λk=>match k with | 0=>l | 1=>Cd l | _=>[],λ_=>0,λ_=>[]⟩
def Zt:CE:=.ap 30 (.v 0) (.i 1 (-1))
def JC(i:Nat)(b:Bool):Fa:=⟨[(0,1,-1),(1,2,0)],[(.v 0,2,0)],[(.v 0,i)],[(Zt,b)],[],[],[]⟩
def Ko(i:Nat):Fa:=⟨[(1,0,0),(0,1,0),(1,2,0)],[(.v 0,2,0)],[(.v 0,i)],[],[],[],[]⟩
def IE:Fa:=⟨[(0,1,0),(1,2,0)],[(.v 0,2,0)],[],[],[],[],[]⟩
def Vc:Fm:=LS 22 [(0,aL (.v 0)),(3,aI 1 0)] [] 200000000
noncomputable def cY:=AQ (BT IE []) Am 100 100 (.run vB) [] (B5 22 [aL (.v 0)])
noncomputable def aT:=AQ (BT (JC 200000000 true) []) Am 100 100 (.run yY) [] Vc
noncomputable def Rr:=AQ (BT (JC 200000000 false) []) Am 100 100 (.run yY) [] Vc
noncomputable def QZ:=AQ (BT (Ko 200000000) []) Am 100 100 (.run yY) [] Vc
noncomputable def MC(s:Fm):=AQ (BT IE []) Am 100 100 (.at_ (.ext 0)) Aeo s
theorem Am4:cY=some (.loop yY Aeo (Af cY)):=by kernel_rfl
theorem Aqc:aT=some (.done .nor (Af aT)):=by kernel_rfl
theorem Ase:Rr=some (.done (.ext 0) (Af Rr)):=by kernel_rfl
theorem Apk:QZ=some (.done (.ext 0) (Af QZ)):=by kernel_rfl
theorem Asa:MC (Af Rr)=some (.done .ret (Af (MC (Af Rr)))):=by kernel_rfl
theorem AqM:MC (Af QZ)=some (.done .ret (Af (MC (Af QZ)))):=by kernel_rfl
def AsB(l:List Rat)(n:Nat):Prop:=n≤l.length∧∀ i,n≤i→l.getD i 0=0
section
variable {l : List Rat} {n : Nat}
theorem tK(hl:l.length≤1000000)(hn:n≤l.length)(k:Nat) : -1152921504606846976≤(Et l n).z k∧(Et l n).z k≤1152921504606846976:=by
 show -1152921504606846976≤(match k with | 1=>(n:Int) | 2=>(l.length:Int) | _=>0)∧(match k with | 1=>(n:Int) | 2=>(l.length:Int) | _=>0)≤(1152921504606846976:Int);split <;> omega
theorem Pg(hl:l.length≤1000000)(hn:n≤l.length):AP (Et l n) IE where
 z0:=rfl
 sm:=tK hl hn
 le:=by simp [IE,Et]; omega
 len:=by simp [IE,Et,lD]
 bd:=by simp [IE]
 zr:=by simp [IE]
 rlen:=by simp [IE]
 full:=by simp [IE]
 sum:=by simp [IE]
theorem Aah(hs:∀ x∈l,At x 200000000)(hl:l.length≤1000000):AP (Et l 0) (Ko 200000000) where
 z0:=rfl
 sm:=tK hl (Nat.zero_le _)
 le:=by simp [Ko,Et]
 len:=by simp [Ko,Et,lD]
 bd:=by simpa [Ko,Et,lD] using hs
 zr:=by simp [Ko]
 rlen:=by simp [Ko]
 full:=by simp [Ko]
 sum:=by simp [Ko]
theorem mR(h0:0<n):qD (Et l n) Zt=l.getD (n - 1) 0:=by
 have:((n:Int) + -1).toNat=n - 1:=by omega
 simp [Zt,qD,lD,zD,Et,this]
theorem W2(hs:∀ x∈l,At x 200000000)(hl:l.length≤1000000)(hn:n≤l.length)(h0:0<n){b:Bool}(hb:decide (l.getD (n - 1) 0=0)=b):AP (Et l n) (JC 200000000 b) where
 z0:=rfl
 sm:=tK hl hn
 le:=by simp [JC,Et]; omega
 len:=by simp [JC,Et,lD]
 bd:=by simpa [JC,Et,lD] using hs
 zr:=by
  intro x hx;simp only [JC,List.mem_singleton] at hx;subst hx;rw [mR h0];exact hb
 rlen:=by simp [JC]
 full:=by simp [JC]
 sum:=by simp [JC]
end
def Aab:Rd:=⟨[(aL (.v 0),aL (.v 0)),(aI 2 0,aI 1 0)],[],[],[],[],200000000⟩
def vR:Rd:=⟨[(aL (.v 0),aL (.v 0)),(aI 1 (-1),aI 1 0)],[],[],[],[],200000000⟩
def Wl:Rd:=⟨[(aL (.ap 20 (.v 0) (.i 1 0)),aL (.v 1))],[],[],[],[],400⟩
def J2:Fm:=LS 22 [(2,aL (.v 1))] [] 400
theorem AoS:Fs Aab 16 (Af cY) Vc=true:=by kernel_rfl
theorem Apc:Fs vR 16 (Af aT) Vc=true:=by kernel_rfl
theorem Apf:Fs Wl 16 (Af (MC (Af Rr))) J2=true:=by kernel_rfl
theorem Ama:Fs Wl 16 (Af (MC (Af QZ))) J2=true:=by kernel_rfl
theorem Al8:below 16 Vc.H=below 16 (Af cY).H:=by kernel_rfl
theorem Arc:below 16 Vc.H=below 16 (Af aT).H:=by kernel_rfl
theorem Ao4:below 16 J2.H=below 16 (Af (MC (Af Rr))).H:=by kernel_rfl
theorem AqC:below 16 J2.H=below 16 (Af (MC (Af QZ))).H:=by kernel_rfl
theorem AjX:Dz AcD J2=some (aL (.v 1)):=by kernel_rfl
theorem Abc{l:List Rat}{n:Nat}{W0:World}{M0:Nat→Prop}{ρ:B6}{M:Nat→Prop}{a:Act}{w:World}{s:Fm}(hm0:∀ b,M0 b→b<W0.heap.size)(h:l.take n=Cd l)(h1:Fs Wl 16 s J2=true)(h2:below 16 J2.H=below 16 s.H)(hF:@Q0 (Ae (Et l n)) W0 M0 s ρ M a w):@Ajm (Ae (Et l l.length)) AcD (aL (.v 1)) W0 M0 .ret a w:=by
 obtain ⟨ρ,M,hF⟩:=A7 (E':=Ae (Et l l.length)) Wl (CU (λp hp=>by
  simp only [Wl,List.mem_singleton] at hp;subst hp;exact BR (by simpa [lD,zD,Et] using h)) rfl rfl rfl) hm0 h1 h2 hF
 exact ⟨.inr rfl,_,ρ,M,hF,AjX⟩
theorem Akv{l:List Rat}(hs:∀ x∈l,At x 200000000)(hl:l.length≤1000000){M:Nat→Prop}{w:World}{v:Value}(hm0:∀ b,M b→b<w.heap.size)(hv:(XP.rats l).p M w [v]) :
  Calls Tryz.prog 52 #[v] w λe w'=>∃ u,e = .returned u∧(XP.rats (Cd l)).p M w' [u]∧Below w.heap.size w w':=by
 refine Calls.mono (@EI (Ae (Et l l.length)) _ AcD vB [aL (.v 0)] [aL (.v 0)] (aL (.v 1)) B4 M w [v] Tryz.func52 (by rfl) rfl (by show 1≤22; omega) hm0 ⟨v,[],rfl,Bb hv,rfl⟩ λa hF=>?_) λe w' ⟨u,e1,e2,e3⟩=>⟨u,e1,AL (V:=Et l l.length) (e:=.v 1) (ρ:=B4) e2,e3⟩
 show holds _ [] a w (.run vB);refine AN (V:=Et l l.length) (F:=IE) (Pg hl (Nat.le_refl _)) (λ_ h=>by cases h) _ Am4 hF λρ M' a w' hF=>?_
 obtain ⟨ρ,M',hF⟩:=A7 (E':=Ae (Et l l.length)) Aab (CU (λp hp=>by
  simp only [Aab,List.mem_cons,List.not_mem_nil,or_false] at hp
  rcases hp with rfl | rfl
  ·exact BR rfl
  ·exact Cv rfl) rfl rfl rfl) hm0 AoS Al8 hF
 refine CH (λn=>n) (Et l) (AsB l) Vc ?_ l.length ⟨Nat.le_refl _,λi hi=>by rw [List.getD_eq_getElem?_getD,List.getElem?_eq_none hi]; rfl⟩ hF;intro n ⟨hn,hz⟩ ρ M' a w' hF;show holds _ [] a w' (.run yY)
 by_cases h0:n=0
 ·subst h0
  refine AN (V:=Et l 0) (Aah hs hl) (λ_ h=>by cases h) _ Apk hF λρ M' a w' hF=>?_
  show holds _ Aeo a w' (.at_ (.ext 0));exact AN (V:=Et l 0) (Pg hl hn) (λ_ h=>by cases h) _ AqM hF λρ M' a w' hF=>Abc hm0 (Eg hn hz (.inl rfl)) Ama AqC hF
 ·have h0:0<n:=by omega
  by_cases hb:l.getD (n - 1) 0=0
  ·refine AN (V:=Et l n) (W2 hs hl hn h0 (decide_eq_true hb)) (λ_ h=>by cases h) _ Aqc hF λρ M' a w' hF=>?_
   obtain ⟨ρ,M',hF⟩:=A7 (E':=Ae (Et l (n - 1))) vR (CU (λp hp=>by
    simp only [vR,List.mem_cons,List.not_mem_nil,or_false] at hp
    rcases hp with rfl | rfl
    ·exact BR rfl
    ·exact Cv (by show (n:Int) + -1=((n - 1:Nat):Int)+0; omega)) rfl rfl rfl) hm0 Apc Arc hF
   exact ⟨n - 1,ρ,M',⟨by omega,λi hi=>if e:i=n - 1 then e ▸ hb else hz i (by omega)⟩,by omega,hF⟩
  ·refine AN (V:=Et l n) (W2 hs hl hn h0 (decide_eq_false hb)) (λ_ h=>by cases h) _ Ase hF λρ M' a w' hF=>?_
   show holds _ Aeo a w' (.at_ (.ext 0));exact AN (V:=Et l n) (Pg hl hn) (λ_ h=>by cases h) _ Asa hF λρ M' a w' hF=>Abc hm0 (Eg hn hz (.inr hb)) Apf Ao4 hF
noncomputable def mG:Func:=Tryz.f76
noncomputable def Z7:=Bw mG
noncomputable def yE:=Xo Z7 []
noncomputable def AeY:List JX:=Xp Z7 []
def Cy(f:Nat→Rat)(n j:Nat):List (Option Rat):=(List.range n).map λi=>if i<j then some (f i) else none
def A_(W:VL)(f:Nat→Rat)(n j:Nat):VL:=⟨λk=>match k with | 3=>(j:Int) | 4=>(n:Int) | k=>W.z k,λk=>match k with | 9=>(List.range n).map f | k=>W.l k,W.q,λk=>match k with | 0=>Cy f n j | k=>W.r k⟩
def G3:CE:=.ap 61 (.i 4 0) (.lit 0)
def mQ:CE:=.ap 60 (.v 0) (.lit 0)
def KR:Fa:=⟨[(0,4,0),(4,0,1000000)],[],[],[],[],[],[]⟩
def JH:Fa:=⟨[(0,4,0),(0,3,0),(4,3,0)],[],[],[],[],[],[]⟩
noncomputable def As5:HP:=[(48,some ⟨36,0,[],false,some mQ⟩)]
noncomputable def Wt(c:AV):Fm:=LS 22 [(1,c),(5,.slx 48 G3),(10,aI 4 0),(11,aI 3 0)] As5 400
def Yj:Fm:=LS 22 [(4,aL (.v 9))] [] 600
noncomputable def fD(c:AV):=AQ (BT KR []) Am 100 100 (.run Z7) [] (B5 22 [aI 4 0,c])
noncomputable def aW(F:Fa)(L:List PE)(c:AV):=AQ (BT F L) Am 200 100 (.run yE) [] (Wt c)
noncomputable def Ab7(c:AV):=AQ (BT JH []) Am 100 100 (.run yE) [] (Wt c)
noncomputable def Mj(c:AV):=AQ (BT JH []) Am 100 100 (.at_ (.ext 0)) AeY (Af (Ab7 c))
def KP(P:List (AV × AV)):Rd:=⟨(aI 4 0,aI 4 0) :: (.val (.int .i64 0),aI 3 0) :: P,[(G3,G3)],[(.ap 60 (.ap 40 (.i 4 0) (.lit 0)) (.lit 0),mQ)],[],[],400⟩
def K9(P:List (AV × AV))(q:CE)(b:Nat):Rd:=⟨(aI 4 0,aI 4 0) :: (aI 3 1,aI 3 0) :: P,[(G3,G3)],[(.ap 60 (.ap 41 (.v 0) (.ap 0 (.i 3 0) (.ap 52 q (.lit (b:Int))))) (.lit 0),mQ)],[],[],400⟩
def AbI:Rd:=⟨[],[],[],[(48,G3,mQ,.ap 51 (.v 9) (.lit 0))],[],600⟩
structure Ka (F:Fa) (L:List PE) (P:List (AV × AV)) (c:AV) (q:CE) (b:Nat):Prop where
 id_:Gg (λ_=>none) [aI 4 0,c]=some [aI 4 0,c]
 e0:fD c=some (.loop yE AeY (Af (fD c)))
 er:aW F L c=some (.done .nor (Af (aW F L c)))
 ex:Ab7 c=some (.done (.ext 0) (Af (Ab7 c)))
 ee:Mj c=some (.done .ret (Af (Mj c)))
 m0:Fs (KP P) 16 (Af (fD c)) (Wt c)=true
 mr:Fs (K9 P q b) 16 (Af (aW F L c)) (Wt c)=true
 mx:Fs AbI 16 (Af (Mj c)) Yj=true
 b0:below 16 (Wt c).H=below 16 (Af (fD c)).H
 br:below 16 (Wt c).H=below 16 (Af (aW F L c)).H
 bx:below 16 Yj.H=below 16 (Af (Mj c)).H
theorem AiW:Dz mG Yj=some (aL (.v 9)):=by kernel_rfl
theorem DM{w:World}:∀{l:List Rat}{cs:List Value},AC w (l.map some) cs→AX w l cs
 | [],_,h=>h
 | _ :: _,_,⟨a,b,c,d,r,e,h1,h2,h3⟩=>⟨a,b,c,d,r,e,h1,h2,DM h3⟩
theorem eZ(f:Nat→Rat)(n:Nat):Cy f n 0=List.replicate n none:=by
 apply List.ext_getElem
 ·simp [Cy]
 ·intro i h1 h2
  simp [Cy]
theorem bV(f:Nat→Rat)(n j:Nat):(Cy f n j).set j (some (f j))=Cy f n (j+1):=by
 apply List.ext_getElem
 ·simp [Cy]
 ·intro i h1 h2
  rw [List.getElem_set];simp only [Cy,List.getElem_map,List.getElem_range]
  by_cases h:j=i
  ·subst h
   simp
  ·by_cases h3:i<j
   ·simp [h,h3,show i<j+1 by omega]
   ·simp [h,h3,show ¬ i<j+1 by omega]
theorem cN(f:Nat→Rat)(n:Nat):Cy f n n=((List.range n).map f).map some:=by
 apply List.ext_getElem
 ·simp [Cy]
 ·intro i h1 h2
  have:i<n:=by simpa [Cy] using h1
  simp [Cy,this]
section
variable {W : VL} {f : Nat → Rat} {n : Nat}
theorem Lp(hs:∀ k,-1152921504606846976≤W.z k∧W.z k≤1152921504606846976)(hn:n≤1000000){j:Nat}(hj:j≤n)(k:Nat) : -1152921504606846976≤(A_ W f n j).z k∧(A_ W f n j).z k≤1152921504606846976:=by
 show -1152921504606846976≤(match k with | 3=>(j:Int) | 4=>(n:Int) | k=>W.z k)∧(match k with | 3=>(j:Int) | 4=>(n:Int) | k=>W.z k)≤(1152921504606846976:Int);split
 ·omega
 ·omega
 ·exact hs _
theorem VZ(h0:W.z 0=0)(hs:∀ k,-1152921504606846976≤W.z k∧W.z k≤1152921504606846976)(hn:n≤1000000){j:Nat}(hj:j≤n):AP (A_ W f n j) KR where
 z0:=h0
 sm:=Lp hs hn hj
 le:=by simp [KR,A_,h0]; omega
 len:=by simp [KR]
 bd:=by simp [KR]
 zr:=by simp [KR]
 rlen:=by simp [KR]
 full:=by simp [KR]
 sum:=by simp [KR]
theorem KA(h0:W.z 0=0)(hs:∀ k,-1152921504606846976≤W.z k∧W.z k≤1152921504606846976)(hn:n≤1000000):AP (A_ W f n n) JH where
 z0:=h0
 sm:=Lp hs hn (Nat.le_refl _)
 le:=by simp [JH,A_,h0]
 len:=by simp [JH]
 bd:=by simp [JH]
 zr:=by simp [JH]
 rlen:=by simp [JH]
 full:=by simp [JH]
 sum:=by simp [JH]
theorem KS{F:Fa}{L:List PE}{P:List (AV × AV)}{c:AV}{q:CE}{b:Nat}(R:Ka F L P c q b)(h0:W.z 0=0)(hs:∀ k,-1152921504606846976≤W.z k∧W.z k≤1152921504606846976)(hn:n≤1000000)
  (hP:∀ p∈P,∀ j j',Le (A_ W f n j) (A_ W f n j') p) (hF:∀ j,j<n→AP (A_ W f n j) F) (hL:∀ j,j<n→∀ e∈L,@PE.ok (Ae (A_ W f n j)) e) (hq:∀ j,j<n→qD (A_ W f n j) q=f j)
  {M:Nat→Prop} {w:World} {vs:List Value} (hm0:∀ b,M b→b<w.heap.size) (hv:@Cz (Ae (A_ W f n 0)) B4 M w [aI 4 0,c] vs) :
  Calls Tryz.prog 76 vs.toArray w λe w'=>∃ u,e = .returned u∧(XP.rats ((List.range n).map f)).p M w' [u]∧Below w.heap.size w w':=by
 refine Calls.mono (@EI (Ae (A_ W f n 0)) _ mG Z7 [aI 4 0,c] [aI 4 0,c] (aL (.v 9)) B4 M w vs Tryz.func76 (by rfl) R.id_ (by show 2≤22; omega) hm0 hv λa hS=>?_) λe w' ⟨u,e1,e2,e3⟩=>⟨u,e1,AL (V:=A_ W f n 0) (e:=.v 9) (ρ:=B4) e2,e3⟩
 show holds _ [] a w (.run Z7);refine AN (V:=A_ W f n 0) (VZ h0 hs hn (Nat.zero_le _)) (λ_ h=>by cases h) _ R.e0 hS λρ M' a w' hS=>?_
 obtain ⟨ρ,M',hS⟩:=A7 (E':=Ae (A_ W f n 0)) (KP P) ⟨λp hp=>by
  simp only [KP,List.mem_cons] at hp
  rcases hp with rfl | rfl | hp
  ·exact Cv rfl
  ·exact MQ rfl
  ·exact hP p hp 0 0,λp hp=>by
  simp only [KP,List.mem_singleton] at hp;subst hp;rfl,λp hp M w cs r=>by
  simp only [KP,List.mem_singleton] at hp;subst hp;change AC w (rD (A_ W f n 0) (.ap 40 (.i 4 0) (.lit 0))) cs at r;show AC w (Cy f n 0) cs;rw [eZ];simpa [rD,zD,A_] using r,λp hp=>(by cases hp)⟩ hm0 R.m0 R.b0 hS
 refine CH (λj=>n - j) (A_ W f n) (λj=>j≤n) (Wt c) ?_ 0 (Nat.zero_le _) hS;intro j hj ρ M' a w' hS;show holds _ [] a w' (.run yE)
 by_cases hjn:j<n
 ·refine AN (V:=A_ W f n j) (hF j hjn) (hL j hjn) _ R.er hS λρ M' a w' hS=>?_
  obtain ⟨ρ,M',hS⟩:=A7 (E':=Ae (A_ W f n (j+1))) (K9 P q b) ⟨λp hp=>by
   simp only [K9,List.mem_cons] at hp
   rcases hp with rfl | rfl | hp
   ·exact Cv rfl
   ·exact Cv (by show (j:Int)+1=((j+1:Nat):Int)+0; omega)
   ·exact hP p hp j (j+1),λp hp=>by
   simp only [K9,List.mem_singleton] at hp;subst hp;rfl,λp hp M w cs r=>by
   simp only [K9,List.mem_singleton] at hp;subst hp;change AC w (rD (A_ W f n j) (.ap 41 (.v 0) (.ap 0 (.i 3 0) (.ap 52 q (.lit (b:Int)))))) cs at r;show AC w (Cy f n (j+1)) cs;rw [← bV];simp only [rD] at r;rw [hq j hjn] at r;have hz:(zD (A_ W f n j) (.i 3 0)).toNat=j:=by simp [zD,A_]
   rw [hz] at r;exact r,λp hp=>(by cases hp)⟩ hm0 R.mr R.br hS
  exact ⟨j+1,ρ,M',hjn,by show n - (j+1)<n - j; omega,hS⟩
 ·have hjn:j=n:=by omega
  subst hjn;refine AN (V:=A_ W f j j) (KA h0 hs hn) (λ_ h=>by cases h) _ R.ex hS λρ M' a w' hS=>?_
  show holds _ AeY a w' (.at_ (.ext 0));refine AN (V:=A_ W f j j) (KA h0 hs hn) (λ_ h=>by cases h) _ R.ee hS λρ M' a w' hS=>?_
  obtain ⟨ρ,M',hS⟩:=A7 (E':=Ae (A_ W f j 0)) AbI ⟨λp hp=>(by cases hp),λp hp=>(by cases hp),λp hp=>(by cases hp),λp hp M w g k cs hm hg hr hB hN=>by
   simp only [AbI,List.mem_singleton] at hp;subst hp;have hNj:(Ae (A_ W f j j)).N G3=j:=by show (zD (A_ W f j j) (.i 4 0)).toNat=j; simp [zD,A_]
   rw [hNj] at hN;show (XP.rats ((List.range j).map f)).p M w [.slice (some ⟨g,0,none⟩) ((Ae (A_ W f j j)).N G3) k];rw [hNj];change AC w (Cy f j j) cs at hB;rw [cN] at hB;exact ⟨_,k,by simp,by simpa using hN,λ_=>⟨g,0,cs,rfl,hm,hg,hr,DM hB⟩⟩⟩ hm0 R.mx R.bx hS
  exact ⟨.inr rfl,_,ρ,M',hS,AiW⟩
end
theorem CP{V:VL}{F:Fa}{L:List PE}{f:Nat}{fn:Func}{c:Code}{xs:List AV}{r:AV}{m n N:Nat}(e:Ex)(he:e = .nor ∨ e = .ret)(hF:AP V F)(hL:∀ e∈L,@PE.ok (Ae V) e)(hf:Tryz.prog.funcs[f]? = some fn)(hb:fn.body=some c)(hx:Gg (λ_=>none) xs=some xs)(hN:fn.ntmps=N)(hlen:xs.length≤N)
  (h1:AQ (BT F L) Am m n (.run c) [] (B5 N xs)=some (.done e (Af (AQ (BT F L) Am m n (.run c) [] (B5 N xs))))) (h2:Dz fn (Af (AQ (BT F L) Am m n (.run c) [] (B5 N xs)))=some r)
  {ρ:B6} {M:Nat→Prop} {w:World} {vs:List Value} (hm0:∀ b,M b→b<w.heap.size) (hv:@Cz (Ae V) ρ M w xs vs) :
  Calls Tryz.prog f vs.toArray w λe w'=>∃ u,e = .returned u ∧ @RV (Ae V) ρ M w' r u∧Below w.heap.size w w':=by
 subst hN;refine @EI (Ae V) f fn c xs xs r ρ M w vs hf hb hx hlen hm0 hv λa hS=>?_
 show holds _ [] a w (.run c);refine AN (V:=V) hF hL _ h1 hS λρ M' a w' hS=>?_
 refine ⟨?_,_,ρ,M',hS,h2⟩
 rcases he with rfl | rfl
 ·exact .inl rfl
 ·exact .inr rfl
def Zz(P:List (AV × AV)):Rd:=⟨P,[],[],[],[],0⟩
def BE(f:Nat)(P:List (AV × AV))(ex:List AV)(r:AV):PE:=⟨f,λxs=>if Gq (Zz P) [] xs ex then some r else none⟩
theorem Pm{E E':Dn}{d:Rd}{H:HP}{ρ:B6}{M:Nat→Prop}{w:World}(hd:M_ E E' d)(hr:L9 E d H ρ M w):∀{l m:List AV}{vs:List Value},Gq d H l m=true → @Cz E ρ M w l vs→m.all AV.one=true → @Cz E' (H7 d ρ) (If d ρ M) w m vs
 | [],[],_,_,h,_=>h
 | a :: l,b :: m,vs,h,⟨v,r,e,h1,h2⟩,o2=>by
  unfold Gq at h;rw [Bool.and_eq_true] at h;rw [List.all_cons,Bool.and_eq_true] at o2;exact ⟨v,r,e,@RV.one E' _ _ w b v (yP hd hr h.1 (@Co.rv E _ _ _ _ _ h1)) o2.1,Pm hd hr h.2 h2 o2.2⟩
 | [],_ :: _,_,h,_,_=>by unfold Gq at h; cases h
 | _ :: _,[],_,h,_,_=>by unfold Gq at h; cases h
theorem AO{V:VL}{f:Nat}{P:List (AV × AV)}{ex:List AV}{r:AV}(pl:Br f)(ho:ex.all AV.one=true)(hr:DD (λ_=>none) r=some r)(hP:∀ p∈P,Le V V p)
  (hc:∀(M:Nat→Prop)(w:World)(vs:List Value),(∀ b,M b→b<w.heap.size) → @Cz (Ae V) B4 M w ex vs→Calls Tryz.prog f vs.toArray w λe w'=>∃ u,e = .returned u ∧ @RV (Ae V) B4 M w' r u∧Below w.heap.size w w'):@PE.ok (Ae V) (BE f P ex r):=by
 intro xs r' e;have e:(if Gq (Zz P) [] xs ex then some r else none)=some r':=e;split at e
 ·rename_i h
  cases e
  refine ⟨pl,λρ M w vs hm0 hv=>?_⟩;have h1:@Cz (Ae V) (H7 (Zz P) ρ) (If (Zz P) ρ M) w ex vs:=Pm (CU hP rfl rfl rfl) ⟨λp hp=>(by cases hp),λo b g c hm=>(by cases hm)⟩ h hv ho;have e1:H7 (Zz P) ρ=B4:=by
   funext o
   unfold H7;rw [if_neg];intro hk;unfold Rd.keep at hk;rw [Bool.and_eq_true] at hk;exact absurd (Nat.le_of_ble_eq_true hk.1) (by show ¬ o+1≤0; omega)
  have e2:If (Zz P) ρ M=M:=by
   funext b
   exact propext ⟨λh=>h.1,λh=>⟨h,λo c hm=>(by cases hm)⟩⟩
  rw [e1,e2] at h1;refine Calls.mono (hc M w vs hm0 h1) λe w' ⟨u,q1,q2,q3⟩=>⟨u,q1,?_,q3⟩
  exact @YB (Ae V) (λ_=>none) B4 ρ M M w' (λ_ _ _ e=>by cases e) (λ_ h=>h) r r u hr q2
 ·cases e
noncomputable def zZ:Func:=Tryz.f109
noncomputable def Ac5:=Bw zZ
def Kh(l:List Rat)(i:Nat):VL:=⟨λk=>match k with | 1=>(i:Int) | 2=>(l.length:Int) | _=>0,λk=>match k with | 0=>l | _=>[],λ_=>0,λ_=>[]⟩
def KU:Fa:=⟨[(0,1,0),(1,2,-1)],[(.v 0,2,0)],[(.v 0,200000000)],[],[],[],[]⟩
def Ln:Fa:=⟨[(0,1,0),(2,1,0)],[(.v 0,2,0)],[(.v 0,200000000)],[],[],[],[]⟩
def Acc:List AV:=[aL (.v 0),aI 1 0]
noncomputable def pE:=AQ (BT KU []) Am 100 100 (.run Ac5) [] (B5 14 Acc)
noncomputable def AaX:=AQ (BT Ln []) Am 100 100 (.run Ac5) [] (B5 14 Acc)
theorem ArX:pE=some (.done .ret (Af pE)):=by kernel_rfl
theorem Asi:AaX=some (.done .ret (Af AaX)):=by kernel_rfl
theorem Amh:Dz zZ (Af pE)=some (aQ (.ap 30 (.v 0) (.i 1 0)) 200000000):=by kernel_rfl
theorem AqH:Dz zZ (Af AaX)=some (.rat 0):=by kernel_rfl
theorem Asm{l:List Rat}{i:Nat}(hs:∀ x∈l,At x 200000000)(hl:l.length≤1000000)(hi:i≤1000000){ρ:B6}{M:Nat→Prop}{w:World}{v:Value}(hm0:∀ b,M b→b<w.heap.size)(hv:(XP.rats l).p M w [v]) :
  Calls Tryz.prog 109 #[v,.int .i64 (i:Int)] w λe w'=>∃ u,e = .returned u∧(As (l.getD i 0)).p u w'∧Below w.heap.size w w':=by
 have sm:∀ k,-1152921504606846976≤(Kh l i).z k∧(Kh l i).z k≤1152921504606846976:=λk=>by
  show -1152921504606846976≤(match k with | 1=>(i:Int) | 2=>(l.length:Int) | _=>0)∧(match k with | 1=>(i:Int) | 2=>(l.length:Int) | _=>0)≤(1152921504606846976:Int);split <;> omega
 have hv:@Cz (Ae (Kh l i)) ρ M w Acc [v,.int .i64 (i:Int)]:=⟨v,_,rfl,Bb (V:=Kh l i) (e:=.v 0) hv,_,_,rfl,Agb (V:=Kh l i) (by show Value.int .i64 (i:Int) = .int .i64 ((i:Int)+0); rw [Int.add_zero]),rfl⟩
 by_cases h:i<l.length
 ·have hF:AP (Kh l i) KU:=⟨rfl,sm,by simp [KU,Kh]; omega,by simp [KU,Kh,lD],by simpa [KU,Kh,lD] using hs,by simp [KU],by simp [KU],by simp [KU],by simp [KU]⟩
  refine Calls.mono (CP .ret (.inr rfl) hF (λ_ h=>by cases h) Tryz.func109 (fn:=zZ) (c:=Ac5) (by rfl) (by rfl) (by rfl) (by decide) ArX Amh hm0 hv) λe w' ⟨u,e1,e2,e3⟩=>⟨u,e1,?_,e3⟩
  have:=(BN e2).1;simpa [qD,lD,zD,Kh] using this
 ·have hF:AP (Kh l i) Ln:=⟨rfl,sm,by simp [Ln,Kh]; omega,by simp [Ln,Kh,lD],by simpa [Ln,Kh,lD] using hs,by simp [Ln],by simp [Ln],by simp [Ln],by simp [Ln]⟩
  refine Calls.mono (CP .ret (.inr rfl) hF (λ_ h=>by cases h) Tryz.func109 (fn:=zZ) (c:=Ac5) (by rfl) (by rfl) (by rfl) (by decide) Asi AqH hm0 hv) λe w' ⟨u,e1,e2,e3⟩=>⟨u,e1,?_,e3⟩
  rw [List.getD_eq_getElem?_getD,List.getElem?_eq_none (by omega)];exact @Cl (Ae (Kh l i)) ρ M w' u (.rat 0) 0 rfl e2
noncomputable def WH(F:Fa):PE:=⟨109,λxs=>match xs with
 | [.ext 1 false (.ap 51 e _),i]=>match NE F.bd e,NE F.len e,Ij i with
  | some b,some n,some k=>if Nat.ble b 200000000 && Nat.ble 1 b && F7 F (0,0) k && F7 F k (0,1000000) && F7 F n (0,1000000) then some (aQ (.ap 30 e (.i k.1 k.2)) b) else none
  | _,_,_=>none
 | _=>none⟩
noncomputable def Jz(F:Fa):PE:=⟨52,λxs=>match xs with
 | [.ext 1 false (.ap 51 e _)]=>match NE F.bd e,NE F.len e with
  | some b,some n=>if Nat.ble b 200000000 && F7 F n (0,1000000) then some (aL (.ap 70 e (.lit 0))) else none
  | _,_=>none
 | _=>none⟩
theorem Ih:At 0 1:=⟨by show (0:Int).natAbs<4294967296 ^ 1; decide,by show ((1:Nat):Int).natAbs<4294967296 ^ 1; decide⟩
section
variable {V : VL} {F : Fa}
theorem z0M(hF:AP V F):iD V (0,1000000)=1000000:=by unfold iD; simp [hF.z0]
theorem VT(hF:AP V F):@PE.ok (Ae V) (WH F):=by
 intro xs r e;refine ⟨λ_ _=>by simp [WH,go_sem],λρ M w vs hm0 hv=>?_⟩;simp only [WH] at e;split at e
 ·rename_i e0 d i
  split at e
  ·rename_i b n k hb hn hk
   split at e
   ·rename_i hc
    simp only [Bool.and_eq_true] at hc;obtain ⟨⟨⟨⟨c1,c2⟩,c3⟩,c4⟩,c5⟩:=hc
    cases e
    have c1:=Nat.le_of_ble_eq_true c1;have c2:=Nat.le_of_ble_eq_true c2;have c3:=AW hF c3;have c4:=AW hF c4;have c5:=AW hF c5;rw [z00 hF] at c3;rw [z0M hF] at c4 c5;obtain ⟨va,_,rfl,h1,vb,_,rfl,h2,h3⟩:=hv;have h3:_=[]:=h3;subst h3;have hvb:=BV hF hk h2;subst hvb;have hlen:=hF.len _ (Cg hn);have e2:iD V n=V.z n.1+n.2:=rfl;simp only [] at hlen;have hbd:=hF.bd _ (Cg hb);have hi:((iD V k).toNat:Int)=iD V k:=Int.toNat_of_nonneg c3;have h:=Asm (ρ:=ρ) (l:=lD V e0) (i:=(iD V k).toNat) (λx hx=>(hbd x hx).mono c1) (by omega) (by omega) hm0 (AL h1);rw [hi] at h;refine Calls.mono h λe w' ⟨u,q1,q2,q3⟩=>⟨u,q1,@Co.rv (Ae V) ρ M w' _ _ (Cp ?_ ?_),q3⟩
    ·simp only [qD]
     rw [M9];exact q2
    ·simp only [qD]
     rw [M9];rw [List.getD_eq_getElem?_getD]
     cases hg:(lD V e0)[(iD V (k.1,k.2)).toNat]? with
     | none=>exact Ih.mono c2
     | some x=>exact hbd x (List.mem_of_getElem? hg)
   ·cases e
  ·cases e
 ·cases e
theorem Gk(hF:AP V F):@PE.ok (Ae V) (Jz F):=by
 intro xs r e;refine ⟨λ_ _=>by simp [Jz,go_sem],λρ M w vs hm0 hv=>?_⟩;simp only [Jz] at e;split at e
 ·rename_i e0 d
  split at e
  ·rename_i b n hb hn
   split at e
   ·rename_i hc
    rw [Bool.and_eq_true] at hc
    cases e
    have c1:=Nat.le_of_ble_eq_true hc.1;have c5:=AW hF hc.2;rw [z0M hF] at c5;obtain ⟨va,_,rfl,h1,h3⟩:=hv;have h3:_=[]:=h3;subst h3;have hlen:=hF.len _ (Cg hn);have e2:iD V n=V.z n.1+n.2:=rfl;simp only [] at hlen;have hbd:=hF.bd _ (Cg hb);refine Calls.mono (Akv (l:=lD V e0) (λx hx=>(hbd x hx).mono c1) (by omega) hm0 (AL h1)) λe w' ⟨u,q1,q2,q3⟩=>⟨u,q1,@Co.rv (Ae V) ρ M w' _ _ (Bb ?_),q3⟩
    simp only [lD];exact q2
   ·cases e
  ·cases e
 ·cases e
end
noncomputable def P_:Func:=Tryz.f71
noncomputable def KX:=Bw P_
theorem Ape:P_.body=some KX:=by kernel_rfl
theorem Aop:KX = .seq (cl KX) (cr KX):=by kernel_rfl
def EP(a b:List Rat):VL:=⟨λk=>match k with | 1=>(a.length:Int) | 2=>(b.length:Int) | _=>0,λk=>match k with | 0=>a | 1=>b | _=>[],λ_=>0,λ_=>[]⟩
def Ei:List (AV × AV):=[(aL (.v 0),aL (.v 0)),(aL (.v 1),aL (.v 1))]
def H_:Fa:=⟨[(0,3,0),(3,4,-1),(3,0,1000000),(1,0,1000000),(2,0,1000000)],[(.v 0,1,0),(.v 1,2,0)],[(.v 0,99000000),(.v 1,99000000)],[],[(.v 0,4,0)],[],[]⟩
def YV:Bool→Nat × Nat
 | true=>(1,2)
 | false=>(2,1)
def Kg(t:Bool):Fa:=⟨[((YV t).1,(YV t).2,0),(0,1,0),(0,2,0),(4,0,1000000)],[(.v 0,1,0),(.v 1,2,0),(.v 9,4,0)],[(.v 0,99000000),(.v 1,99000000),(.v 9,198000001)],[],[],[],[]⟩
def Wg(t:Bool):List (AV × AV):=[(aL (.v 0),aL (.v 0)),(aL (.v 1),aL (.v 1)),(aI (YV t).2 0,aI 4 0)]
theorem jE(a b:List Rat)(f:Nat→Rat)(n:Nat):∀ p∈Ei,∀ j j',Le (A_ (EP a b) f n j) (A_ (EP a b) f n j') p:=by
 intro p hp j j';simp only [Ei,List.mem_cons,List.not_mem_nil,or_false] at hp
 rcases hp with rfl | rfl
 ·exact BR rfl
 ·exact BR rfl
section
variable {a b : List Rat} {f : Nat → Rat} {n : Nat}
theorem U4(ha:a.length≤1000000)(hb:b.length≤1000000)(k:Nat) : -1152921504606846976≤(EP a b).z k∧(EP a b).z k≤1152921504606846976:=by
 show -1152921504606846976≤(match k with | 1=>(a.length:Int) | 2=>(b.length:Int) | _=>0)∧(match k with | 1=>(a.length:Int) | 2=>(b.length:Int) | _=>0)≤(1152921504606846976:Int);split <;> omega
theorem KL(sa:∀ x∈a,At x 99000000)(sb:∀ x∈b,At x 99000000)(ha:a.length≤1000000)(hb:b.length≤1000000)(hn:n≤1000000){j:Nat}(hj:j<n):AP (A_ (EP a b) f n j) H_ where
 z0:=rfl
 sm:=Lp (U4 ha hb) hn (by omega)
 le:=by simp [H_,A_,EP]; omega
 len:=by simp [H_,A_,EP,lD]
 bd:=by simpa [H_,A_,EP,lD] using ⟨sa,sb⟩
 zr:=by simp [H_]
 rlen:=by simp [H_,A_,EP,rD,Cy]
 full:=by simp [H_]
 sum:=by simp [H_]
theorem fS(sa:∀ x∈a,At x 99000000)(sb:∀ x∈b,At x 99000000)(ha:a.length≤1000000)(hb:b.length≤1000000)(sf:∀ i,i<max a.length b.length→At (f i) 198000001){t:Bool}(ht:decide (a.length≤b.length)=t):AP (A_ (EP a b) f (max a.length b.length) 0) (Kg t) where
 z0:=rfl
 sm:=Lp (U4 ha hb) (by omega) (by omega)
 le:=by
  cases t
  ·have:¬ a.length≤b.length:=of_decide_eq_false ht
   simp [Kg,YV,A_,EP]; omega
  ·have:a.length≤b.length:=of_decide_eq_true ht
   simp [Kg,YV,A_,EP]; omega
 len:=by simp [Kg,A_,EP,lD]
 bd:=by
  intro x hx;simp only [Kg,List.mem_cons,List.not_mem_nil,or_false] at hx
  rcases hx with rfl | rfl | rfl
  ·exact sa
  ·exact sb
  ·intro y hy
   change y∈(List.range (max a.length b.length)).map f at hy;obtain ⟨i,hi,rfl⟩:=List.mem_map.1 hy;exact sf i (by simpa using hi)
 zr:=by simp [Kg]
 rlen:=by simp [Kg]
 full:=by simp [Kg]
 sum:=by simp [Kg]
theorem Abb{t:Bool}(ht:decide (a.length≤b.length)=t):∀ p∈Wg t,Le (A_ (EP a b) f (max a.length b.length) 0) (A_ (EP a b) f (max a.length b.length) 0) p:=by
 intro p hp
 cases t
 ·have:¬ a.length≤b.length:=of_decide_eq_false ht
  simp only [Wg,YV,List.mem_cons,List.not_mem_nil,or_false] at hp
  rcases hp with rfl | rfl | rfl
  ·exact BR rfl
  ·exact BR rfl
  ·exact Cv (by show (a.length:Int)+0=((max a.length b.length:Nat):Int)+0; omega)
 ·have:a.length≤b.length:=of_decide_eq_true ht
  simp only [Wg,YV,List.mem_cons,List.not_mem_nil,or_false] at hp
  rcases hp with rfl | rfl | rfl
  ·exact BR rfl
  ·exact BR rfl
  ·exact Cv (by show (b.length:Int)+0=((max a.length b.length:Nat):Int)+0; omega)
end
noncomputable def AkY:AV:=.fn 72 [] []
noncomputable def AgE:AV:=.fn 108 [] [.rptr [AkY],.rptr [aL (.v 0)],.rptr [aL (.v 1)]]
def Amx:CE:=.ap 31 (.ap 30 (.v 0) (.i 3 0)) (.ap 30 (.v 1) (.i 3 0))
theorem Aeu:Ka H_ [WH H_] Ei AgE Amx 198000001:=⟨by kernel_rfl,by kernel_rfl,by kernel_rfl,by kernel_rfl,by kernel_rfl,by kernel_rfl,by kernel_rfl,by kernel_rfl,by kernel_rfl,by kernel_rfl,by kernel_rfl⟩
noncomputable def Gs:List AV:=[aL (.v 0),aL (.v 1),AkY]
noncomputable def AmH(t:Bool):PE:=BE 76 (Wg t) [aI 4 0,AgE] (aL (.v 9))
noncomputable def Akm:Fm:=LS 15 [(3,.rptr [aL (.v 0)]),(4,.rptr [aL (.v 1)]),(5,.rptr [AkY])] [] 400
noncomputable def fK(t:Bool):=AQ (BT (Kg t) []) Am 100 100 (.run (cl KX)) [] (B5 15 Gs)
noncomputable def pQ(t:Bool):=AQ (BT (Kg t) [AmH t,Jz (Kg t)]) Am 100 100 (.run (cr KX)) [] Akm
def AnJ:Rd:=⟨Ei,[],[],[],[16,32,48],400⟩
theorem Amt:∀ t,fK t=some (.done .nor (Af (fK t)))
 | true=>by kernel_rfl
 | false=>by kernel_rfl
theorem Aqh:∀ t,Fs AnJ 16 (Af (fK t)) Akm=true
 | true=>by kernel_rfl
 | false=>by kernel_rfl
theorem Asd:∀ t,below 16 Akm.H=below 16 (Af (fK t)).H
 | true=>by kernel_rfl
 | false=>by kernel_rfl
theorem AmI:∀ t,pQ t=some (.done .ret (Af (pQ t)))
 | true=>by kernel_rfl
 | false=>by kernel_rfl
theorem Ary:∀ t,Dz P_ (Af (pQ t))=some (aL (.ap 70 (.v 9) (.lit 0)))
 | true=>by kernel_rfl
 | false=>by kernel_rfl
theorem An8:Gg (λ_=>none) Gs=some Gs:=by kernel_rfl
theorem Ao3:Nat.ble Gs.length P_.ntmps=true:=by kernel_rfl
theorem Arw:(⟨Gs ++ List.replicate (P_.ntmps - Gs.length) (.val undef),[],16,[]⟩:Fm)=B5 15 Gs:=by kernel_rfl
theorem Aod{a b:List Rat}(sa:∀ x∈a,At x 99000000)(sb:∀ x∈b,At x 99000000)(ha:a.length≤1000000)(hb:b.length≤1000000){ρ:B6}{M:Nat→Prop}{w:World}{vs:List Value}(hm0:∀ b,M b→b<w.heap.size)
  (hv:@Cz (Ae (A_ (EP a b) (λi=>a.getD i 0+b.getD i 0) (max a.length b.length) 0)) ρ M w Gs vs) :
  Calls Tryz.prog 71 vs.toArray w λe w'=>∃ u,e = .returned u∧(XP.rats (DL a b)).p M w' [u]∧Below w.heap.size w w':=by
 generalize hf:(λi=>a.getD i 0+b.getD i 0)=f at hv;generalize ht:decide (a.length≤b.length)=t;have s0:∀{l:List Rat},(∀ x∈l,At x 99000000)→∀ i,At (l.getD i 0) 99000000:=fun {l} h i=>by
  rw [List.getD_eq_getElem?_getD]
  cases hg:l[i]? with
  | none=>exact Ih.mono (by decide)
  | some x=>exact h x (List.mem_of_getElem? hg)
 have sf:∀ i,i<max a.length b.length→At (f i) 198000001:=λi _=>by rw [← hf]; exact ((s0 sa i).add (s0 sb i)).mono (j:=198000001) (by decide)
 have hF:=fS sa sb ha hb sf ht;refine Calls.mono (@EI (Ae (A_ (EP a b) f (max a.length b.length) 0)) _ P_ KX Gs Gs (aL (.ap 70 (.v 9) (.lit 0))) ρ M w vs Tryz.func71 Ape An8 (Nat.le_of_ble_eq_true Ao3) hm0 hv λa' hS=>?_) λe w' ⟨u,e1,e2,e3⟩=>⟨u,e1,?_,e3⟩
 ·rw [Arw] at hS
  rw [Aop];refine wp_seq ?_;show holds _ [] a' w (.run (cl KX));refine AN hF (λ_ h=>by cases h) _ (Amt t) hS λρ M' a' w' hS=>?_
  obtain ⟨ρ,M',hS⟩:=A7 (E':=Ae (A_ (EP a b) f (max a.length b.length) 0)) AnJ (CU (λp hp=>jE a b f _ p hp 0 0) rfl rfl rfl) hm0 (Aqh t) (Asd t) hS;show holds _ [] a' w' (.run (cr KX));refine AN hF (λe he=>?_) _ (AmI t) hS λρ M' a' w' hS=>⟨.inr rfl,_,ρ,M',hS,Ary t⟩
  simp only [List.mem_cons,List.not_mem_nil,or_false] at he
  rcases he with rfl | rfl
  ·refine AO (λ_ _=>by simp [go_sem]) rfl rfl (Abb ht) λM w vs hm0 hv=>?_
   refine Calls.mono (KS (W:=EP a b) (f:=f) Aeu rfl (U4 ha hb) (by omega) (jE a b f _) (λj hj=>KL sa sb ha hb (by omega) hj) (λj hj e he=>?_) (λj hj=>?_) hm0 hv) λe w' ⟨u,q1,q2,q3⟩=>⟨u,q1,@Co.rv (Ae (A_ (EP a b) f (max a.length b.length) 0)) B4 M w' _ _ (Bb q2),q3⟩
   ·rw [List.mem_singleton] at he
    subst he;exact VT (KL sa sb ha hb (by omega) hj)
   ·rw [← hf]
    simp [Amx,qD,lD,zD,A_,EP]
  ·exact Gk hF
 ·have:=AL (ρ:=ρ) e2
  simp only [lD] at this;rw [← hf] at this;exact this
noncomputable def AlF:AV:=.fn 57 [] []
noncomputable def AgT:AV:=.fn 108 [] [.rptr [AlF],.rptr [aL (.v 0)],.rptr [aL (.v 1)]]
def AoU:CE:=.ap 32 (.ap 30 (.v 0) (.i 3 0)) (.ap 30 (.v 1) (.i 3 0))
theorem Aeh:Ka H_ [WH H_] Ei AgT AoU 198000001:=⟨by kernel_rfl,by kernel_rfl,by kernel_rfl,by kernel_rfl,by kernel_rfl,by kernel_rfl,by kernel_rfl,by kernel_rfl,by kernel_rfl,by kernel_rfl,by kernel_rfl⟩
noncomputable def GR:List AV:=[aL (.v 0),aL (.v 1),AlF]
noncomputable def Amj(t:Bool):PE:=BE 76 (Wg t) [aI 4 0,AgT] (aL (.v 9))
noncomputable def AjZ:Fm:=LS 15 [(3,.rptr [aL (.v 0)]),(4,.rptr [aL (.v 1)]),(5,.rptr [AlF])] [] 400
noncomputable def aO(t:Bool):=AQ (BT (Kg t) []) Am 100 100 (.run (cl KX)) [] (B5 15 GR)
noncomputable def Aa8(t:Bool):=AQ (BT (Kg t) [Amj t,Jz (Kg t)]) Am 100 100 (.run (cr KX)) [] AjZ
def AlZ:Rd:=⟨Ei,[],[],[],[16,32,48],400⟩
theorem AoH:∀ t,aO t=some (.done .nor (Af (aO t)))
 | true=>by kernel_rfl
 | false=>by kernel_rfl
theorem Aq7:∀ t,Fs AlZ 16 (Af (aO t)) AjZ=true
 | true=>by kernel_rfl
 | false=>by kernel_rfl
theorem Ans:∀ t,below 16 AjZ.H=below 16 (Af (aO t)).H
 | true=>by kernel_rfl
 | false=>by kernel_rfl
theorem Al9:∀ t,Aa8 t=some (.done .ret (Af (Aa8 t)))
 | true=>by kernel_rfl
 | false=>by kernel_rfl
theorem AoD:∀ t,Dz P_ (Af (Aa8 t))=some (aL (.ap 70 (.v 9) (.lit 0)))
 | true=>by kernel_rfl
 | false=>by kernel_rfl
theorem ApP:Gg (λ_=>none) GR=some GR:=by kernel_rfl
theorem Aqg:Nat.ble GR.length P_.ntmps=true:=by kernel_rfl
theorem Am2:(⟨GR ++ List.replicate (P_.ntmps - GR.length) (.val undef),[],16,[]⟩:Fm)=B5 15 GR:=by kernel_rfl
theorem Asn{a b:List Rat}(sa:∀ x∈a,At x 99000000)(sb:∀ x∈b,At x 99000000)(ha:a.length≤1000000)(hb:b.length≤1000000){ρ:B6}{M:Nat→Prop}{w:World}{vs:List Value}(hm0:∀ b,M b→b<w.heap.size)
  (hv:@Cz (Ae (A_ (EP a b) (λi=>a.getD i 0 - b.getD i 0) (max a.length b.length) 0)) ρ M w GR vs) :
  Calls Tryz.prog 71 vs.toArray w λe w'=>∃ u,e = .returned u∧(XP.rats (CO a b)).p M w' [u]∧Below w.heap.size w w':=by
 generalize hf:(λi=>a.getD i 0 - b.getD i 0)=f at hv;generalize ht:decide (a.length≤b.length)=t;have s0:∀{l:List Rat},(∀ x∈l,At x 99000000)→∀ i,At (l.getD i 0) 99000000:=fun {l} h i=>by
  rw [List.getD_eq_getElem?_getD]
  cases hg:l[i]? with
  | none=>exact Ih.mono (by decide)
  | some x=>exact h x (List.mem_of_getElem? hg)
 have sf:∀ i,i<max a.length b.length→At (f i) 198000001:=λi _=>by rw [← hf]; exact ((s0 sa i).sub (s0 sb i)).mono (j:=198000001) (by decide)
 have hF:=fS sa sb ha hb sf ht;refine Calls.mono (@EI (Ae (A_ (EP a b) f (max a.length b.length) 0)) _ P_ KX GR GR (aL (.ap 70 (.v 9) (.lit 0))) ρ M w vs Tryz.func71 Ape ApP (Nat.le_of_ble_eq_true Aqg) hm0 hv λa' hS=>?_) λe w' ⟨u,e1,e2,e3⟩=>⟨u,e1,?_,e3⟩
 ·rw [Am2] at hS
  rw [Aop];refine wp_seq ?_;show holds _ [] a' w (.run (cl KX));refine AN hF (λ_ h=>by cases h) _ (AoH t) hS λρ M' a' w' hS=>?_
  obtain ⟨ρ,M',hS⟩:=A7 (E':=Ae (A_ (EP a b) f (max a.length b.length) 0)) AlZ (CU (λp hp=>jE a b f _ p hp 0 0) rfl rfl rfl) hm0 (Aq7 t) (Ans t) hS;show holds _ [] a' w' (.run (cr KX));refine AN hF (λe he=>?_) _ (Al9 t) hS λρ M' a' w' hS=>⟨.inr rfl,_,ρ,M',hS,AoD t⟩
  simp only [List.mem_cons,List.not_mem_nil,or_false] at he
  rcases he with rfl | rfl
  ·refine AO (λ_ _=>by simp [go_sem]) rfl rfl (Abb ht) λM w vs hm0 hv=>?_
   refine Calls.mono (KS (W:=EP a b) (f:=f) Aeh rfl (U4 ha hb) (by omega) (jE a b f _) (λj hj=>KL sa sb ha hb (by omega) hj) (λj hj e he=>?_) (λj hj=>?_) hm0 hv) λe w' ⟨u,q1,q2,q3⟩=>⟨u,q1,@Co.rv (Ae (A_ (EP a b) f (max a.length b.length) 0)) B4 M w' _ _ (Bb q2),q3⟩
   ·rw [List.mem_singleton] at he
    subst he;exact VT (KL sa sb ha hb (by omega) hj)
   ·rw [← hf]
    simp [AoU,qD,lD,zD,A_,EP]
  ·exact Gk hF
 ·have:=AL (ρ:=ρ) e2
  simp only [lD] at this;rw [← hf] at this;exact this
theorem ST{V V':VL}(P:List (AV × AV))(hP:∀ p∈P,Le V V' p){xs ys:List AV}(h:Gq (Zz P) [] xs ys=true)(ho:ys.all AV.one=true){ρ:B6}{M:Nat→Prop}{w:World}{vs:List Value}(hv:@Cz (Ae V) ρ M w xs vs):@Cz (Ae V') B4 M w ys vs:=by
 have h1:@Cz (Ae V') (H7 (Zz P) ρ) (If (Zz P) ρ M) w ys vs:=Pm (CU hP rfl rfl rfl) ⟨λp hp=>(by cases hp),λo b g c hm=>(by cases hm)⟩ h hv ho;have e1:H7 (Zz P) ρ=B4:=by
  funext o
  unfold H7;rw [if_neg];intro hk;unfold Rd.keep at hk;rw [Bool.and_eq_true] at hk;exact absurd (Nat.le_of_ble_eq_true hk.1) (by show ¬ o+1≤0; omega)
 have e2:If (Zz P) ρ M=M:=by
  funext b
  exact propext ⟨λh=>h.1,λh=>⟨h,λo c hm=>(by cases hm)⟩⟩
 rw [e1,e2] at h1;exact h1
def Bv(f:Nat)(M:Nat→Prop)(w:World)(vs:List Value)(l:List Rat):Prop:=Calls Tryz.prog f vs.toArray w λe w'=>∃ u,e = .returned u∧(XP.rats l).p M w' [u]∧Below w.heap.size w w'
theorem Bv.rv{f:Nat}{M:Nat→Prop}{w:World}{vs:List Value}{l:List Rat}(h:Bv f M w vs l){V:VL}{e:CE}{ρ:B6}(he:lD V e=l):Calls Tryz.prog f vs.toArray w λe' w'=>∃ u,e' = .returned u ∧ @RV (Ae V) ρ M w' (aL e) u∧Below w.heap.size w w':=
 Calls.mono h λ_ w' ⟨u,q1,q2,q3⟩=>⟨u,q1,@Co.rv (Ae V) ρ M w' _ _ (Bb (by rw [he]; exact q2)),q3⟩
theorem Bv.of{f:Nat}{V:VL}{e:CE}{ρ:B6}{M:Nat→Prop}{w:World}{vs:List Value}{l:List Rat}(he:lD V e=l)(h:Calls Tryz.prog f vs.toArray w λe' w'=>∃ u,e' = .returned u ∧ @RV (Ae V) ρ M w' (aL e) u∧Below w.heap.size w w'):Bv f M w vs l:=
 Calls.mono h λ_ w' ⟨u,q1,q2,q3⟩=>⟨u,q1,by have:=AL (ρ:=ρ) q2; rw [he] at this; exact this,q3⟩
def Qc(a b r:List Rat):VL:=⟨λk=>match k with | 1=>(a.length:Int) | 2=>(b.length:Int) | _=>0,λk=>match k with | 0=>a | 1=>b | 10=>r | _=>[],λ_=>0,λ_=>[]⟩
def Il:Fa:=⟨[],[],[],[],[],[],[]⟩
theorem CS{V:VL}(h0:V.z 0=0)(sm:∀ k,-1152921504606846976≤V.z k∧V.z k≤1152921504606846976):AP V Il:=⟨h0,sm,λ_ h=>(by cases h),λ_ h=>(by cases h),λ_ h=>(by cases h),λ_ h=>(by cases h),λ_ h=>(by cases h),λ_ h=>(by cases h),λ_ h=>(by cases h)⟩
theorem Agw{a b r:List Rat}(ha:a.length≤1000000)(hb:b.length≤1000000)(k:Nat) : -1152921504606846976≤(Qc a b r).z k∧(Qc a b r).z k≤1152921504606846976:=U4 ha hb k
theorem Ah3{a b r:List Rat}{f:Nat→Rat}{n:Nat}:∀ p∈Ei,Le (Qc a b r) (A_ (EP a b) f n 0) p:=by
 intro p hp;simp only [Ei,List.mem_cons,List.not_mem_nil,or_false] at hp
 rcases hp with rfl | rfl
 ·exact BR rfl
 ·exact BR rfl
theorem uY{a b r:List Rat}:∀ p∈Ei,Le (Qc a b r) (Qc a b r) p:=by
 intro p hp;simp only [Ei,List.mem_cons,List.not_mem_nil,or_false] at hp
 rcases hp with rfl | rfl
 ·exact BR rfl
 ·exact BR rfl
def Cx:List AV:=[aL (.v 0),aL (.v 1)]
theorem AhP{a b r:List Rat}{ρ:B6}{M:Nat→Prop}{w:World}{va vb:Value}(ha:(XP.rats a).p M w [va])(hb:(XP.rats b).p M w [vb]):@Cz (Ae (Qc a b r)) ρ M w Cx [va,vb]:=⟨va,_,rfl,Bb (V:=Qc a b r) (e:=.v 0) ha,vb,_,rfl,Bb (V:=Qc a b r) (e:=.v 1) hb,rfl⟩
noncomputable def iM:Func:=Tryz.f20
noncomputable def kW:=Bw iM
noncomputable def Y5:PE:=BE 71 Ei Gs (aL (.v 10))
theorem Aqt:AQ (BT Il [Y5]) Am 100 100 (.run kW) [] (B5 8 Cx)=some (.done .ret (Af (AQ (BT Il [Y5]) Am 100 100 (.run kW) [] (B5 8 Cx)))):=by kernel_rfl
theorem ApJ:Dz iM (Af (AQ (BT Il [Y5]) Am 100 100 (.run kW) [] (B5 8 Cx)))=some (aL (.v 10)):=by kernel_rfl
theorem Anr:Gq (Zz Ei) [] Gs Gs=true:=by kernel_rfl
theorem Af2:Gs.all AV.one=true:=by kernel_rfl
theorem AqF:iM.body=some kW:=by kernel_rfl
theorem Aoa:iM.ntmps=8:=by kernel_rfl
theorem Asl{a b:List Rat}(sa:∀ x∈a,At x 99000000)(sb:∀ x∈b,At x 99000000)(ha:a.length≤1000000)(hb:b.length≤1000000){M:Nat→Prop}{w:World}{va vb:Value}(hm0:∀ b,M b→b<w.heap.size)(hva:(XP.rats a).p M w [va])(hvb:(XP.rats b).p M w [vb]):Bv 20 M w [va,vb] (DL a b):=by
 refine Bv.of (V:=Qc a b (DL a b)) (e:=.v 10) (ρ:=B4) rfl (CP .ret (.inr rfl) (CS rfl (Agw ha hb)) (λe he=>?_) Tryz.func20 AqF (by rfl) Aoa (by decide) Aqt ApJ hm0 (AhP hva hvb));rw [List.mem_singleton] at he;subst he;refine AO (λ_ _=>by simp [go_sem]) Af2 rfl uY λM w vs hm0 hv=>?_
 exact Bv.rv (show Bv _ M w vs _ from Aod sa sb ha hb hm0 (ST Ei Ah3 Anr Af2 hv)) rfl
noncomputable def fJ:Func:=Tryz.f22
noncomputable def cT:=Bw fJ
noncomputable def Zm:PE:=BE 71 Ei GR (aL (.v 10))
theorem AnV:AQ (BT Il [Zm]) Am 100 100 (.run cT) [] (B5 8 Cx)=some (.done .ret (Af (AQ (BT Il [Zm]) Am 100 100 (.run cT) [] (B5 8 Cx)))):=by kernel_rfl
theorem Aom:Dz fJ (Af (AQ (BT Il [Zm]) Am 100 100 (.run cT) [] (B5 8 Cx)))=some (aL (.v 10)):=by kernel_rfl
theorem AqL:Gq (Zz Ei) [] GR GR=true:=by kernel_rfl
theorem Ahc:GR.all AV.one=true:=by kernel_rfl
theorem AqS:fJ.body=some cT:=by kernel_rfl
theorem Aq5:fJ.ntmps=8:=by kernel_rfl
theorem Af3{a b:List Rat}(sa:∀ x∈a,At x 99000000)(sb:∀ x∈b,At x 99000000)(ha:a.length≤1000000)(hb:b.length≤1000000){M:Nat→Prop}{w:World}{va vb:Value}(hm0:∀ b,M b→b<w.heap.size)(hva:(XP.rats a).p M w [va])(hvb:(XP.rats b).p M w [vb]):Bv 22 M w [va,vb] (CO a b):=by
 refine Bv.of (V:=Qc a b (CO a b)) (e:=.v 10) (ρ:=B4) rfl (CP .ret (.inr rfl) (CS rfl (Agw ha hb)) (λe he=>?_) Tryz.func22 AqS (by rfl) Aq5 (by decide) AnV Aom hm0 (AhP hva hvb));rw [List.mem_singleton] at he;subst he;refine AO (λ_ _=>by simp [go_sem]) Ahc rfl uY λM w vs hm0 hv=>?_
 exact Bv.rv (show Bv _ M w vs _ from Asn sa sb ha hb hm0 (ST Ei Ah3 AqL Ahc hv)) rfl
noncomputable def Uo:Func:=Tryz.f17
noncomputable def Vy:=Bw Uo
noncomputable def tE:=Xo Vy []
noncomputable def Abi:List JX:=Xp Vy []
def Eb(a b:List Rat)(i:Nat):VL:=⟨λk=>match k with | 1=>(a.length:Int) | 2=>(b.length:Int) | 3=>(i:Int) | _=>0,λk=>match k with | 0=>a | 1=>b | _=>[],λ_=>0,λ_=>[]⟩
def UB:CE:=.ap 32 (.ap 30 (.v 0) (.i 3 0)) (.ap 30 (.v 1) (.i 3 0))
def X9:List (CE × Nat × Int):=[(.v 0,1,0),(.v 1,2,0)]
def Mf:Fa:=⟨[(1,2,-1)],X9,[],[],[],[],[]⟩
def Mu:Fa:=⟨[(2,1,-1)],X9,[],[],[],[],[]⟩
def Mi:Fa:=⟨[(1,2,0),(2,1,0)],X9,[],[],[],[],[]⟩
def KD(t:Bool):Fa:=⟨[(0,3,0),(3,1,-1),(3,2,-1)],X9,[(.v 0,140000000),(.v 1,140000000)],[(UB,t)],[],[],[]⟩
def Mw:Fa:=⟨[(1,3,0)],X9,[],[],[],[],[]⟩
def Wk:Fm:=LS 27 [(0,aL (.v 0)),(1,aL (.v 1)),(5,aI 3 0)] [] 600
noncomputable def xC:=AQ (BT Mf []) Am 100 100 (.run Vy) [] (B5 27 Cx)
noncomputable def Aby:=AQ (BT Mu []) Am 100 100 (.run Vy) [] (B5 27 Cx)
noncomputable def lF:=AQ (BT Mi []) Am 100 100 (.run Vy) [] (B5 27 Cx)
noncomputable def dU:=AQ (BT (KD true) []) Am 100 100 (.run tE) [] Wk
noncomputable def AaL:=AQ (BT (KD false) []) Am 100 100 (.run tE) [] Wk
noncomputable def Abp:=AQ (BT Mw []) Am 100 100 (.run tE) [] Wk
noncomputable def gM:=AQ (BT Il []) Am 100 100 (.at_ .ret) Abi (Af AaL)
noncomputable def gY:=AQ (BT Il []) Am 100 100 (.at_ (.ext 0)) Abi (Af Abp)
def AhC:Rd:=⟨(.val (.int .i64 0),aI 3 0) :: Ei,[],[],[],[],600⟩
def AgL:Rd:=⟨(aI 3 1,aI 3 0) :: Ei,[],[],[],[],600⟩
theorem Asb:xC=some (.done .ret (Af xC)):=by kernel_rfl
theorem Amu:Aby=some (.done .ret (Af Aby)):=by kernel_rfl
theorem Ao2:lF=some (.loop tE Abi (Af lF)):=by kernel_rfl
theorem Amq:dU=some (.done .nor (Af dU)):=by kernel_rfl
theorem ArK:AaL=some (.done .ret (Af AaL)):=by kernel_rfl
theorem Aoj:Abp=some (.done (.ext 0) (Af Abp)):=by kernel_rfl
theorem Amw:gM=some (.done .ret (Af gM)):=by kernel_rfl
theorem ApD:gY=some (.done .ret (Af gY)):=by kernel_rfl
theorem Ana:Dz Uo (Af xC)=some (.val (.bool false)):=by kernel_rfl
theorem AqB:Dz Uo (Af Aby)=some (.val (.bool false)):=by kernel_rfl
theorem AmG:Fs AhC 16 (Af lF) Wk=true:=by kernel_rfl
theorem Aps:Fs AgL 16 (Af dU) Wk=true:=by kernel_rfl
theorem AnE:below 16 Wk.H=below 16 (Af lF).H:=by kernel_rfl
theorem Aqv:below 16 Wk.H=below 16 (Af dU).H:=by kernel_rfl
def Lw(t:Bool):Fm:=LS 27 [(4,.val (.bool t))] [] 900
def Rh(t:Bool):Rd:=⟨[(.val (.bool t),.val (.bool t))],[],[],[],[],900⟩
theorem Af7{V V':VL}(t:Bool):∀ p∈(Rh t).vs,Le V V' p:=by
 intro p hp;simp only [Rh,List.mem_singleton] at hp;subst hp;intro ρ ρ' M w cs r;unfold Rp at r ⊢;exact r
theorem Anl:Fs (Rh false) 16 (Af gM) (Lw false)=true:=by kernel_rfl
theorem Apb:Fs (Rh true) 16 (Af gY) (Lw true)=true:=by kernel_rfl
theorem Arv:below 16 (Lw false).H=below 16 (Af gM).H:=by kernel_rfl
theorem Amc:below 16 (Lw true).H=below 16 (Af gY).H:=by kernel_rfl
theorem Ap6:Dz Uo (Lw false)=some (.val (.bool false)):=by kernel_rfl
theorem AmL:Dz Uo (Lw true)=some (.val (.bool true)):=by kernel_rfl
theorem ApY:Uo.body=some Vy:=by kernel_rfl
theorem Am1:(⟨Cx ++ List.replicate (Uo.ntmps - Cx.length) (.val undef),[],16,[]⟩:Fm)=B5 27 Cx:=by kernel_rfl
theorem Anb:Nat.ble Cx.length Uo.ntmps=true:=by kernel_rfl
section
variable {a b : List Rat}
theorem QX(ha:a.length≤1000000)(hb:b.length≤1000000){i:Nat}(hi:i≤1000000)(k:Nat) : -1152921504606846976≤(Eb a b i).z k∧(Eb a b i).z k≤1152921504606846976:=by
 show -1152921504606846976≤(match k with | 1=>(a.length:Int) | 2=>(b.length:Int) | 3=>(i:Int) | _=>0)∧(match k with | 1=>(a.length:Int) | 2=>(b.length:Int) | 3=>(i:Int) | _=>0)≤(1152921504606846976:Int);split <;> omega
theorem AgR{i j:Nat}:∀ p∈Ei,Le (Eb a b i) (Eb a b j) p:=by
 intro p hp;simp only [Ei,List.mem_cons,List.not_mem_nil,or_false] at hp
 rcases hp with rfl | rfl
 ·exact BR rfl
 ·exact BR rfl
theorem Oo{i:Nat}:∀ x∈X9,((lD (Eb a b i) x.1).length:Int)=(Eb a b i).z x.2.1+x.2.2:=by
 simp [X9,Eb,lD]
theorem iF(sa:∀ x∈a,At x 140000000)(sb:∀ x∈b,At x 140000000)(ha:a.length≤1000000)(hb:b.length≤1000000){M:Nat→Prop}{w:World}{va vb:Value}(hm0:∀ b,M b→b<w.heap.size)(hva:(XP.rats a).p M w [va])(hvb:(XP.rats b).p M w [vb]) :
  Calls Tryz.prog 17 #[va,vb] w λe w'=>e = .returned (.bool (decide (a=b)))∧Below w.heap.size w w':=by
 have hv:@Cz (Ae (Eb a b 0)) B4 M w Cx [va,vb]:=⟨va,_,rfl,Bb (V:=Eb a b 0) (e:=.v 0) hva,vb,_,rfl,Bb (V:=Eb a b 0) (e:=.v 1) hvb,rfl⟩;have F0:∀{i},i≤1000000→AP (Eb a b i) Il:=λh=>CS rfl (QX ha hb h)
 refine Calls.mono (@EI (Ae (Eb a b 0)) _ Uo Vy Cx Cx (.val (.bool (decide (a=b)))) B4 M w [va,vb] Tryz.func17 ApY (by rfl) (Nat.le_of_ble_eq_true Anb) hm0 hv λa' hS=>?_) λe w' ⟨u,e1,e2,e3⟩=>⟨by rw [e1,show u=_ from e2],e3⟩
 rw [Am1] at hS;show holds _ [] a' w (.run Vy)
 by_cases hl:a.length=b.length
 ·have F1:AP (Eb a b 0) Mi:=⟨rfl,QX ha hb (by omega),by simp [Mi,Eb,hl],Oo,by simp [Mi],by simp [Mi],by simp [Mi],by simp [Mi],by simp [Mi]⟩
  refine AN F1 (λ_ h=>by cases h) _ Ao2 hS λρ M' a' w' hS=>?_
  obtain ⟨ρ,M',hS⟩:=A7 (E':=Ae (Eb a b 0)) AhC (CU (λp hp=>by
   rcases List.mem_cons.1 hp with rfl | hp
   ·exact MQ rfl
   ·exact AgR p hp) rfl rfl rfl) hm0 AmG AnE hS
  refine CH (λi=>a.length - i) (Eb a b) (λi=>i≤a.length∧∀ j,j<i→a.getD j 0=b.getD j 0) Wk ?_ 0 ⟨Nat.zero_le _,λj hj=>by omega⟩ hS;intro i ⟨hi,hE⟩ ρ M' a' w' hS;show holds _ [] a' w' (.run tE)
  by_cases hil:i<a.length
  ·have FR:∀ t,decide (a.getD i 0=b.getD i 0)=t→AP (Eb a b i) (KD t):=λt ht=>⟨rfl,QX ha hb (by omega),by simp [KD,Eb]; omega,Oo,by simpa [KD,Eb,lD] using ⟨sa,sb⟩,by
    intro x hx;simp only [KD,List.mem_singleton] at hx;subst hx;rw [← ht];show decide (qD (Eb a b i) UB=0)=decide (a.getD i 0=b.getD i 0);have:qD (Eb a b i) UB=a.getD i 0 - b.getD i 0:=by simp [UB,qD,lD,zD,Eb]
    rw [this];exact decide_eq_decide.2 ⟨λh=>by grind,λh=>by grind⟩,by simp [KD],by simp [KD],by simp [KD]⟩
   by_cases ht:a.getD i 0=b.getD i 0
   ·refine AN (FR true (decide_eq_true ht)) (λ_ h=>by cases h) _ Amq hS λρ M' a' w' hS=>?_
    obtain ⟨ρ,M',hS⟩:=A7 (E':=Ae (Eb a b (i+1))) AgL (CU (λp hp=>by
     rcases List.mem_cons.1 hp with rfl | hp
     ·exact Cv (by show (i:Int)+1=((i+1:Nat):Int)+0; omega)
     ·exact AgR p hp) rfl rfl rfl) hm0 Aps Aqv hS
    exact ⟨i+1,ρ,M',⟨hil,λj hj=>if e:j=i then e ▸ ht else hE j (by omega)⟩,by omega,hS⟩
   ·refine AN (FR false (decide_eq_false ht)) (λ_ h=>by cases h) _ ArK hS λρ M' a' w' hS=>?_
    show holds _ Abi a' w' (.at_ .ret);refine AN (F0 (by omega)) (λ_ h=>by cases h) _ Amw hS λρ M' a' w' hS=>?_
    obtain ⟨ρ,M',hS⟩:=A7 (E':=Ae (Eb a b 0)) (Rh false) (CU (Af7 false) rfl rfl rfl) hm0 Anl Arv hS;refine ⟨.inr rfl,_,ρ,M',hS,?_⟩;rw [Ap6,decide_eq_false λe=>ht (by rw [e])]
  ·have hil:i=a.length:=by omega
   have FX:AP (Eb a b i) Mw:=⟨rfl,QX ha hb (by omega),by simp [Mw,Eb]; omega,Oo,by simp [Mw],by simp [Mw],by simp [Mw],by simp [Mw],by simp [Mw]⟩;refine AN FX (λ_ h=>by cases h) _ Aoj hS λρ M' a' w' hS=>?_
   show holds _ Abi a' w' (.at_ (.ext 0));refine AN (F0 (by omega)) (λ_ h=>by cases h) _ ApD hS λρ M' a' w' hS=>?_
   obtain ⟨ρ,M',hS⟩:=A7 (E':=Ae (Eb a b 0)) (Rh true) (CU (Af7 true) rfl rfl rfl) hm0 Apb Amc hS;refine ⟨.inr rfl,_,ρ,M',hS,?_⟩;have hab:a=b:=by
    apply List.ext_getElem hl;intro j h1 h2;have:=hE j (by omega);simpa [List.getD_eq_getElem?_getD,List.getElem?_eq_getElem h1,List.getElem?_eq_getElem h2] using this
   rw [AmL,decide_eq_true hab]
 ·have hne:¬ a=b:=λe=>hl (by rw [e])
  rw [decide_eq_false hne]
  by_cases h:a.length<b.length
  ·have F1:AP (Eb a b 0) Mf:=⟨rfl,QX ha hb (by omega),by simp [Mf,Eb]; omega,Oo,by simp [Mf],by simp [Mf],by simp [Mf],by simp [Mf],by simp [Mf]⟩
   exact AN F1 (λ_ h=>by cases h) _ Asb hS λρ M' a' w' hS=>⟨.inr rfl,_,ρ,M',hS,Ana⟩
  ·have F2:AP (Eb a b 0) Mu:=⟨rfl,QX ha hb (by omega),by simp [Mu,Eb]; omega,Oo,by simp [Mu],by simp [Mu],by simp [Mu],by simp [Mu],by simp [Mu]⟩
   exact AN F2 (λ_ h=>by cases h) _ Amu hS λρ M' a' w' hS=>⟨.inr rfl,_,ρ,M',hS,AqB⟩
end
def CG(a:List Rat)(c:Rat):VL:=⟨λk=>match k with | 1=>(a.length:Int) | _=>0,λk=>match k with | 0=>a | _=>[],λk=>match k with | 0=>c | _=>0,λ_=>[]⟩
def zP:List (AV × AV):=[(aL (.v 0),aL (.v 0)),(aQ (.v 0) 99000000,aQ (.v 0) 99000000)]
def K3:Fa:=⟨[(0,3,0),(3,4,-1),(3,1,-1)],[(.v 0,1,0)],[(.v 0,99000000)],[],[(.v 0,4,0)],[],[]⟩
def Oj:Fa:=⟨[(0,1,0),(4,0,1000000)],[(.v 0,1,0),(.v 9,4,0)],[(.v 0,99000000),(.v 9,198000000)],[],[],[],[]⟩
def AqN:CE:=.ap 33 (.v 0) (.ap 30 (.v 0) (.i 3 0))
noncomputable def AgW:AV:=.fn 79 [] [.rptr [aQ (.v 0) 99000000],.rptr [aL (.v 0)]]
noncomputable def lL:Func:=Tryz.f26
noncomputable def RR:=Bw lL
def MR:List AV:=[aL (.v 0),aQ (.v 0) 99000000]
def ArZ:List (AV × AV):=(aI 1 0,aI 4 0) :: zP
noncomputable def AqA:PE:=BE 76 ArZ [aI 4 0,AgW] (aL (.v 9))
def Akk:Fm:=LS 10 [(2,.rptr [aL (.v 0)]),(3,.rptr [aQ (.v 0) 99000000])] [] 400
noncomputable def cE:=AQ (BT Oj []) Am 100 100 (.run (cl RR)) [] (B5 10 MR)
noncomputable def Aaa:=AQ (BT Oj [AqA,Jz Oj]) Am 100 100 (.run (cr RR)) [] Akk
def ArE:Rd:=⟨zP,[],[],[],[16,32],400⟩
def wE:List (AV × AV):=[(aL (.v 0),aL (.v 0))]
def Lc:Fa:=⟨[(0,3,0),(3,4,-1),(3,1,-2)],[(.v 0,1,0)],[(.v 0,99000000)],[],[(.v 0,4,0)],[],[]⟩
def Qk:Fa:=⟨[(0,1,-1),(4,0,1000000)],[(.v 0,1,0),(.v 9,4,0)],[(.v 0,99000000),(.v 9,99000002)],[],[],[],[]⟩
def K8:Fa:=⟨[(0,1,0),(1,0,0)],[(.v 0,1,0)],[],[],[],[],[]⟩
def ArN:CE:=.ap 33 (.ap 37 (.i 3 1) (.lit 0)) (.ap 30 (.v 0) (.i 3 1))
noncomputable def AgB:AV:=.fn 80 [] [.rptr [aL (.v 0)]]
noncomputable def VG:Func:=Tryz.f30
noncomputable def Qf:=Bw VG
def M7:List AV:=[aL (.v 0)]
def AmE:List (AV × AV):=(aI 1 (-1),aI 4 0) :: wE
noncomputable def Al1:PE:=BE 76 AmE [aI 4 0,AgB] (aL (.v 9))
def wI:Fm:=LS 12 [(1,.rptr [aL (.v 0)])] [] 400
noncomputable def eJ:=AQ (BT Il []) Am 100 100 (.run (cl Qf)) [] (B5 12 M7)
noncomputable def Aai:=AQ (BT Qk [Al1,Jz Qk]) Am 100 100 (.run (cr Qf)) [] wI
noncomputable def Aav:=AQ (BT K8 []) Am 100 100 (.run (cr Qf)) [] wI
def AmJ:Rd:=⟨wE,[],[],[],[16],400⟩
theorem Ate:RR = .seq (cl RR) (cr RR):=by kernel_rfl
theorem AsX:lL.body=some RR:=by kernel_rfl
theorem Aem:Ka K3 [] zP AgW AqN 198000000:=⟨by kernel_rfl,by kernel_rfl,by kernel_rfl,by kernel_rfl,by kernel_rfl,by kernel_rfl,by kernel_rfl,by kernel_rfl,by kernel_rfl,by kernel_rfl,by kernel_rfl⟩
theorem Aql:cE=some (.done .nor (Af cE)):=by kernel_rfl
theorem Aoe:Fs ArE 16 (Af cE) Akk=true:=by kernel_rfl
theorem ApF:below 16 Akk.H=below 16 (Af cE).H:=by kernel_rfl
theorem AnD:Aaa=some (.done .ret (Af Aaa)):=by kernel_rfl
theorem ApZ:Dz lL (Af Aaa)=some (aL (.ap 70 (.v 9) (.lit 0))):=by kernel_rfl
theorem AnO:(⟨MR ++ List.replicate (lL.ntmps - MR.length) (.val undef),[],16,[]⟩:Fm)=B5 10 MR:=by kernel_rfl
theorem Aor:Nat.ble MR.length lL.ntmps=true:=by kernel_rfl
theorem Atg:Qf = .seq (cl Qf) (cr Qf):=by kernel_rfl
theorem AsT:VG.body=some Qf:=by kernel_rfl
theorem Afw:Ka Lc [] wE AgB ArN 99000002:=⟨by kernel_rfl,by kernel_rfl,by kernel_rfl,by kernel_rfl,by kernel_rfl,by kernel_rfl,by kernel_rfl,by kernel_rfl,by kernel_rfl,by kernel_rfl,by kernel_rfl⟩
theorem Aqw:eJ=some (.done .nor (Af eJ)):=by kernel_rfl
theorem Ars:Fs AmJ 16 (Af eJ) wI=true:=by kernel_rfl
theorem AmO:below 16 wI.H=below 16 (Af eJ).H:=by kernel_rfl
theorem Any:Aai=some (.done .ret (Af Aai)):=by kernel_rfl
theorem ApX:Dz VG (Af Aai)=some (aL (.ap 70 (.v 9) (.lit 0))):=by kernel_rfl
theorem Ao9:Aav=some (.done .ret (Af Aav)):=by kernel_rfl
theorem AoB:Dz VG (Af Aav)=some (.val (.slice none 0 0)):=by kernel_rfl
theorem AnC:(⟨M7 ++ List.replicate (VG.ntmps - M7.length) (.val undef),[],16,[]⟩:Fm)=B5 12 M7:=by kernel_rfl
theorem AqG:Nat.ble M7.length VG.ntmps=true:=by kernel_rfl
section
variable {a : List Rat} {c : Rat} {f : Nat → Rat} {n : Nat}
theorem Q5(ha:a.length≤1000000)(k:Nat) : -1152921504606846976≤(CG a c).z k∧(CG a c).z k≤1152921504606846976:=by
 show -1152921504606846976≤(match k with | 1=>(a.length:Int) | _=>0)∧(match k with | 1=>(a.length:Int) | _=>0)≤(1152921504606846976:Int);split <;> omega
theorem ArP{l:List Rat}(h:∀ x∈l,At x 99000000)(i:Nat):At (l.getD i 0) 99000000:=by
 rw [List.getD_eq_getElem?_getD]
 cases hg:l[i]? with
 | none=>exact Ih.mono (by decide)
 | some x=>exact h x (List.mem_of_getElem? hg)
theorem AaQ:∀ p∈zP,∀ j j',Le (A_ (CG a c) f n j) (A_ (CG a c) f n j') p:=by
 intro p hp j j';simp only [zP,List.mem_cons,List.not_mem_nil,or_false] at hp
 rcases hp with rfl | rfl
 ·exact BR rfl
 ·exact M8 rfl
theorem R4(sa:∀ x∈a,At x 99000000)(sc:At c 99000000)(ha:a.length≤1000000){M:Nat→Prop}{w:World}{va vc:Value}(hm0:∀ b,M b→b<w.heap.size)(hva:(XP.rats a).p M w [va])(hvc:(As c).p vc w):Bv 26 M w [va,vc] (AJ a c):=by
 generalize hf:(λi=>c*a.getD i 0)=f;have hv:@Cz (Ae (A_ (CG a c) f a.length 0)) B4 M w MR [va,vc]:=⟨va,_,rfl,Bb (V:=A_ (CG a c) f a.length 0) (e:=.v 0) hva,vc,_,rfl,Cp (V:=A_ (CG a c) f a.length 0) (q:=.v 0) hvc sc,rfl⟩;have hF:AP (A_ (CG a c) f a.length 0) Oj:=⟨rfl,Lp (Q5 ha) ha (Nat.zero_le _),by simp [Oj,A_,CG]; omega,by simp [Oj,A_,CG,lD],by
  intro x hx;simp only [Oj,List.mem_cons,List.not_mem_nil,or_false] at hx
  rcases hx with rfl | rfl
  ·exact sa
  ·intro y hy
   change y∈(List.range a.length).map f at hy;obtain ⟨i,hi,rfl⟩:=List.mem_map.1 hy;rw [← hf];exact (sc.mul (ArP sa i)).mono (j:=198000000) (by decide),by simp [Oj],by simp [Oj],by simp [Oj],by simp [Oj]⟩
 have hFR:∀ j,j<a.length→AP (A_ (CG a c) f a.length j) K3:=λj hj=>⟨rfl,Lp (Q5 ha) ha (by omega),by simp [K3,A_,CG]; omega,by simp [K3,A_,CG,lD],by simpa [K3,A_,CG,lD] using sa,by simp [K3],by simp [K3,A_,CG,rD,Cy],by simp [K3],by simp [K3]⟩
 refine Bv.of (V:=A_ (CG a c) f a.length 0) (e:=.ap 70 (.v 9) (.lit 0)) (ρ:=B4) ?_ (@EI (Ae (A_ (CG a c) f a.length 0)) _ lL RR MR MR _ B4 M w [va,vc] Tryz.func26 AsX (by rfl) (Nat.le_of_ble_eq_true Aor) hm0 hv λa' hS=>?_)
 ·simp only [lD]
  unfold AJ
  congr 1
  show (List.range a.length).map f=a.map λx=>c*x
  rw [← hf];apply List.ext_getElem
  ·simp
  ·intro i h1 h2
   have:i<a.length:=by simpa using h1
   simp [this]
 ·rw [AnO] at hS
  rw [Ate];refine wp_seq ?_;show holds _ [] a' w (.run (cl RR));refine AN hF (λ_ h=>by cases h) _ Aql hS λρ M' a' w' hS=>?_
  obtain ⟨ρ,M',hS⟩:=A7 (E':=Ae (A_ (CG a c) f a.length 0)) ArE (CU (λp hp=>AaQ p hp 0 0) rfl rfl rfl) hm0 Aoe ApF hS;show holds _ [] a' w' (.run (cr RR));refine AN hF (λe he=>?_) _ AnD hS λρ M' a' w' hS=>⟨.inr rfl,_,ρ,M',hS,ApZ⟩
  simp only [List.mem_cons,List.not_mem_nil,or_false] at he
  rcases he with rfl | rfl
  ·refine AO (λ_ _=>by simp [go_sem]) rfl rfl (λp hp=>?_) λM w vs hm0 hv=>?_
   ·rcases List.mem_cons.1 hp with rfl | hp
    ·exact Cv rfl
    ·exact AaQ p hp 0 0
   ·refine Bv.rv (show Bv _ M w vs _ from KS (W:=CG a c) (f:=f) Aem rfl (Q5 ha) ha AaQ hFR (λj hj e he=>by cases he) (λj hj=>?_) hm0 hv) rfl
    rw [← hf];simp [AqN,qD,lD,zD,A_,CG]
  ·exact Gk hF
theorem vW:∀ p∈wE,∀ j j',Le (A_ (CG a c) f n j) (A_ (CG a c) f n j') p:=by
 intro p hp j j';simp only [wE,List.mem_cons,List.not_mem_nil,or_false] at hp;subst hp;exact BR rfl
theorem Akg(sa:∀ x∈a,At x 99000000)(ha:a.length≤1000000){M:Nat→Prop}{w:World}{va:Value}(hm0:∀ b,M b→b<w.heap.size)(hva:(XP.rats a).p M w [va]):Bv 30 M w [va] (Ia a):=by
 generalize hf:(λi=>(((i+1:Nat):Int):Rat)*a.getD (i+1) 0)=f;have hn:a.length - 1≤1000000:=by omega
 have hv:@Cz (Ae (A_ (CG a 0) f (a.length - 1) 0)) B4 M w M7 [va]:=⟨va,_,rfl,Bb (V:=A_ (CG a 0) f (a.length - 1) 0) (e:=.v 0) hva,rfl⟩;have sm:=Lp (W:=CG a 0) (f:=f) (Q5 ha) hn (Nat.zero_le (a.length - 1));have body:∀ r,(∀ M0 W0 a' w' ρ M',(∀ b,M0 b→b<W0.heap.size) → @Q0 (Ae (A_ (CG a 0) f (a.length - 1) 0)) W0 M0 wI ρ M' a' w'→holds (@Ajm (Ae (A_ (CG a 0) f (a.length - 1) 0)) VG r W0 M0) [] a' w' (.run (cr Qf))) →
   Calls Tryz.prog 30 [va].toArray w λe w'=>∃ v,e = .returned v ∧ @RV (Ae (A_ (CG a 0) f (a.length - 1) 0)) B4 M w' r v∧Below w.heap.size w w':=λr h=>by
  refine @EI (Ae (A_ (CG a 0) f (a.length - 1) 0)) _ VG Qf M7 M7 _ B4 M w [va] Tryz.func30 AsT (by rfl) (Nat.le_of_ble_eq_true AqG) hm0 hv λa' hS=>?_
  rw [AnC] at hS;rw [Atg];refine wp_seq ?_;show holds _ [] a' w (.run (cl Qf));refine AN (CS rfl sm) (λ_ h=>by cases h) _ Aqw hS λρ M' a' w' hS=>?_
  obtain ⟨ρ,M',hS⟩:=A7 (E':=Ae (A_ (CG a 0) f (a.length - 1) 0)) AmJ (CU (λp hp=>vW p hp 0 0) rfl rfl rfl) hm0 Ars AmO hS;exact h M w a' w' ρ M' hm0 hS
 by_cases h0:a.length=0
 ·have hF:AP (A_ (CG a 0) f (a.length - 1) 0) K8:=⟨rfl,sm,by simp [K8,A_,CG,h0],by simp [K8,A_,CG,lD],by simp [K8],by simp [K8],by simp [K8],by simp [K8],by simp [K8]⟩
  refine Calls.mono (body (.val (.slice none 0 0)) λM0 W0 a' w' ρ M' hm0 hS=>AN hF (λ_ h=>by cases h) _ Ao9 hS λρ M' a' w' hS=>⟨.inr rfl,_,ρ,M',hS,AoB⟩) λe w' ⟨u,e1,e2,e3⟩=>⟨u,e1,?_,e3⟩
  have e2:u = .slice none 0 0:=e2;have ha0:a=[]:=List.length_eq_zero_iff.1 h0;subst ha0;rw [e2];exact ⟨none,0,rfl,Nat.le_refl _,λh=>absurd rfl h⟩
 ·have hF:AP (A_ (CG a 0) f (a.length - 1) 0) Qk:=⟨rfl,sm,by simp [Qk,A_,CG]; omega,by simp [Qk,A_,CG,lD],by
   intro x hx;simp only [Qk,List.mem_cons,List.not_mem_nil,or_false] at hx
   rcases hx with rfl | rfl
   ·exact sa
   ·intro y hy
    change y∈(List.range (a.length - 1)).map f at hy;obtain ⟨i,hi,rfl⟩:=List.mem_map.1 hy;have hi:i<a.length - 1:=by simpa using hi
    rw [← hf];exact ((At.whole (i:=1) (show Sm (((i+1:Nat):Int)) 2 by unfold Sm; omega)).mul (ArP sa (i+1))).mono (j:=99000002) (by decide),by simp [Qk],by simp [Qk],by simp [Qk],by simp [Qk]⟩
  have hFR:∀ j,j<a.length - 1→AP (A_ (CG a 0) f (a.length - 1) j) Lc:=λj hj=>⟨rfl,Lp (Q5 ha) hn (by omega),by simp [Lc,A_,CG]; omega,by simp [Lc,A_,CG,lD],by simpa [Lc,A_,CG,lD] using sa,by simp [Lc],by simp [Lc,A_,CG,rD,Cy],by simp [Lc],by simp [Lc]⟩
  refine Bv.of (V:=A_ (CG a 0) f (a.length - 1) 0) (e:=.ap 70 (.v 9) (.lit 0)) (ρ:=B4) ?_ (body _ λM0 W0 a' w' ρ M' hm0 hS=>AN hF (λe he=>?_) _ Any hS λρ M' a' w' hS=>⟨.inr rfl,_,ρ,M',hS,ApX⟩)
  ·simp only [lD]
   rw [← hf];rfl
  ·simp only [List.mem_cons,List.not_mem_nil,or_false] at he
   rcases he with rfl | rfl
   ·refine AO (λ_ _=>by simp [go_sem]) rfl rfl (λp hp=>?_) λM w vs hm0 hv=>?_
    ·rcases List.mem_cons.1 hp with rfl | hp
     ·exact Cv (by show (a.length:Int) + -1=((a.length - 1:Nat):Int)+0; omega)
     ·exact vW p hp 0 0
    ·refine Bv.rv (show Bv _ M w vs _ from KS (W:=CG a 0) (f:=f) Afw rfl (Q5 ha) hn vW hFR (λj hj e he=>by cases he) (λj hj=>?_) hm0 hv) rfl
     rw [← hf];have:((j:Int)+1).toNat=j+1:=by omega
     simp [ArN,qD,lD,zD,A_,CG,this]
   ·exact Gk hF
end
def Sf(l:List (Option Rat))(w w':World)(v:Value):Prop:=∃ g arr k,v = .slice (some ⟨g,0,none⟩) l.length k∧l.length≤k∧w.heap.size≤g∧w'.heap[g]? = some (.cells arr 36 (0,0))∧AC w' l arr.toList
theorem B8{E:Dn}{f:Nat}{fn:Func}{c:Code}{xs xs':List AV}{R:Value→World→Prop}{ρ:B6}{M:Nat→Prop}{w:World}{vs:List Value}(hf:Tryz.prog.funcs[f]? = some fn)(hb:fn.body=some c)(hx:Gg (λ_=>none) xs=some xs')(hlen:xs'.length≤fn.ntmps)(hbnd:∀ b,M b→b<w.heap.size)(hv:@Cz E ρ M w xs vs)
  (h:∀ a,@Q0 E w M ⟨xs' ++ List.replicate (fn.ntmps - xs'.length) (.val undef),[],16,[]⟩ B4 M a w→c.wp Tryz.prog (λe a w'=>(e = .normal ∨ e = .ret)∧∃(E':Dn)(s:Fm)(ρ':B6)(M':Nat→Prop)(l:List AV)(r:AV),@Q0 E' w M s ρ' M' a w'∧Ew s fn.results.toList=some l∧vI l=some r∧∀ v,@RV E' ρ' M' w' r v→R v w') a w) :
  Calls Tryz.prog f vs.toArray w λe w'=>∃ v,e = .returned v∧R v w'∧Below w.heap.size w w':=by
 have hv:@Cz E B4 M w xs' vs:=@NP E (λ_=>none) ρ B4 M M w (λ_ _ _ e=>by cases e) (λ_ h=>h) xs xs' vs hx hv;refine calls_of_wp hf hb (Code.wp_mono ?_ (h { tmps:=vs.toArray ++ Array.replicate (fn.ntmps - vs.toArray.size) undef,defers:=[] } ?_))
 ·intro e a' w' ⟨he,E',s,ρ',M',l,r,hF,hl,hr0,hR⟩
  obtain ⟨v,e1,e2⟩:=@G6 E' _ w B4 M [] 16 s ρ' M' a' w' hF (λ_ h=>h) fn l r hl hr0;obtain ⟨_,Fdef,_,_,_,_,_,Ffr,_⟩:=hF;have hfin:a'.defers=[]∧∃ v,(results fn a'.tmps).run Tryz.prog w' = .ok v w'∧∃ u,Ending.returned v = .returned u∧R u w'∧Below w.heap.size w w':=⟨Fdef,v,e1,v,rfl,hR v e2,⟨Ffr.os,Ffr.tape,Ffr.output,Ffr.size,λb hb=>Ffr.keep b hb (by omega)⟩⟩
  rcases he with rfl | rfl
  ·exact hfin
  ·exact hfin
 ·have hvl:vs.length=xs'.length:=@Cz.len E _ _ _ _ _ hv
  refine ⟨by simp [hvl],rfl,λt x hx=>?_,⟨λo b e=>(by cases e),λo o' b b' g c c' e=>(by cases e)⟩,λo p e=>(by cases e),Nat.le_refl _,hbnd,QS.refl _ _,Tr.refl _ _ _,λ_ h=>h,λ_ h=>.inl h,λo p e=>.inl e,λo _ _=>⟨rfl,λ_ _ _ e=>(by cases e)⟩⟩;have hx:(xs' ++ List.replicate (fn.ntmps - xs'.length) (.val undef))[t]? = some x:=hx;show ∃ v,(vs.toArray ++ Array.replicate (fn.ntmps - vs.toArray.size) undef)[t]? = some v∧_;rw [List.getElem?_append] at hx;split at hx
  ·rename_i hlt
   obtain ⟨v,e,k⟩:=@Cz.get E _ _ _ _ _ _ _ hv hx;exact ⟨v,by rw [Array.getElem?_append_left (by simp [hvl,hlt])]; simpa using e,@Co.rv E _ _ _ _ _ k⟩
  ·rename_i hge
   rw [List.getElem?_replicate] at hx;split at hx
   ·cases hx
    refine ⟨undef,?_,rfl⟩;rw [Array.getElem?_append_right (by simp [hvl]; omega),Array.getElem?_replicate,if_pos];simp [hvl];omega
   ·cases hx
section
variable {W : VL} {f : Nat → Rat} {n : Nat}
theorem oO{F:Fa}{L:List PE}{P:List (AV × AV)}{c:AV}{q:CE}{b:Nat}(R:Ka F L P c q b)(hl:Ew (Af (Mj c)) mG.results.toList=some [.slx 48 G3])(hh:lk (Af (Mj c)).H 48=some ⟨36,0,[],false,some mQ⟩)(h0:W.z 0=0)(hs:∀ k,-1152921504606846976≤W.z k∧W.z k≤1152921504606846976)(hn:n≤1000000)
  (hP:∀ p∈P,∀ j j',Le (A_ W f n j) (A_ W f n j') p) (hF:∀ j,j<n→AP (A_ W f n j) F) (hL:∀ j,j<n→∀ e∈L,@PE.ok (Ae (A_ W f n j)) e) (hq:∀ j,j<n→qD (A_ W f n j) q=f j)
  {M:Nat→Prop} {w:World} {vs:List Value} (hm0:∀ b,M b→b<w.heap.size) (hv:@Cz (Ae (A_ W f n 0)) B4 M w [aI 4 0,c] vs) :
  Calls Tryz.prog 76 vs.toArray w λe w'=>∃ u,e = .returned u∧Sf (((List.range n).map f).map some) w w' u∧Below w.heap.size w w':=by
 refine @B8 (Ae (A_ W f n 0)) _ mG Z7 [aI 4 0,c] [aI 4 0,c] (λv w'=>Sf (((List.range n).map f).map some) w w' v) B4 M w vs Tryz.func76 (by rfl) R.id_ (by show 2≤22; omega) hm0 hv λa hS=>?_
 show holds _ [] a w (.run Z7);refine AN (V:=A_ W f n 0) (VZ h0 hs hn (Nat.zero_le _)) (λ_ h=>by cases h) _ R.e0 hS λρ M' a w' hS=>?_
 obtain ⟨ρ,M',hS⟩:=A7 (E':=Ae (A_ W f n 0)) (KP P) ⟨λp hp=>by
  simp only [KP,List.mem_cons] at hp
  rcases hp with rfl | rfl | hp
  ·exact Cv rfl
  ·exact MQ rfl
  ·exact hP p hp 0 0,λp hp=>by
  simp only [KP,List.mem_singleton] at hp;subst hp;rfl,λp hp M w cs r=>by
  simp only [KP,List.mem_singleton] at hp;subst hp;change AC w (rD (A_ W f n 0) (.ap 40 (.i 4 0) (.lit 0))) cs at r;show AC w (Cy f n 0) cs;rw [eZ];simpa [rD,zD,A_] using r,λp hp=>(by cases hp)⟩ hm0 R.m0 R.b0 hS
 refine CH (λj=>n - j) (A_ W f n) (λj=>j≤n) (Wt c) ?_ 0 (Nat.zero_le _) hS;intro j hj ρ M' a w' hS;show holds _ [] a w' (.run yE)
 by_cases hjn:j<n
 ·refine AN (V:=A_ W f n j) (hF j hjn) (hL j hjn) _ R.er hS λρ M' a w' hS=>?_
  obtain ⟨ρ,M',hS⟩:=A7 (E':=Ae (A_ W f n (j+1))) (K9 P q b) ⟨λp hp=>by
   simp only [K9,List.mem_cons] at hp
   rcases hp with rfl | rfl | hp
   ·exact Cv rfl
   ·exact Cv (by show (j:Int)+1=((j+1:Nat):Int)+0; omega)
   ·exact hP p hp j (j+1),λp hp=>by
   simp only [K9,List.mem_singleton] at hp;subst hp;rfl,λp hp M w cs r=>by
   simp only [K9,List.mem_singleton] at hp;subst hp;change AC w (rD (A_ W f n j) (.ap 41 (.v 0) (.ap 0 (.i 3 0) (.ap 52 q (.lit (b:Int)))))) cs at r;show AC w (Cy f n (j+1)) cs;rw [← bV];simp only [rD] at r;rw [hq j hjn] at r;have hz:(zD (A_ W f n j) (.i 3 0)).toNat=j:=by simp [zD,A_]
   rw [hz] at r;exact r,λp hp=>(by cases hp)⟩ hm0 R.mr R.br hS
  exact ⟨j+1,ρ,M',hjn,by show n - (j+1)<n - j; omega,hS⟩
 ·have hjn:j=n:=by omega
  subst hjn;refine AN (V:=A_ W f j j) (KA h0 hs hn) (λ_ h=>by cases h) _ R.ex hS λρ M' a w' hS=>?_
  show holds _ AeY a w' (.at_ (.ext 0));refine AN (V:=A_ W f j j) (KA h0 hs hn) (λ_ h=>by cases h) _ R.ee hS λρ M' a w' hS=>?_
  refine ⟨.inr rfl,Ae (A_ W f j j),_,ρ,M',_,.slx 48 G3,hS,hl,rfl,λv hv=>?_⟩;obtain ⟨_,_,_,⟨Fobj,_⟩,_⟩:=hS;obtain ⟨g,cc,arr,cs,⟨k_at,k_mut,k_own,k_blk,k_ty,k_cells,k_pre,k_cap⟩⟩:=Fobj 48 _ hh;have hv:@Rp (Ae (A_ W f j j)) ρ M' w' (.slx 48 G3) [v]:=hv;unfold Rp at hv;obtain ⟨g',k,cc',q1,q2,q3⟩:=hv;rw [k_at] at q1;simp only [Option.some.injEq,Prod.mk.injEq] at q1;obtain ⟨rfl,rfl⟩:=q1;have hNj:(Ae (A_ W f j j)).N G3=j:=by show (zD (A_ W f j j) (.i 4 0)).toNat=j; simp [zD,A_]
  rw [hNj] at q2 q3;obtain ⟨tl,he,ht⟩:=k_pre;rw [ht rfl,List.append_nil] at he;change AC w' (Cy f j j) cs at k_cells;rw [cN,← he] at k_cells;exact ⟨g,arr,k,by rw [(List.cons.inj q2).1]; simp,by simpa using q3,k_own,k_blk,k_cells⟩
end
theorem YS{V:VL}{ρ:B6}{M A:Nat→Prop}{w w':World}{t0:Nat}{H:Nat→Option OB}{n c:CE}{l:List (Option Rat)}{v:Value}(hs:@Fr (Ae V) ρ M A w t0 H)(hn:nD V n=l.length)(hc:∀ M w cs,AC w l cs→(bD V c).p M w cs)(hb:Below w.heap.size w w')(hg:Bz w w')(hf:Sf l w w' v) :
  @Cw (Ae V) ρ M A w t0 H [(t0,some ⟨36,0,[],false,some c⟩)] (.slx t0 n) v w':=by
 letI:=Ae V
 obtain ⟨g,arr,k,rfl,hk,hgs,hblk,hcells⟩:=hf;obtain ⟨hheap,hbnd,hnew,hfresh⟩:=hs;have h0:ρ t0=none:=hnew t0 (Nat.le_refl _) (by omega)
 let ρ':B6:=λo=>if o=t0 then some (g,0) else ρ o
 let M':Nat→Prop:=λb=>M b ∨ b=g
 have hext:∀ o p,ρ o=some p→ρ' o=some p:=λo p e=>by
  show (if o=t0 then _ else ρ o)=some p;rw [if_neg (λe2=>by rw [e2,h0] at e; cases e)];exact e
 have hTr:Tr ρ M w ρ' M' w':=⟨hg,λb hb2 _=>hb.block b hb2,λb hb2 hm=>by
  rcases hm with hm | rfl
  ·exact hm
  ·omega,hext⟩
 have hold:∀ o b,H o=some b→o≠t0:=λo b e e2=>by
  obtain ⟨g1,c1,_,_,k1⟩:=hheap.obj o b e;have:=k1.at_;rw [e2,h0] at this
  cases this
 have hupd:∀ o,FQ H [(t0,some ⟨36,0,[],false,some c⟩)] o=if o=t0 then some ⟨36,0,[],false,some c⟩ else H o:=λo=>by
  by_cases h:o=t0
  ·subst h
   simp [FQ]
  ·rw [if_neg h]
   exact K7 (λx hx=>by rw [List.mem_singleton] at hx; subst hx; exact λe=>h e.symm)
 have at0:ρ' t0=some (g,0):=if_pos rfl;refine ⟨ρ',M',hTr,?_,⟨λo b e=>?_,λo o' b b' g1 c1 c2 e e' r r'=>?_⟩,λo p e=>?_,λb h=>.inl h,λb h=>?_,λb h=>?_,⟨hb.os,hb.tape,hb.output,hb.size,λb hb2 _=>hb.block b hb2⟩,λo b g1 c1 e _ r=>?_⟩
 ·show Rp ρ' M' w' (.slx t0 n) [_]
  unfold Rp;have hN:Dn.N n=l.length:=hn;exact ⟨g,k,0,at0,by rw [hN],by rw [hN]; exact hk⟩
 ·rw [hupd] at e
  split at e
  ·rename_i ho
   subst ho
   cases e
   exact ⟨g,0,arr,arr.toList,at0,.inr rfl,hfresh g hgs,hblk,C_ TQ,hc M' w' _ hcells,⟨[],(List.append_nil _).symm,λ_=>rfl⟩,λh=>by cases h⟩
  ·obtain ⟨g1,c1,arr1,cs1,k1⟩:=hheap.obj o b e
   have hlt:g1<w.heap.size:=Bu k1.blk;exact ⟨g1,c1,arr1,cs1,k1.st hTr .inl (hb.block g1 hlt)⟩
 ·rw [hupd] at e e'
  have lt:∀ o b,H o=some b→∀ g1 c1,ρ' o=some (g1,c1)→g1<w.heap.size∧∃ c3,ρ o=some (g1,c3):=λo b e g1 c1 r=>by
   obtain ⟨g3,c3,arr3,cs3,k3⟩:=hheap.obj o b e;have:=hext _ _ k3.at_;rw [r] at this;simp only [Option.some.injEq,Prod.mk.injEq] at this;exact ⟨by rw [this.1]; exact Bu k3.blk,c3,by rw [this.1]; exact k3.at_⟩
  split at e <;> split at e'
  ·rename_i h1 h2
   rw [h1,h2]
  ·rename_i h1 h2
   subst h1;rw [at0] at r
   cases r
   have:=(lt o' b' e' _ _ r').1;omega
  ·rename_i h1 h2
   subst h2;rw [at0] at r'
   cases r'
   have:=(lt o b e _ _ r).1;omega
  ·obtain ⟨_,c3,q3⟩:=lt o b e _ _ r
   obtain ⟨_,c4,q4⟩:=lt o' b' e' _ _ r';exact hheap.inj o o' b b' g1 c3 c4 e e' q3 q4
 ·have e:(if o=t0 then some (g,0) else ρ o)=some p:=e
  split at e
  ·rename_i h
   exact .inr ⟨by omega,by omega⟩
  ·exact .inl e
 ·rcases h with h | rfl
  ·exact .inl h
  ·exact .inr hgs
 ·rcases h with h | rfl
  ·have:=hbnd b h
   have:=hb.size;omega
  ·exact Bu hblk
 ·obtain ⟨g3,c3,arr3,cs3,k3⟩:=hheap.obj o b e
  have:=k3.at_;rw [r] at this;simp only [Option.some.injEq,Prod.mk.injEq] at this;have hlt:g3<w.heap.size:=Bu k3.blk;rw [this.1];exact hb.block g3 hlt
noncomputable def frC(f:Nat)(P:List (AV × AV))(ex:List AV)(n c:CE):DZ:=λg xs _ _ t0=>if Nat.beq g f && Gq (Zz P) [] xs ex then some (.slx t0 n,[(t0,some ⟨36,0,[],false,some c⟩)]) else none
theorem AiM{V:VL}{f:Nat}{P:List (AV × AV)}{ex:List AV}{n c:CE}{l:List (Option Rat)}(pl:Br f)(ho:ex.all AV.one=true)(hP:∀ p∈P,Le V V p)(hn:nD V n=l.length)(hc:∀ M w cs,AC w l cs→(bD V c).p M w cs)
  (h:∀(M:Nat→Prop)(w:World)(vs:List Value),(∀ b,M b→b<w.heap.size) → @Cz (Ae V) B4 M w ex vs→Calls Tryz.prog f vs.toArray w λe w'=>∃ u,e = .returned u∧Sf l w w' u∧Below w.heap.size w w'):@EG (Ae V) (frC f P ex n c):=by
 intro g xs H n0 t0 r U e;unfold frC at e;split at e
 ·rename_i hc2
  rw [Bool.and_eq_true] at hc2;have hg:=Nat.eq_of_beq_eq_true hc2.1;subst hg
  cases e
  refine ⟨pl,λρ M w vs hs _ _ hv=>?_⟩;have hbnd:∀ b,M b→b<w.heap.size:=by
   obtain ⟨_,hbnd,_,_⟩:=hs;exact hbnd
  exact Calls.mono (h M w vs hbnd (ST P hP hc2.2 ho hv)) λe w' ⟨u,e1,e2,e3⟩=>⟨u,e1,YS hs hn hc e3 (Bz.of_below e3) e2⟩
 ·cases e
noncomputable def tbC(F:Fa)(l:List PE)(C:DZ):Tb:=⟨Ke (l ++ tY F),oZ F,C⟩
theorem Ak5{V:VL}{F:Fa}{l:List PE}{C:DZ}{m n:Nat}{cf:Cf}{k:List JX}{s:Fm}{W0:World}{M0:Nat→Prop}{Q:Exit→Act→World→Prop}{ρ:B6}{M:Nat→Prop}{a:Act}{w:World}(hF:AP V F)(hl:∀ e∈l,@PE.ok (Ae V) e)(hC:@EG (Ae V) C)(o:Yw)(h:AQ (tbC F l C) Am m n cf k s=some o)(hS:@Q0 (Ae V) W0 M0 s ρ M a w)(hQ:ZC (Ae V) W0 M0 Q o):holds Q k a w cf:=
 R5 (@Qv.mk (Ae V) _ (Wy hF hl) (dT hF) hC) CV n cf k s o h hQ ρ M a w hS
noncomputable def Qo:Func:=Tryz.f24
noncomputable def Ob:=Bw Qo
noncomputable def XO:=Xo Ob []
noncomputable def Ajb:List JX:=Xp Ob []
noncomputable def gZ:=Xo XO []
noncomputable def Aas:List JX:=Xp XO []
def B_(a b R:List Rat)(i j:Nat):VL:=⟨λk=>match k with | 1=>(a.length:Int) | 2=>(b.length:Int) | 4=>(a.length:Int)+b.length - 1 | 5=>(a.length:Int)+b.length | 6=>(i:Int) | 7=>(j:Int) | 8=>(i:Int)+j | _=>0,λk=>match k with | 0=>a | 1=>b | 10=>R | _=>[],λ_=>0,λk=>match k with | 1=>R.map some | _=>[]⟩
def Jo:CE:=.ap 60 (.v 1) (.lit 0)
def Qr:CE:=.ap 30 (.v 0) (.i 6 0)
def TW:List (CE × Nat × Int):=[(.v 0,1,0),(.v 1,2,0)]
def AeK:List (CE × Nat):=[(.v 0,40000000),(.v 1,40000000)]
def Mk:Fa:=⟨[(0,1,-1),(0,2,-1)],TW,[],[],[],[],[(1,2,5)]⟩
def P0:Fa:=⟨[(1,0,0),(0,1,0)],TW,[],[],[],[],[]⟩
def O6:Fa:=⟨[(0,1,-1),(2,0,0),(0,2,0)],TW,[],[],[],[],[]⟩
def MM(t:Bool):Fa:=⟨[(0,6,0),(6,1,-1)],TW,AeK,[(Qr,t)],[],[],[]⟩
def Mq:Fa:=⟨[(1,6,0)],TW,[],[],[],[],[]⟩
def O8:Fa:=⟨[(0,7,0),(7,2,-1),(0,8,0),(8,4,-1)],TW,AeK,[],[(.v 1,4,0)],[(.v 1,99000000)],[(6,7,8)]⟩
def Mr:Fa:=⟨[(2,7,0)],TW,[],[],[],[],[]⟩
noncomputable def QQ:AV:=.fn 77 [] []
def Agv:List (AV × AV):=[(aI 5 (-1),aI 4 0)]
noncomputable def Aqk:DZ:=frC 76 Agv [aI 4 0,QQ] G3 Jo
def Mv:Fa:=⟨[(0,3,0),(3,4,-1)],[],[],[],[(.v 0,4,0)],[],[]⟩
def AhW:CE:=.ap 36 (.lit 0) (.lit 1)
noncomputable def Qp:Fm:=LS 59 [(0,aL (.v 0)),(1,aL (.v 1)),(5,.slx 256 G3),(25,aL (.v 0)),(26,aI 1 0),(27,aI 6 0)] [(256,some ⟨36,0,[],false,some Jo⟩)] 1000
noncomputable def Og:Fm:=LS 59 [(0,aL (.v 0)),(1,aL (.v 1)),(5,.slx 256 G3),(6,aI 6 0),(7,.ptr 1064 0),(25,aL (.v 0)),(26,aI 1 0),(27,aI 6 0),(34,aL (.v 1)),(35,aI 2 0),(36,aI 7 0)] [(256,some ⟨36,0,[],false,some Jo⟩),(1064,some ⟨36,1,[aQ Qr 40000000],false,none⟩)] 2000
noncomputable def fF:=AQ (tbC Mk [] Aqk) Am 100 100 (.run Ob) [] (B5 59 Cx)
noncomputable def kF:=AQ (BT P0 []) Am 100 100 (.run Ob) [] (B5 59 Cx)
noncomputable def fY:=AQ (BT O6 []) Am 100 100 (.run Ob) [] (B5 59 Cx)
noncomputable def cS:=AQ (BT (MM false) []) Am 100 100 (.run XO) [] Qp
noncomputable def fW:=AQ (BT (MM true) []) Am 100 100 (.run XO) [] Qp
noncomputable def uS:=AQ (BT Mq []) Am 100 100 (.run XO) [] Qp
noncomputable def bR:=AQ (BT O8 []) Am 100 100 (.run gZ) [] Og
noncomputable def Acl:=AQ (BT Mr []) Am 100 100 (.run gZ) [] Og
noncomputable def kD:=AQ (BT Il []) Am 100 100 (.at_ (.ext 2)) Aas (Af Acl)
noncomputable def gT:=AQ (BT Il []) Am 100 100 (.at_ (.ext 0)) Ajb (Af uS)
def Vz:CE:=.ap 31 (.ap 35 (.v 1) (.i 8 0)) (.ap 33 Qr (.ap 30 (.v 1) (.i 7 0)))
def QT:List (CE × CE):=[(G3,G3)]
def tT:Rd:=⟨(.val (.int .i64 0),aI 6 0) :: (aI 1 0,aI 1 0) :: Ei,QT,[(Jo,Jo)],[],[],1000⟩
def Abt:Rd:=⟨(.val (.int .i64 0),aI 7 0) :: (aQ Qr 40000000,aQ Qr 40000000) :: (aI 6 0,aI 6 0) :: (aI 1 0,aI 1 0) :: (aI 2 0,aI 2 0) :: Ei,QT,[(Jo,Jo)],[],[],2000⟩
def Abv:Rd:=⟨(aI 7 1,aI 7 0) :: (aQ Qr 40000000,aQ Qr 40000000) :: (aI 6 0,aI 6 0) :: (aI 1 0,aI 1 0) :: (aI 2 0,aI 2 0) :: Ei,QT,[(.ap 60 (.ap 41 (.v 1) (.ap 0 (.i 8 0) (.ap 52 Vz (.lit 179000001)))) (.lit 0),Jo)],[],[],2000⟩
def QN:Rd:=⟨(aI 6 1,aI 6 0) :: (aI 1 0,aI 1 0) :: Ei,QT,[(Jo,Jo)],[],[],1000⟩
def AbT:Rd:=⟨[],[],[],[(256,G3,Jo,.ap 51 (.v 10) (.lit 0))],[],3000⟩
def XC:Fm:=LS 59 [(4,aL (.v 10))] [] 3000
theorem Asf:fF=some (.loop XO Ajb (Af fF)):=by kernel_rfl
theorem Amp:kF=some (.done .ret (Af kF)):=by kernel_rfl
theorem ArI:fY=some (.done .ret (Af fY)):=by kernel_rfl
theorem Ap9:Dz Qo (Af kF)=some (.val (.slice none 0 0)):=by kernel_rfl
theorem Am8:Dz Qo (Af fY)=some (.val (.slice none 0 0)):=by kernel_rfl
theorem Anx:cS=some (.loop gZ Aas (Af cS)):=by kernel_rfl
theorem AmV:fW=some (.done .nor (Af fW)):=by kernel_rfl
theorem Asg:uS=some (.done (.ext 0) (Af uS)):=by kernel_rfl
theorem AqZ:bR=some (.done .nor (Af bR)):=by kernel_rfl
theorem ApW:Acl=some (.done (.ext 2) (Af Acl)):=by kernel_rfl
theorem AqJ:kD=some (.done .nor (Af kD)):=by kernel_rfl
theorem AnW:gT=some (.done .ret (Af gT)):=by kernel_rfl
theorem Ao8:Fs tT 16 (Af fF) Qp=true:=by kernel_rfl
theorem App:Fs Abt 16 (Af cS) Og=true:=by kernel_rfl
theorem AoL:Fs Abv 16 (Af bR) Og=true:=by kernel_rfl
theorem ArA:Fs QN 16 (Af kD) Qp=true:=by kernel_rfl
theorem Aqb:Fs QN 16 (Af fW) Qp=true:=by kernel_rfl
theorem ApH:Fs AbT 16 (Af gT) XC=true:=by kernel_rfl
theorem Aok:below 16 Qp.H=below 16 (Af fF).H:=by kernel_rfl
theorem Ame:below 16 Og.H=below 16 (Af cS).H:=by kernel_rfl
theorem AnF:below 16 Og.H=below 16 (Af bR).H:=by kernel_rfl
theorem Asc:below 16 Qp.H=below 16 (Af kD).H:=by kernel_rfl
theorem Am5:below 16 Qp.H=below 16 (Af fW).H:=by kernel_rfl
theorem Al3:below 16 XC.H=below 16 (Af gT).H:=by kernel_rfl
theorem Agz:Qo.body=some Ob:=by kernel_rfl
theorem AhQ:(⟨Cx ++ List.replicate (Qo.ntmps - Cx.length) (.val undef),[],16,[]⟩:Fm)=B5 59 Cx:=by kernel_rfl
theorem AgK:Nat.ble Cx.length Qo.ntmps=true:=by kernel_rfl
theorem Abh:Ka Mv [] [] QQ AhW 1:=⟨by kernel_rfl,by kernel_rfl,by kernel_rfl,by kernel_rfl,by kernel_rfl,by kernel_rfl,by kernel_rfl,by kernel_rfl,by kernel_rfl,by kernel_rfl,by kernel_rfl⟩
theorem ApM:Ew (Af (Mj QQ)) mG.results.toList=some [.slx 48 G3]:=by kernel_rfl
theorem Arl:lk (Af (Mj QQ)).H 48=some ⟨36,0,[],false,some mQ⟩:=by kernel_rfl
theorem G_{R:List Rat}{x:Rat}{b:List Rat}{i:Nat}:∀ j,(D_ R x b i j).length=R.length
 | 0=>rfl
 | j+1=>by simp [D_,G_ j]
theorem Fp{a b:List Rat}:∀ i,(BW a b i).length=a.length+b.length - 1
 | 0=>by simp [BW]
 | i+1=>by rw [BW,G_,Fp i]
theorem Ly{R:List Rat}{b:List Rat}{i:Nat}:∀ j,D_ R 0 b i j=R
 | 0=>rfl
 | j+1=>by
  rw [D_,Ly j];apply List.ext_getElem
  ·simp
  ·intro k h1 h2
   rw [List.getElem_set];split
   ·rename_i h
    subst h;have h0:(R.getD (i+j) 0)+0*b.getD j 0=R.getD (i+j) 0:=by grind
    rw [h0,List.getD_eq_getElem?_getD,List.getElem?_eq_getElem h2];rfl
   ·rfl
theorem Acs:Ew XC Qo.results.toList=some [aL (.v 10)]:=by kernel_rfl
theorem AmX:Gq (Zz [(aI 4 0,aI 4 0)]) [] [aI 4 0,QQ] [aI 4 0,QQ]=true:=by kernel_rfl
section
variable {a b R : List Rat} {i j : Nat}
theorem ME(ha:a.length≤400000)(hb:b.length≤400000)(hi:i≤400000)(hj:j≤400000)(k:Nat) : -1152921504606846976≤(B_ a b R i j).z k∧(B_ a b R i j).z k≤1152921504606846976:=by
 show -1152921504606846976≤(match k with | 1=>(a.length:Int) | 2=>(b.length:Int) | 4=>(a.length:Int)+b.length - 1 | 5=>(a.length:Int)+b.length | 6=>(i:Int) | 7=>(j:Int) | 8=>(i:Int)+j | _=>0)∧(match k with | 1=>(a.length:Int) | 2=>(b.length:Int) | 4=>(a.length:Int)+b.length - 1 | 5=>(a.length:Int)+b.length | 6=>(i:Int) | 7=>(j:Int) | 8=>(i:Int)+j | _=>0)≤(1152921504606846976:Int);split <;> omega
theorem Kf:∀ x∈TW,((lD (B_ a b R i j) x.1).length:Int)=(B_ a b R i j).z x.2.1+x.2.2:=by
 simp [TW,B_,lD]
theorem Ahz(sa:∀ x∈a,At x 40000000)(sb:∀ x∈b,At x 40000000):∀ x∈AeK,∀ y∈lD (B_ a b R i j) x.1,At y x.2:=by
 simpa [AeK,B_,lD] using ⟨sa,sb⟩
theorem WL{R':List Rat}{i' j':Nat}:∀ p∈Ei,Le (B_ a b R i j) (B_ a b R' i' j') p:=by
 intro p hp;simp only [Ei,List.mem_cons,List.not_mem_nil,or_false] at hp
 rcases hp with rfl | rfl
 ·exact BR rfl
 ·exact BR rfl
theorem Wn{R':List Rat}{i' j':Nat}{d:Rd}(h1:∀ p∈d.vs,Le (B_ a b R i j) (B_ a b R' i' j') p)(h2:d.ns=QT)(h3:∃ c,d.bs=[(c,Jo)]∧∀ M w cs,(bD (B_ a b R i j) c).p M w cs→AC w (R'.map some) cs)(h4:d.rest=[]):M_ (Ae (B_ a b R i j)) (Ae (B_ a b R' i' j')) d:=by
 obtain ⟨c,hc,h3⟩:=h3;refine ⟨h1,λp hp=>?_,λp hp M w cs r=>?_,λp hp=>(by rw [h4] at hp; cases hp)⟩
 ·rw [h2] at hp
  simp only [QT,List.mem_singleton] at hp;subst hp;rfl
 ·rw [hc,List.mem_singleton] at hp
  subst hp;exact h3 M w cs r
theorem AaP(ha:a.length≤400000)(hb:b.length≤400000)(ha0:0<a.length):@EG (Ae (B_ a b (BW a b 0) 0 0)) Aqk:=by
 refine AiM (l:=(BW a b 0).map some) (λ_ _=>by simp [go_sem]) rfl (λp hp=>?_) ?_ (λM w cs h=>h) λM w vs hm0 hv=>?_
 ·simp only [Agv,List.mem_singleton] at hp
  subst hp
  exact Cv (by show (a.length:Int)+b.length + -1=(a.length:Int)+b.length - 1+0; omega)
 ·show ((a.length:Int)+b.length - 1+0).toNat=_
  rw [List.length_map,Fp]
  omega
 ·have hN:a.length+b.length - 1≤1000000:=by omega
  have s0:∀ k:Nat,-1152921504606846976≤(0:Int)∧(0:Int)≤1152921504606846976:=λ_=>by omega
  have h:=oO (W:=⟨λ_=>0,λ_=>[],λ_=>0,λ_=>[]⟩) (f:=λ_=>0) (n:=a.length+b.length - 1) Abh ApM Arl rfl s0 hN (λp hp=>by cases hp) (λj hj=>⟨rfl,Lp s0 hN (by omega),by simp [Mv,A_]; omega,by simp [Mv],by simp [Mv],by simp [Mv],by simp [Mv,A_,rD,Cy],by simp [Mv],by simp [Mv]⟩) (λj hj e he=>by cases he) (λj hj=>by simp [AhW,qD]) hm0
   (ST [(aI 4 0,aI 4 0)] (λp hp=>by
    rw [List.mem_singleton] at hp
    subst hp
    exact Cv (by show (a.length:Int)+b.length - 1+0=((a.length+b.length - 1:Nat):Int)+0; omega)) AmX rfl hv)
  have he:(List.range (a.length+b.length - 1)).map (λ_=>(0:Rat))=BW a b 0:=by
   rw [BW]
   apply List.ext_getElem
   ·simp
   ·intro k h1 h2
    simp
  rw [he] at h
  exact h
theorem AeV(hk:i+j<R.length):rD (B_ a b R i j) (.ap 41 (.v 1) (.ap 0 (.i 8 0) (.ap 52 Vz (.lit 179000001))))=(R.set (i+j) (R.getD (i+j) 0+a.getD i 0*b.getD j 0)).map some:=by
 have hz:(zD (B_ a b R i j) (.i 8 0)).toNat=i+j:=by show ((i:Int)+j+0).toNat=i+j; omega
 have h6:(zD (B_ a b R i j) (.i 6 0)).toNat=i:=by show ((i:Int)+0).toNat=i; omega
 have h7:(zD (B_ a b R i j) (.i 7 0)).toNat=j:=by show ((j:Int)+0).toNat=j; omega
 have hq:qD (B_ a b R i j) Vz=R.getD (i+j) 0+a.getD i 0*b.getD j 0:=by
  simp only [Vz,Qr,qD,lD,rD,hz,h6,h7];show ((R.map some).getD (i+j) none).getD 0+a.getD i 0*b.getD j 0=_
  congr 1
  rw [List.getD_eq_getElem?_getD,List.getD_eq_getElem?_getD,List.getElem?_map,List.getElem?_eq_getElem hk];rfl
 simp only [rD,hz,hq];show (R.map some).set (i+j) _=_;rw [List.map_set]
theorem AgV(sa:∀ x∈a,At x 40000000)(sb:∀ x∈b,At x 40000000)(ha:a.length≤400000)(hb:b.length≤400000)(sR:∀ i,i<a.length→∀ j,j<b.length→∀ x∈D_ (BW a b i) (a.getD i 0) b i j,At x 99000000)
  {M:Nat→Prop} {w:World} {va vb:Value} (hm0:∀ b,M b→b<w.heap.size) (hva:(XP.rats a).p M w [va]) (hvb:(XP.rats b).p M w [vb]):Bv 24 M w [va,vb] (mulL a b):=by
 have hv:@Cz (Ae (B_ a b (BW a b 0) 0 0)) B4 M w Cx [va,vb]:=⟨va,_,rfl,Bb (V:=B_ a b (BW a b 0) 0 0) (e:=.v 0) hva,vb,_,rfl,Bb (V:=B_ a b (BW a b 0) 0 0) (e:=.v 1) hvb,rfl⟩;have nilC:∀{F:Fa}{o:Yw}{s:Fm},AP (B_ a b (BW a b 0) 0 0) F→AQ (BT F []) Am 100 100 (.run Ob) [] (B5 59 Cx)=some (.done .ret s)→Dz Qo s=some (.val (.slice none 0 0))→Bv 24 M w [va,vb] []:=fun {F} {o} {s} hF he hx=>by
  refine Calls.mono (@EI (Ae (B_ a b (BW a b 0) 0 0)) _ Qo Ob Cx Cx (.val (.slice none 0 0)) B4 M w [va,vb] Tryz.func24 Agz (by rfl) (Nat.le_of_ble_eq_true AgK) hm0 hv λa' hS=>?_) λe w' ⟨u,e1,e2,e3⟩=>⟨u,e1,?_,e3⟩
  ·rw [AhQ] at hS
   show holds _ [] a' w (.run Ob);exact AN hF (λ_ h=>by cases h) _ he hS λρ M' a' w' hS=>⟨.inr rfl,_,ρ,M',hS,hx⟩
  ·have e2:u = .slice none 0 0:=e2
   rw [e2];exact ⟨none,0,rfl,Nat.le_refl _,λh=>absurd rfl h⟩
 by_cases ha0:a.length=0
 ·have he:mulL a b=[]:=if_pos (.inl (List.length_eq_zero_iff.1 ha0))
  rw [he];exact nilC (o:=.done .ret (Af kF)) ⟨rfl,ME ha hb (by omega) (by omega),by simp [P0,B_,ha0],Kf,by simp [P0],by simp [P0],by simp [P0],by simp [P0],by simp [P0]⟩ Amp Ap9
 by_cases hb0:b.length=0
 ·have he:mulL a b=[]:=if_pos (.inr (List.length_eq_zero_iff.1 hb0))
  rw [he];exact nilC (o:=.done .ret (Af fY)) ⟨rfl,ME ha hb (by omega) (by omega),by simp [O6,B_,hb0]; omega,Kf,by simp [O6],by simp [O6],by simp [O6],by simp [O6],by simp [O6]⟩ ArI Am8
 have he:mulL a b=BW a b a.length:=if_neg (λh=>by
  rcases h with h | h
  ·exact ha0 (by rw [h]; rfl)
  ·exact hb0 (by rw [h]; rfl))
 rw [he];refine @B8 (Ae (B_ a b (BW a b 0) 0 0)) _ Qo Ob Cx Cx (λu w'=>(XP.rats (BW a b a.length)).p M w' [u]) B4 M w [va,vb] Tryz.func24 Agz (by rfl) (Nat.le_of_ble_eq_true AgK) hm0 hv λa' hS=>?_
 rw [AhQ] at hS;show holds _ [] a' w (.run Ob);have F0:∀{R:List Rat}{i j},i≤400000→j≤400000→AP (B_ a b R i j) Il:=λh1 h2=>CS rfl (ME ha hb h1 h2)
 have HF0:AP (B_ a b (BW a b 0) 0 0) Mk:=⟨rfl,ME ha hb (by omega) (by omega),by simp [Mk,B_]; omega,Kf,by simp [Mk],by simp [Mk],by simp [Mk],by simp [Mk],by simp [Mk,B_]⟩;refine Ak5 HF0 (λ_ h=>by cases h) (AaP ha hb (by omega)) _ Asf hS λρ M' a' w' hS=>?_
 obtain ⟨ρ,M',hS⟩:=A7 (E':=Ae (B_ a b (BW a b 0) 0 0)) tT (Wn (λp hp=>by
  simp only [tT,List.mem_cons] at hp
  rcases hp with rfl | rfl | hp
  ·exact MQ rfl
  ·exact Cv rfl
  ·exact WL p (by simpa [Ei] using hp)) rfl ⟨Jo,rfl,λM w cs r=>r⟩ rfl) hm0 Ao8 Aok hS
 refine CH (λi=>a.length - i) (λi=>B_ a b (BW a b i) i 0) (λi=>i≤a.length) Qp ?_ 0 (Nat.zero_le _) hS;intro i hi ρ M' a' w' hS;show holds _ [] a' w' (.run XO)
 by_cases hil:i<a.length
 ·have FA:∀ t,decide (a.getD i 0=0)=t→AP (B_ a b (BW a b i) i 0) (MM t):=λt ht=>⟨rfl,ME ha hb (by omega) (by omega),by simp [MM,B_]; omega,Kf,Ahz sa sb,by
   intro x hx;simp only [MM,List.mem_singleton] at hx;subst hx;rw [← ht];have:qD (B_ a b (BW a b i) i 0) Qr=a.getD i 0:=by simp [Qr,qD,lD,zD,B_]
   rw [this],by simp [MM],by simp [MM],by simp [MM]⟩
  by_cases hx:a.getD i 0=0
  ·refine AN (FA true (decide_eq_true hx)) (λ_ h=>by cases h) _ AmV hS λρ M' a' w' hS=>?_
   obtain ⟨ρ,M',hS⟩:=A7 (E':=Ae (B_ a b (BW a b (i+1)) (i+1) 0)) QN (Wn (λp hp=>by
    simp only [QN,List.mem_cons] at hp
    rcases hp with rfl | rfl | hp
    ·exact Cv (by show (i:Int)+1=((i+1:Nat):Int)+0; omega)
    ·exact Cv rfl
    ·exact WL p (by simpa [Ei] using hp)) rfl ⟨Jo,rfl,λM w cs r=>by rw [BW,hx,Ly]; exact r⟩ rfl) hm0 Aqb Am5 hS
   exact ⟨i+1,ρ,M',hil,by show a.length - (i+1)<a.length - i; omega,hS⟩
  ·refine AN (FA false (decide_eq_false hx)) (λ_ h=>by cases h) _ Anx hS λρ M' a' w' hS=>?_
   obtain ⟨ρ,M',hS⟩:=A7 (E':=Ae (B_ a b (D_ (BW a b i) (a.getD i 0) b i 0) i 0)) Abt (Wn (λp hp=>by
    simp only [Abt,List.mem_cons] at hp
    rcases hp with rfl | rfl | rfl | rfl | rfl | hp
    ·exact MQ rfl
    ·exact M8 rfl
    ·exact Cv rfl
    ·exact Cv rfl
    ·exact Cv rfl
    ·exact WL p (by simpa [Ei] using hp)) rfl ⟨Jo,rfl,λM w cs r=>r⟩ rfl) hm0 App Ame hS
   refine CH (λj=>b.length - j) (λj=>B_ a b (D_ (BW a b i) (a.getD i 0) b i j) i j) (λj=>j≤b.length) Og ?_ 0 (Nat.zero_le _) hS;intro j hj ρ M' a' w' hS;have hlen:(D_ (BW a b i) (a.getD i 0) b i j).length=a.length+b.length - 1:=by rw [G_,Fp]
   show holds _ [] a' w' (.run gZ)
   by_cases hjl:j<b.length
   ·have FB:AP (B_ a b (D_ (BW a b i) (a.getD i 0) b i j) i j) O8:=⟨rfl,ME ha hb (by omega) (by omega),by simp [O8,B_]; omega,Kf,Ahz sa sb,by simp [O8],by
     intro x hx;simp only [O8,List.mem_singleton] at hx;subst hx;show (((D_ (BW a b i) (a.getD i 0) b i j).map some).length:Int)=(a.length:Int)+b.length - 1+0;rw [List.length_map,hlen];omega,by
     intro x hx y hy;simp only [O8,List.mem_singleton] at hx;subst hx;change y∈(D_ (BW a b i) (a.getD i 0) b i j).map some at hy;obtain ⟨q,hq,rfl⟩:=List.mem_map.1 hy;exact ⟨q,rfl,sR i hil j hjl q hq⟩,by simp [O8,B_]⟩
    refine AN FB (λ_ h=>by cases h) _ AqZ hS λρ M' a' w' hS=>?_
    obtain ⟨ρ,M',hS⟩:=A7 (E':=Ae (B_ a b (D_ (BW a b i) (a.getD i 0) b i (j+1)) i (j+1))) Abv (Wn (λp hp=>by
     simp only [Abv,List.mem_cons] at hp
     rcases hp with rfl | rfl | rfl | rfl | rfl | hp
     ·exact Cv (by show (j:Int)+1=((j+1:Nat):Int)+0; omega)
     ·exact M8 rfl
     ·exact Cv rfl
     ·exact Cv rfl
     ·exact Cv rfl
     ·exact WL p (by simpa [Ei] using hp)) rfl ⟨_,rfl,λM w cs r=>by
      change AC w (rD _ (.ap 41 (.v 1) (.ap 0 (.i 8 0) (.ap 52 Vz (.lit 179000001))))) cs at r;rw [AeV (by omega)] at r;exact r⟩ rfl) hm0 AoL AnF hS
    exact ⟨j+1,ρ,M',hjl,by show b.length - (j+1)<b.length - j; omega,hS⟩
   ·have hjl:j=b.length:=by omega
    have FY:AP (B_ a b (D_ (BW a b i) (a.getD i 0) b i j) i j) Mr:=⟨rfl,ME ha hb (by omega) (by omega),by simp [Mr,B_]; omega,Kf,by simp [Mr],by simp [Mr],by simp [Mr],by simp [Mr],by simp [Mr]⟩;refine AN FY (λ_ h=>by cases h) _ ApW hS λρ M' a' w' hS=>?_
    show holds _ Aas a' w' (.at_ (.ext 2));refine AN (F0 (by omega) (by omega)) (λ_ h=>by cases h) _ AqJ hS λρ M' a' w' hS=>?_
    obtain ⟨ρ,M',hS⟩:=A7 (E':=Ae (B_ a b (BW a b (i+1)) (i+1) 0)) QN (Wn (λp hp=>by
     simp only [QN,List.mem_cons] at hp
     rcases hp with rfl | rfl | hp
     ·exact Cv (by show (i:Int)+1=((i+1:Nat):Int)+0; omega)
     ·exact Cv rfl
     ·exact WL p (by simpa [Ei] using hp)) rfl ⟨Jo,rfl,λM w cs r=>by rw [BW,← hjl]; exact r⟩ rfl) hm0 ArA Asc hS
    exact ⟨i+1,ρ,M',hil,by show a.length - (i+1)<a.length - i; omega,hS⟩
 ·have hil:i=a.length:=by omega
  have FX:AP (B_ a b (BW a b i) i 0) Mq:=⟨rfl,ME ha hb (by omega) (by omega),by simp [Mq,B_]; omega,Kf,by simp [Mq],by simp [Mq],by simp [Mq],by simp [Mq],by simp [Mq]⟩;refine AN FX (λ_ h=>by cases h) _ Asg hS λρ M' a' w' hS=>?_
  show holds _ Ajb a' w' (.at_ (.ext 0));refine AN (F0 (by omega) (by omega)) (λ_ h=>by cases h) _ AnW hS λρ M' a' w' hS=>?_
  obtain ⟨ρ,M',hS⟩:=A7 (E':=Ae (B_ a b (BW a b i) i 0)) AbT ⟨λp hp=>(by cases hp),λp hp=>(by cases hp),λp hp=>(by cases hp),λp hp M w g k cs hm hg hr hB hN=>by
   simp only [AbT,List.mem_singleton] at hp;subst hp;have hNj:(Ae (B_ a b (BW a b i) i 0)).N G3=(BW a b i).length:=by
    show ((a.length:Int)+b.length - 1+0).toNat=(BW a b i).length;rw [Fp];omega
   rw [hNj] at hN;show (XP.rats (BW a b i)).p M w [.slice (some ⟨g,0,none⟩) ((Ae (B_ a b (BW a b i) i 0)).N G3) k];rw [hNj];change AC w ((BW a b i).map some) cs at hB;exact ⟨_,k,rfl,hN,λ_=>⟨g,0,cs,rfl,hm,hg,hr,DM hB⟩⟩⟩ hm0 ApH Al3 hS
  refine ⟨.inr rfl,Ae (B_ a b (BW a b i) i 0),_,ρ,M',_,aL (.v 10),hS,Acs,rfl,λv hv=>?_⟩;obtain ⟨_,_,_,_,_,_,_,_,_,Fsup,_⟩:=hS;have h:=AL (V:=B_ a b (BW a b i) i 0) (e:=.v 10) (ρ:=ρ) hv;rw [hil] at h;exact (XP.rats (BW a b a.length)).st M' M w' w' [v] (Bz.refl w') (λ_ _ _=>rfl) (λb _ hb=>Fsup b hb) h
end
def conv(f g:Nat→Rat):Nat→Rat
 | 0=>f 0*g 0
 | k+1=>f 0*g (k+1)+conv (λi=>f (i+1)) g k
theorem QE(f g:Nat→Rat):∀ k,conv f g (k+1)=conv f (λi=>g (i+1)) k+f (k+1)*g 0:=by
 intro k
 induction k generalizing f with
 | zero=>simp only [conv]; try grind
 | succ k ih =>
  rw [conv,ih (λi=>f (i+1)),conv]
  grind
theorem E7(f g:Nat→Rat):∀ k,conv f g k=conv g f k:=by
 intro k
 induction k generalizing f with
 | zero=>simp only [conv]; grind
 | succ k ih =>
  rw [conv,QE g f,ih (λi=>f (i+1))]
  grind
theorem EM(f f' g:Nat→Rat):∀ k,conv (λi=>f i+f' i) g k=conv f g k+conv f' g k:=by
 intro k
 induction k generalizing f f' with
 | zero=>simp only [conv]; grind
 | succ k ih =>
  rw [conv,conv,conv,ih (λi=>f (i+1)) (λi=>f' (i+1))]
  grind
theorem Do(c:Rat)(f g:Nat→Rat):∀ k,conv (λi=>c*f i) g k=c*conv f g k:=by
 intro k
 induction k generalizing f with
 | zero=>simp only [conv]; grind
 | succ k ih =>
  rw [conv,conv,ih (λi=>f (i+1))]
  grind
theorem AZ{f f' g g':Nat→Rat}:∀{k:Nat},(∀ i,i≤k→f i=f' i)→(∀ i,i≤k→g i=g' i)→conv f g k=conv f' g' k:=by
 intro k
 induction k generalizing f f' with
 | zero=>intro h1 h2; simp only [conv]; rw [h1 0 (Nat.le_refl _),h2 0 (Nat.le_refl _)]
 | succ k ih =>
  intro h1 h2;rw [conv,conv,h1 0 (Nat.zero_le _),h2 (k+1) (Nat.le_refl _),ih (f:=λi=>f (i+1)) (f':=λi=>f' (i+1)) (λi hi=>h1 (i+1) (by omega)) (λi hi=>h2 i (by omega))]
theorem O5(f g h:Nat→Rat):∀ k,conv (conv f g) h k=conv f (conv g h) k:=by
 intro k
 induction k generalizing f with
 | zero=>simp only [conv]; grind
 | succ k ih =>
  have e:∀ i,conv f g (i+1)=f 0*g (i+1)+conv (λj=>f (j+1)) g i:=λi=>rfl
  have h1:conv (conv f g) h (k+1)=f 0*g 0*h (k+1)+conv (λi=>f 0*g (i+1)+conv (λj=>f (j+1)) g i) h k:=by
   rw [conv]
   congr 1
  have h2:conv f (conv g h) (k+1)=f 0*(g 0*h (k+1)+conv (λi=>g (i+1)) h k)+conv (λi=>f (i+1)) (conv g h) k:=rfl
  rw [h1,h2,EM (λi=>f 0*g (i+1)) (λi=>conv (λj=>f (j+1)) g i),Do (f 0) (λi=>g (i+1)),← ih (λi=>f (i+1))]
  grind
theorem ZG(f g g':Nat→Rat)(k:Nat):conv f (λi=>g i+g' i) k=conv f g k+conv f g' k:=by
 rw [E7,EM,E7 g,E7 g']
theorem IH(c:Rat)(f g:Nat→Rat)(k:Nat):conv f (λi=>c*g i) k=c*conv f g k:=by
 rw [E7,Do,E7 g]
theorem Er(g:Nat→Rat):∀ k,conv (λ_=>0) g k=0
 | 0=>by simp only [conv]; grind
 | k+1=>by rw [conv,Er g k]; grind
def AkG(f:Nat→Rat)(i:Nat):Rat:=((i+1:Nat):Rat)*f (i+1)
theorem I1{f g:Nat→Rat}(hf:∀ i,0<i→f i=0):∀ q,conv f g q=f 0*g q
 | 0=>rfl
 | q+1=>by
  rw [conv,show conv (λi=>f (i+1)) g q=0 from (AZ (λi _=>hf (i+1) (by omega)) (λ_ _=>rfl)).trans (Er g q)]
  grind
theorem Wx{g:Nat→Rat}{q:Nat}(hg:∀ i,q<i→g i=0):∀(p:Nat)(f:Nat→Rat),(∀ i,p<i→f i=0)→conv f g (p+q)=f p*g q
 | 0,f,hf=>by rw [Nat.zero_add]; exact I1 hf q
 | p+1,f,hf=>by
  rw [show p+1+q=(p+q)+1 by omega,conv,Wx hg p (λi=>f (i+1)) (λi hi=>hf (i+1) (by omega)),hg (p+q+1) (by omega)]
  grind
theorem Eo{g:Nat→Rat}(x:Rat):∀(k m:Nat),conv (λi=>if i=m then x else 0) g k=if m≤k then x*g (k - m) else 0
 | 0,m=>by
  simp only [conv]
  by_cases h:m=0
  ·subst h; simp
  ·rw [if_neg (λe=>h e.symm),if_neg (by omega)]; grind
 | k+1,0=>by
  rw [conv,show conv (λi=>if i+1=0 then x else 0) g k=0 from (AZ (λi _=>if_neg (by omega)) (λ_ _=>rfl)).trans (Er g k)];simp
  grind
 | k+1,m+1=>by
  have h:=Eo (g:=g) x k m;have e:conv (λi=>if i+1=m+1 then x else 0) g k=conv (λi=>if i=m then x else 0) g k:=AZ (λi _=>by by_cases h:i=m <;> simp [h]) (λ_ _=>rfl)
  rw [conv,e,h,if_neg (by omega)]
  by_cases h2:m≤k
  ·rw [if_pos h2,if_pos (by omega),show k+1 - (m+1)=k - m by omega]; grind
  ·rw [if_neg h2,if_neg (by omega)]; grind
def cf(l:List Rat)(k:Nat):Rat:=l.getD k 0
def Ai(l:List Rat):Prop:=l=[] ∨ cf l (l.length - 1)≠0
theorem A9{l:List Rat}{k:Nat}(h:l.length≤k):cf l k=0:=by
 unfold cf;rw [List.getD_eq_getElem?_getD,List.getElem?_eq_none h];rfl
theorem C6{l:List Rat}{k:Nat}(h:k<l.length):cf l k=l[k]:=by
 unfold cf;rw [List.getD_eq_getElem?_getD,List.getElem?_eq_getElem h];rfl
theorem Ai.ext{l m:List Rat}(hl:Ai l)(hm:Ai m)(h:∀ k,cf l k=cf m k):l=m:=by
 have key:∀{l m:List Rat},Ai m→(∀ k,cf l k=cf m k)→m.length≤l.length:=fun {l m} hm h=>by
  rcases hm with rfl | hm
  ·exact Nat.zero_le _
  ·rcases Nat.lt_or_ge l.length m.length with hlt | hge
   ·exact absurd ((h (m.length - 1)).symm.trans (A9 (by omega))) hm
   ·exact hge
 have e:l.length=m.length:=Nat.le_antisymm (key hl λk=>(h k).symm) (key hm h);apply List.ext_getElem e;intro k h1 h2;have:=h k;rwa [C6 h1,C6 h2] at this
theorem I5(l:List Rat):∀ m,m≤l.length→(∀ i,m≤i→cf l i=0)→∃ n,n≤l.length∧(∀ i,n≤i→cf l i=0)∧(n=0 ∨ cf l (n - 1)≠0)
 | 0,h,hz=>⟨0,h,hz,.inl rfl⟩
 | m+1,h,hz=>by
  by_cases h0:cf l m=0
  ·exact I5 l m (by omega) λi hi=>if e:i=m then e ▸ h0 else hz i (by omega)
  ·exact ⟨m+1,h,hz,.inr h0⟩
theorem Bj(l:List Rat):Ai (Cd l)∧∀ k,cf (Cd l) k=cf l k:=by
 obtain ⟨n,hn,hz,ht⟩:=I5 l l.length (Nat.le_refl _) λi hi=>A9 hi
 rw [← Eg hn hz ht];have hc:∀ k,cf (l.take n) k=cf l k:=λk=>by
  by_cases hk:k<n
  ·rw [C6 (by rw [List.length_take]; omega),C6 (by omega),List.getElem_take]
  ·rw [A9 (by rw [List.length_take]; omega),hz k (by omega)]
 refine ⟨?_,hc⟩
 rcases ht with rfl | ht
 ·exact .inl (by simp)
 ·refine .inr ?_
  rw [hc,List.length_take,Nat.min_eq_left hn];exact ht
theorem Tg{f:Nat→Rat}{n k:Nat}(h:n≤k→f k=0):cf ((List.range n).map f) k=f k:=by
 by_cases hk:k<n
 ·rw [C6 (by simpa using hk)]
  simp
 ·rw [A9 (by simpa using hk),h (by omega)]
theorem BU(a b:List Rat):Ai (DL a b)∧∀ k,cf (DL a b) k=cf a k+cf b k:=by
 refine ⟨(Bj _).1,λk=>?_⟩;unfold DL;rw [(Bj _).2,Tg λh=>?_]
 ·rfl
 ·show cf a k+cf b k=0
  rw [A9 (by omega),A9 (by omega)]
  grind
theorem Ck(a b:List Rat):Ai (CO a b)∧∀ k,cf (CO a b) k=cf a k - cf b k:=by
 refine ⟨(Bj _).1,λk=>?_⟩;unfold CO;rw [(Bj _).2,Tg λh=>?_]
 ·rfl
 ·show cf a k - cf b k=0
  rw [A9 (by omega),A9 (by omega)]
  grind
theorem AY(a:List Rat)(c:Rat):Ai (AJ a c)∧∀ k,cf (AJ a c) k=c*cf a k:=by
 refine ⟨(Bj _).1,λk=>?_⟩;unfold AJ;rw [(Bj _).2]
 by_cases hk:k<a.length
 ·rw [C6 (by simpa using hk),C6 hk]
  simp
 ·rw [A9 (by simpa using hk),A9 (by omega)]
  grind
theorem yH(a:List Rat):Ai (Ia a)∧∀ k,cf (Ia a) k=AkG (cf a) k:=by
 refine ⟨(Bj _).1,λk=>?_⟩;unfold Ia;rw [(Bj _).2,Tg λh=>?_]
 ·unfold AkG cf
  rfl
 ·show _*cf a (k+1)=0
  rw [A9 (by omega)]
  grind
theorem AbO{R:List Rat}{p k:Nat}{y:Rat}(hp:p<R.length):cf (R.set p y) k=if k=p then y else cf R k:=by
 unfold cf;rw [List.getD_eq_getElem?_getD,List.getD_eq_getElem?_getD,List.getElem?_set]
 by_cases h:p=k
 ·subst h
  simp [hp]
 ·rw [if_neg h,if_neg (λe=>h e.symm)]
theorem KJ{R:List Rat}{x:Rat}{b:List Rat}{i:Nat}:∀{j:Nat},i+j≤R.length→∀ k,cf (D_ R x b i j) k=cf R k+(if i≤k∧k<i+j then x*cf b (k - i) else 0)
 | 0,_,k=>by
  rw [if_neg (by omega)];show cf R k=_
  grind
 | j+1,h,k=>by
  have ih:=KJ (R:=R) (x:=x) (b:=b) (i:=i) (j:=j) (by omega);rw [D_,AbO (by rw [G_]; omega)]
  by_cases hk:k=i+j
  ·subst hk
   rw [if_pos rfl,if_pos ⟨by omega,by omega⟩];show cf (D_ R x b i j) (i+j)+x*cf b j=_;rw [ih,if_neg (by omega),show i+j - i=j by omega]
   grind
  ·rw [if_neg hk,ih]
   by_cases h2:i≤k∧k<i+j
   ·rw [if_pos h2,if_pos ⟨h2.1,by omega⟩]
   ·rw [if_neg h2,if_neg (by omega)]
theorem cH{a b:List Rat}:∀{m:Nat},m≤a.length→∀ k,cf (BW a b m) k=conv (λi=>if i<m then cf a i else 0) (cf b) k
 | 0,_,k=>by
  rw [show conv (λi=>if i<0 then cf a i else 0) (cf b) k=0 from (AZ (λi _=>if_neg (by omega)) (λ_ _=>rfl)).trans (Er _ k)];unfold BW cf;rw [List.getD_eq_getElem?_getD,List.getElem?_replicate];split <;> rfl
 | m+1,h,k=>by
  have hle:m+b.length≤(BW a b m).length:=by rw [Fp]; omega
  have e:conv (λi=>if i<m+1 then cf a i else 0) (cf b) k=conv (λi=>(if i<m then cf a i else 0)+(if i=m then cf a m else 0)) (cf b) k:=AZ (λi _=>by
   by_cases h1:i<m
   ·rw [if_pos (by omega),if_pos h1,if_neg (by omega)]; grind
   ·by_cases h2:i=m
    ·subst h2; rw [if_pos (by omega),if_neg h1,if_pos rfl]; grind
    ·rw [if_neg (by omega),if_neg h1,if_neg h2]; grind) (λ_ _=>rfl)
  rw [e,EM,← cH (by omega),Eo,BW,KJ hle]
  congr 1
  show (if m≤k∧k<m+b.length then cf a m*cf b (k - m) else 0)=_
  by_cases h1:m≤k
  ·by_cases h2:k<m+b.length
   ·rw [if_pos ⟨h1,h2⟩,if_pos h1]
   ·rw [if_neg (by omega),if_pos h1,A9 (l:=b) (k:=k - m) (by omega)]
    grind
  ·rw [if_neg (by omega),if_neg h1]
theorem BS(a b:List Rat):∀ k,cf (mulL a b) k=conv (cf a) (cf b) k:=by
 intro k;unfold mulL;split
 ·rename_i h
  rw [A9 (l:=[]) (Nat.zero_le _)]
  rcases h with rfl | rfl
  ·exact ((AZ (λi _=>A9 (Nat.zero_le _)) (λ_ _=>rfl)).trans (Er _ k)).symm
  ·rw [E7]
   exact ((AZ (λi _=>A9 (Nat.zero_le _)) (λ_ _=>rfl)).trans (Er _ k)).symm
 ·rw [cH (Nat.le_refl _)]
  refine AZ (λi _=>?_) (λ_ _=>rfl)
  by_cases h:i<a.length
  ·rw [if_pos h]
  ·rw [if_neg h,A9 (by omega)]
theorem Dk{a b:List Rat}(ha:a≠[])(hb:b≠[]):(mulL a b).length=a.length+b.length - 1:=by
 unfold mulL;rw [if_neg (by rintro (h | h); exact ha h; exact hb h),Fp]
theorem BI{a b:List Rat}(ha:Ai a)(hb:Ai b):Ai (mulL a b):=by
 rcases ha with rfl | ha
 ·exact .inl (if_pos (.inl rfl))
 rcases hb with rfl | hb
 ·exact .inl (if_pos (.inr rfl))
 have ha0:a≠[]:=λe=>ha (by rw [e]; rfl)
 have hb0:b≠[]:=λe=>hb (by rw [e]; rfl)
 refine .inr ?_;have la:=List.length_pos_iff.2 ha0;have lb:=List.length_pos_iff.2 hb0;rw [Dk ha0 hb0,BS,show a.length+b.length - 1 - 1=(a.length - 1)+(b.length - 1) by omega,Wx (λi hi=>A9 (by omega)) _ _ (λi hi=>A9 (by omega))];intro h
 rcases Rat.mul_eq_zero.1 h with h | h
 ·exact ha h
 ·exact hb h
section
variable {a b c : List Rat} {x : Rat}
theorem X4(ha:Ai a)(hb:Ai b)(hc:Ai c):mulL (mulL a b) c=mulL a (mulL b c):=(BI (BI ha hb) hc).ext (BI ha (BI hb hc)) λk=>by
 rw [BS,BS];exact (AZ (λi _=>BS a b i) (λ_ _=>rfl)).trans ((O5 _ _ _ k).trans (AZ (λ_ _=>rfl) (λi _=>(BS b c i).symm)))
theorem Abd(hc:Ai c):mulL (DL a b) c=DL (mulL a c) (mulL b c):=(BI (BU a b).1 hc).ext (BU _ _).1 λk=>by
 rw [(BU _ _).2,BS,BS,BS,← EM];exact AZ (λi _=>(BU a b).2 i) (λ_ _=>rfl)
end
theorem Hv{l:List Rat}{p:Nat}(hp:1≤p)(h:∀ x∈l,At x p)(k:Nat):At (cf l k) p:=by
 unfold cf;rw [List.getD_eq_getElem?_getD]
 cases hg:l[k]? with
 | none=>exact Ih.mono hp
 | some x=>exact h x (List.mem_of_getElem? hg)
theorem C2{l:List Rat}{p:Nat}(h:∀ k,At (cf l k) p):∀ x∈l,At x p:=λx hx=>by
 obtain ⟨k,hk,rfl⟩:=List.getElem_of_mem hx;rw [← C6 hk];exact h k
section
variable {a b : List Rat} {p q : Nat}
theorem jT{R:List Rat}{x:Rat}{i j B:Nat}(hq:1≤q)(hR:∀ k,At (cf R k) B)(hx:At x p)(sb:∀ y∈b,At y q)(hj:i+j≤R.length)(k:Nat):At (cf (D_ R x b i j) k) (B+(p+q)+1):=by
 rw [KJ hj];refine (hR k).add (j:=p+q) ?_;split
 ·exact hx.mul (Hv hq sb _)
 ·exact Ih.mono (by omega)
theorem SP(hp:1≤p)(hq:1≤q)(sa:∀ x∈a,At x p)(sb:∀ y∈b,At y q):∀ i,i≤a.length→∀ k,At (cf (BW a b i) k) (1+i*(p+q+1))
 | 0,_,k=>by
  have e:cf (BW a b 0) k=0:=by
   unfold BW cf;rw [List.getD_eq_getElem?_getD,List.getElem?_replicate];split <;> rfl
  rw [e];exact Ih.mono (by omega)
 | i+1,hi,k=>by
  rw [BW];refine (jT hq (SP hp hq sa sb i (by omega)) (Hv hp sa i) sb ?_ k).mono ?_
  ·rw [Fp]; omega
  ·rw [Nat.add_mul]; omega
theorem aN(hp:1≤p)(hq:1≤q)(sa:∀ x∈a,At x p)(sb:∀ y∈b,At y q):∀ i,i<a.length→∀ j,j<b.length→∀ x∈D_ (BW a b i) (a.getD i 0) b i j,At x (1+a.length*(p+q+1)):=λi hi j hj=>C2 λk=>by
 refine (jT hq (SP hp hq sa sb i (by omega)) (Hv hp sa i) sb (by rw [Fp]; omega) k).mono ?_;have:(i+1)*(p+q+1)≤a.length*(p+q+1):=Nat.mul_le_mul_right _ hi;rw [Nat.add_mul] at this;omega
theorem TD(hp:1≤p)(hq:1≤q)(sa:∀ x∈a,At x p)(sb:∀ y∈b,At y q):∀ x∈mulL a b,At x (1+a.length*(p+q+1)):=by
 unfold mulL;split
 ·intro x hx; cases hx
 ·exact C2 (SP hp hq sa sb a.length (Nat.le_refl _))
theorem Sq(hp:1≤p)(hq:1≤q)(sa:∀ x∈a,At x p)(sb:∀ y∈b,At y q):∀ x∈DL a b,At x (p+q+1):=C2 λk=>by
 rw [(BU a b).2];exact (Hv hp sa k).add (Hv hq sb k)
theorem vC(hp:1≤p)(ha:a.length≤1000000)(sa:∀ x∈a,At x p):∀ x∈Ia a,At x (2+p):=C2 λk=>by
 rw [(yH a).2];unfold AkG
 by_cases h:k+1<a.length
 ·refine At.mul (i:=2) ?_ (Hv hp sa (k+1))
  have:=At.whole (n:=((k+1:Nat):Int)) (i:=1) (by unfold Sm; omega);exact this
 ·rw [A9 (by omega),show ((k+1:Nat):Rat)*0=0 by grind]
  exact Ih.mono (by omega)
end
theorem By(l:List Rat):(Cd l).length≤l.length:=by
 obtain ⟨n,hn,hz,ht⟩:=I5 l l.length (Nat.le_refl _) λi hi=>A9 hi
 rw [← Eg hn hz ht,List.length_take];omega
theorem Wh(a b:List Rat):(DL a b).length≤max a.length b.length:=by
 have:=By ((List.range (max a.length b.length)).map λi=>a.getD i 0+b.getD i 0);unfold DL;simpa using this
theorem Ps(a:List Rat)(c:Rat):(AJ a c).length≤a.length:=by
 have:=By (a.map λx=>c*x);unfold AJ;simpa using this
theorem mF(a:List Rat):(Ia a).length≤a.length - 1:=by
 have:=By ((List.range (a.length - 1)).map λi=>(((i+1:Nat):Int):Rat)*a.getD (i+1) 0);unfold Ia;simpa using this
def P7:List AV:=[.ext 1 false (.ap 56 (.v 3) (.lit 0)),.ext 1 false (.ap 56 (.v 4) (.lit 0)),.ext 1 false (.ap 56 (.v 5) (.lit 0)),.ext 1 false (.ap 55 (.i 6 0) (.lit 0)),.ext 1 false (.ap 55 (.i 7 0) (.lit 0))]
def Agi:List AV:=[.ext 1 false (.ap 55 (.i 6 0) (.lit 0)),.ext 1 false (.ap 55 (.i 7 0) (.lit 0))]
def pU:List (AV × AV):=P7.map λa=>(a,a)
noncomputable def xA:PE:=BE 10 [] [] (.val (.bool true))
noncomputable def Tc:PE:=BE 11 pU [.agg P7] (.tup [aL (.v 0),aL (.v 1),aL (.v 2)])
noncomputable def X7:PE:=BE 12 pU [.agg Agi] (aQ (.v 0) 1)
section
variable {a b c A B C : List Rat} {x : Rat} {x0 x1 : Int}
end
def Hi(c:Rat):Nat→(Nat→Rat)→Nat→Rat
 | 0,_,_=>0
 | d+1,f,0=>f 0+c*Hi c d (λi=>f (i+1)) 0
 | d+1,f,k+1=>Hi c d (λi=>f (i+1)) k+c*Hi c d (λi=>f (i+1)) (k+1)
def NN(f:Nat→Rat)(c:Rat):Nat→Nat→Rat
 | 0,_=>0
 | d+1,k=>f k+c*NN f c d (k+1)
theorem Ix(f:Nat→Rat)(c:Rat):∀ d k,NN f c d (k+1)=NN (λi=>f (i+1)) c d k
 | 0,_=>rfl
 | d+1,k=>by simp only [NN]; rw [Ix f c d (k+1)]
theorem FN{c:Rat}:∀{d:Nat}{f g:Nat→Rat},(∀ i,i<d→f i=g i)→∀ k,Hi c d f k=Hi c d g k
 | 0,_,_,_,_=>rfl
 | d+1,f,g,h,0=>by
  simp only [Hi];rw [h 0 (by omega),FN (λi hi=>h (i+1) (by omega))]
 | d+1,f,g,h,k+1=>by
  simp only [Hi];rw [FN (d:=d) (f:=λi=>f (i+1)) (g:=λi=>g (i+1)) (λi hi=>h (i+1) (by omega)),FN (d:=d) (f:=λi=>f (i+1)) (g:=λi=>g (i+1)) (λi hi=>h (i+1) (by omega)) (k+1)]
theorem IR(c:Rat):∀ d (f:Nat→Rat),Hi c d f 0=NN f c d 0
 | 0,_=>rfl
 | d+1,f=>by simp only [Hi,NN]; rw [IR c d,Ix]
theorem Gt(c:Rat):∀ d (f:Nat→Rat) k,Hi c (d+1) f (k+1)=Hi c d (λj=>NN f c (d - j) (j+1)) k
 | 0,f,k=>by simp [Hi]; grind
 | d+1,f,0=>by
  have h1:=Gt c d (λi=>f (i+1)) 0;have h0:=IR c (d+1) (λi=>f (i+1));have e:Hi c (d+1+1) f (0+1)=Hi c (d+1) (λi=>f (i+1)) 0+c*Hi c (d+1) (λi=>f (i+1)) (0+1):=rfl;rw [e,h0,h1];have e2:Hi c (d+1) (λj=>NN f c (d+1 - j) (j+1)) 0=NN f c (d+1) 1+c*Hi c d (λj=>NN f c (d+1 - (j+1)) (j+1+1)) 0:=rfl;rw [e2,Ix]
  congr 2
  exact FN (λi _=>by rw [Ix f c,show d+1 - (i+1)=d - i by omega]) 0
 | d+1,f,k+1=>by
  have h1:=Gt c d (λi=>f (i+1)) k;have h2:=Gt c d (λi=>f (i+1)) (k+1);have e:Hi c (d+1+1) f (k+1+1)=Hi c (d+1) (λi=>f (i+1)) (k+1)+c*Hi c (d+1) (λi=>f (i+1)) (k+1+1):=rfl;rw [e,h1,h2];have e2:Hi c (d+1) (λj=>NN f c (d+1 - j) (j+1)) (k+1)=Hi c d (λj=>NN f c (d+1 - (j+1)) (j+1+1)) k+c*Hi c d (λj=>NN f c (d+1 - (j+1)) (j+1+1)) (k+1):=rfl;rw [e2];have e3:∀ k,Hi c d (λj=>NN (λi=>f (i+1)) c (d - j) (j+1)) k=Hi c d (λj=>NN f c (d+1 - (j+1)) (j+1+1)) k:=λk=>FN (λi _=>by rw [Ix f c,show d+1 - (i+1)=d - i by omega]) k
  rw [e3,e3]
def Xn(f:Nat→Rat)(c:Rat)(n:Nat):Nat→Nat→Rat
 | 0,k=>f k
 | i+1,k=>if k<i then Xn f c n i k else NN (Xn f c n i) c (n - k) k
theorem UH(f:Nat→Rat)(c:Rat):∀(m d k:Nat),NN f c d (m+k)=NN (λi=>f (m+i)) c d k
 | _,0,_=>rfl
 | m,d+1,k=>by simp only [NN]; rw [show m+k+1=m+(k+1) by omega,UH f c m d (k+1)]
theorem tL{f:Nat→Rat}{c:Rat}{n:Nat}:∀ i,i≤n→∀ k,Hi c n f k=if k<i then Xn f c n i k else Hi c (n - i) (λj=>Xn f c n i (i+j)) (k - i)
 | 0,_,k=>by
  rw [if_neg (by omega)];simp [Xn]
 | i+1,hi,k=>by
  have ih:=tL (f:=f) (c:=c) (n:=n) i (by omega) k;rw [ih];obtain ⟨d,hd⟩:∃ d,n - i=d+1:=⟨n - i - 1,by omega⟩
  by_cases h1:k<i
  ·rw [if_pos h1,if_pos (by omega)]
   simp [Xn,h1]
  ·rw [if_neg h1]
   by_cases h2:k=i
   ·subst h2
    rw [if_pos (by omega),Nat.sub_self,IR];simp only [Xn,Nat.lt_irrefl,if_false];have:=UH (Xn f c n k) c k (n - k) 0;rw [Nat.add_zero] at this;rw [this]
   ·rw [if_neg (by omega),hd,show k - i=(k - (i+1))+1 by omega,Gt,show n - (i+1)=d by omega]
    refine FN (λj hj=>?_) _;have e:Xn f c n (i+1) (i+1+j)=NN (Xn f c n i) c (n - (i+1+j)) (i+1+j):=by simp only [Xn]; rw [if_neg (by omega)]
    have e9:n - (i+1+j)=d - j:=by omega
    rw [e,e9,show i+1+j=i+(j+1) by omega,UH (Xn f c n i) c i (d - j) (j+1)]
theorem AdL{f:Nat→Rat}{c:Rat}{n k:Nat}(hk:k<n):Xn f c n n k=Hi c n f k:=by
 rw [tL n (Nat.le_refl _) k,if_pos hk]
theorem NC{c:Rat}:∀{d:Nat}{f:Nat→Rat}{k:Nat},d≤k→Hi c d f k=0
 | 0,_,_,_=>rfl
 | d+1,f,0,h=>by omega
 | d+1,f,k+1,h=>by
  simp only [Hi];rw [NC (by omega),NC (by omega)]
  grind
def Ws(f:Nat→Rat):Nat→Rat
 | 0=>0
 | k+1=>f k
theorem rF(c:Rat)(d:Nat)(f:Nat→Rat):∀ k,Hi c (d+1) f k=(if k=0 then f 0 else 0)+Ws (Hi c d (λi=>f (i+1))) k+c*Hi c d (λi=>f (i+1)) k
 | 0=>by simp only [Hi,Ws,if_true]; grind
 | k+1=>by simp only [Hi,Ws]; rw [if_neg (by omega)]; grind
def Fq(R:List Rat)(c:Rat)(n:Nat):Nat→List Rat
 | 0=>R
 | k+1=>(Fq R c n k).set (n - 2 - k) ((Fq R c n k).getD (n - 2 - k) 0+c*(Fq R c n k).getD (n - 1 - k) 0)
def BZ(a:List Rat)(c:Rat)(n:Nat):Nat→List Rat
 | 0=>a
 | i+1=>Fq (BZ a c n i) c n (n - 1 - i)
def Dp(a:List Rat)(c:Rat):List Rat:=Cd (BZ a c a.length a.length)
theorem K1(R:List Rat)(c:Rat)(n:Nat):∀ k,(Fq R c n k).length=R.length
 | 0=>rfl
 | k+1=>by rw [Fq,List.length_set,K1 R c n k]
theorem EZ(a:List Rat)(c:Rat)(n:Nat):∀ i,(BZ a c n i).length=a.length
 | 0=>rfl
 | i+1=>by rw [BZ,K1,EZ a c n i]
theorem dC{R:List Rat}{c:Rat}{n:Nat}(hn:R.length=n):∀ k,k+1≤n→∀ m,cf (Fq R c n k) m=if n - 1 - k≤m then NN (cf R) c (n - m) m else cf R m
 | 0,h,m=>by
  show cf R m=_
  by_cases h1:n - 1 - 0≤m
  ·rw [if_pos h1]
   by_cases h2:m=n - 1
   ·rw [show n - m=0+1 by omega]
    simp only [NN]
    grind
   ·rw [show n - m=0 by omega,A9 (by omega)]
    rfl
  ·rw [if_neg h1]
 | k+1,h,m=>by
  have ih:=dC (c:=c) hn k (by omega);rw [Fq,AbO (by rw [K1]; omega)];have e1:(Fq R c n k).getD (n - 2 - k) 0=cf R (n - 2 - k):=by
   have:=ih (n - 2 - k);rw [if_neg (by omega)] at this;exact this
  have e2:(Fq R c n k).getD (n - 1 - k) 0=NN (cf R) c (n - (n - 1 - k)) (n - 1 - k):=by
   have:=ih (n - 1 - k);rw [if_pos (by omega)] at this;exact this
  by_cases h1:m=n - 2 - k
  ·rw [if_pos h1,if_pos (by omega),e1,e2,h1]
   obtain ⟨d,hd⟩:∃ d,n - (n - 1 - k)=d:=⟨_,rfl⟩;rw [show n - (n - 2 - k)=d+1 by omega,hd];simp only [NN];rw [show n - 2 - k+1=n - 1 - k by omega]
  ·rw [if_neg h1,ih]
   by_cases h2:n - 1 - k≤m
   ·rw [if_pos h2,if_pos (by omega)]
   ·rw [if_neg h2,if_neg (by omega)]
theorem Vj{a:List Rat}{c:Rat}{n:Nat}(hn:a.length=n):∀ i,i≤n→∀ m,cf (BZ a c n i) m=Xn (cf a) c n i m
 | 0,_,_=>rfl
 | i+1,hi,m=>by
  have ih:cf (BZ a c n i)=Xn (cf a) c n i:=funext λm=>Vj hn i (by omega) m
  rw [BZ,dC (by rw [EZ,hn]) _ (by omega),ih];simp only [Xn]
  by_cases h:m<i
  ·rw [if_pos h,if_neg (by omega)]
  ·rw [if_neg h,if_pos (by omega)]
theorem LL(a:List Rat)(c:Rat):Ai (Dp a c)∧∀ k,cf (Dp a c) k=Hi c a.length (cf a) k:=by
 refine ⟨(Bj _).1,λk=>?_⟩;unfold Dp;rw [(Bj _).2]
 by_cases hk:k<a.length
 ·rw [Vj rfl _ (Nat.le_refl _),AdL hk]
 ·rw [A9 (by rw [EZ]; omega),NC (by omega)]
section
variable {a b : List Rat} {c z : Rat}
end
end Go.Proofs.YtgaehhapjnbieaaGreat
