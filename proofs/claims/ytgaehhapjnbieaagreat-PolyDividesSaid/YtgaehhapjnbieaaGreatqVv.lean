/- An abstract machine: contracts of functions, and loops. -/
import Derived.Test.YtgaehhapjnbieaaGreatqVi
import Derived.Test.YtgaehhapjnbieaaGreatqVm
set_option linter.unusedSectionVars false
set_option linter.unusedVariables false
set_option linter.unusedSimpArgs false
namespace Go.Proofs.YtgaehhapjnbieaaGreat
open Go.RowKit
abbrev noR:Rho:=fun _=>none
section
variable [Env]
noncomputable def endA (fn:Func) (s:Fm):Option AV:=match resA s fn.results.toList with
 | some l=>match outA l with
  | some r=>renV (fun _=>none) r
  | none=>none
 | none=>none
def FS0 (W0:World) (M0:Nat→Prop) (s:Fm) (ρ:Rho) (M:Nat→Prop) (a:Act) (w:World):Prop:=FS (fun b=>W0.heap.size≤b) W0 noR M0 [] 16 s ρ M a w
def OutF (fn:Func) (r:AV) (W0:World) (M0:Nat→Prop) (e:Exit) (a:Act) (w:World):Prop:=(e = .normal ∨ e = .ret)∧∃ s ρ M,FS0 W0 M0 s ρ M a w∧endA fn s=some r
theorem am_calls {f:Nat} {fn:Func} {c:Code} {xs xs':List AV} {r:AV} {ρ:Rho} {M:Nat→Prop} {w:World} {vs:List Value} (hf:Tryz.prog.funcs[f]? = some fn) (hb:fn.body=some c) (hx:renL (fun _=>none) xs=some xs') (hlen:xs'.length≤fn.ntmps) (hbnd:∀ b,M b→b<w.heap.size) (hv:RVs ρ M w xs vs)
  (h:∀ a,FS0 w M ⟨xs' ++ List.replicate (fn.ntmps - xs'.length) (.val undef),[],16,[]⟩ noR M a w→c.wp Tryz.prog (OutF fn r w M) a w) :
  Calls Tryz.prog f vs.toArray w fun e w'=>∃ v,e = .returned v∧RV ρ M w' r v∧Below w.heap.size w w':=by
 have hv:RVs noR M w xs' vs:=ren_rvs (σ:=fun _=>none) (fun _ _ _ e=>by cases e) (fun _ h=>h) hx hv
 refine calls_of_wp hf hb (Code.wp_mono ?_ (h { tmps:=vs.toArray ++ Array.replicate (fn.ntmps - vs.toArray.size) undef,defers:=[] } ?_))
 ·intro e a' w' ⟨he,s,ρ',M',hF,hr⟩
  unfold endA at hr
  split at hr
  ·rename_i l hl
   split at hr
   ·rename_i r0 hr0
    obtain ⟨v,e1,e2⟩:=results_sound hF (fun _ h=>h) hl hr0
    have e3:RV ρ M w' r v:=ren_rv (σ:=fun _=>none) (fun _ _ _ e=>by cases e) hF.sup hr e2
    have hfin:a'.defers=[]∧∃ v,(results fn a'.tmps).run Tryz.prog w' = .ok v w'∧∃ u,Ending.returned v = .returned u∧RV ρ M w' r u∧Below w.heap.size w w':=⟨hF.defers,v,e1,v,rfl,e3,⟨hF.fr.os,hF.fr.tape,hF.fr.output,hF.fr.size,fun b hb=>hF.fr.keep b hb (by omega)⟩⟩
    rcases he with rfl | rfl
    ·exact hfin
    ·exact hfin
   ·cases hr
  ·cases hr
 ·have hvl:vs.length=xs'.length:=hv.len
  refine ⟨by simp [hvl],rfl,fun t x hx=>?_,⟨fun o b e=>(by cases e),fun o o' b b' g c c' e=>(by cases e)⟩,fun o p e=>(by cases e),Nat.le_refl _,hbnd,FrA.refl _ _,Tr.refl _ _ _,fun _ h=>h,fun _ h=>.inl h,fun o p e=>.inl e,fun o _ _=>⟨rfl,fun _ _ _ e=>(by cases e)⟩⟩
  have hx:(xs' ++ List.replicate (fn.ntmps - xs'.length) (.val undef))[t]? = some x:=hx
  show ∃ v,(vs.toArray ++ Array.replicate (fn.ntmps - vs.toArray.size) undef)[t]? = some v∧_
  rw [List.getElem?_append] at hx
  split at hx
  ·rename_i hlt
   obtain ⟨v,e,k⟩:=hv.get hx
   exact ⟨v,by rw [Array.getElem?_append_left (by simp [hvl,hlt])]; simpa using e,k.rv⟩
  ·rename_i hge
   rw [List.getElem?_replicate] at hx
   split at hx
   ·cases hx
    refine ⟨undef,?_,rfl⟩
    rw [Array.getElem?_append_right (by simp [hvl]; omega),Array.getElem?_replicate,if_pos]
    simp [hvl]
    omega
   ·cases hx
end
section
variable {E : Env} {T : Tb} {pl : List Nat} {n : Nat} {c : Code} {s : Fm} {W0 : World} {M0 : Nat → Prop} {ρ : Rho} {M : Nat → Prop} {a : Act} {w : World} {Q : Exit → Act → World → Prop}
theorem am_loop {γ:Type} (μ:γ→Nat) (V:γ→VL) (I:γ→Prop) (sI:Fm) (round:∀ g,I g→∀ ρ M a w,@FS0 (envD (V g)) W0 M0 sI ρ M a w→c.wp Tryz.prog (Exit.then (fun a' w'=>∃ g' ρ' M',I g'∧μ g'<μ g ∧ @FS0 (envD (V g')) W0 M0 sI ρ' M' a' w') Q) a w)
  (g:γ) (hI:I g) (hF:@FS0 (envD (V g)) W0 M0 sI ρ M a w):(Code.loop c).wp Tryz.prog Q a w:=by
 refine loop_ghost (fun g a w=>I g∧∃ ρ M,@FS0 (envD (V g)) W0 M0 sI ρ M a w) μ ?_ g ⟨hI,ρ,M,hF⟩
 intro g a w ⟨hI,ρ,M,hF⟩
 refine Code.wp_mono ?_ (round g hI ρ M a w hF)
 intro e a' w' he
 cases e <;> first | exact he | skip
 obtain ⟨g',ρ',M',h1,h2,h3⟩:=he
 exact ⟨g',⟨h1,ρ',M',h3⟩,h2⟩
theorem am_move {E E':Env} {s s':Fm} (d:Rd) (hd:RdOK E E' d) (hm0:∀ b,M0 b→b<W0.heap.size) (h:wkF d 16 s s'=true) (hb:below 16 s'.H=below 16 s.H) (hF:@FS0 E W0 M0 s ρ M a w):∃ ρ' M',@FS0 E' W0 M0 s' ρ' M' a w:=
 ⟨_,_,FS.move hd (fun o p e=>by cases e) hm0 (.inr fun b h=>.inl h) h hb hF⟩
end
end Go.Proofs.YtgaehhapjnbieaaGreat
namespace Go.Proofs.YtgaehhapjnbieaaGreat
open Go.RowKit
def q2 (k lim:Nat) (bnd:Nat→Nat→Nat):List AV→Option AV
 | [x,y]=>match numA x,numA y with
  | some p,some q=>if Nat.ble p.2 lim && Nat.ble q.2 lim then some (aQ (.ap k p.1 q.1) (bnd p.2 q.2)) else none
  | _,_=>none
 | _=>none
def q1 (k lim:Nat) (bnd:Nat→Nat):List AV→Option AV
 | [x]=>match numA x with
  | some p=>if Nat.ble p.2 lim then some (aQ (.ap k p.1 (.lit 0)) (bnd p.2)) else none
  | none=>none
 | _=>none
def qs1 (lim:Nat):List AV→Option AV
 | [x]=>match numA x with
  | some p=>if Nat.ble p.2 lim then some (aS p.1) else none
  | none=>none
 | _=>none
def qs2 (lim:Nat):List AV→Option AV
 | [x,y]=>match numA x,numA y with
  | some p,some q=>if Nat.ble p.2 lim && Nat.ble q.2 lim then some (aS (.ap 32 p.1 q.1)) else none
  | _,_=>none
 | _=>none
def orG (g h:List AV→Option AV):List AV→Option AV:=fun xs=>match g xs with
 | some r=>some r
 | none=>h xs
def qw (F:Fa):List AV→Option AV
 | [x]=>match intA x with
  | some i=>if smI i.2 then some (aQ (.ap 37 (.i i.1 i.2) (.lit 0)) 2) else none
  | none=>none
 | _=>none
theorem cmpR_sub0 (x y:Rat):cmpR (x - y) 0=cmpR x y:=by
 unfold cmpR
 by_cases h1:x<y
 ·have:x - y<0:=by grind
  simp [h1,this]
 ·by_cases h2:x=y
  ·subst h2
   have:x - x=0:=by grind
   simp [this]
  ·have h3:¬ x - y<0:=by grind
   have h4:¬ x - y=0:=by grind
   simp [h1,h2,h3,h4]
section
variable {V : VL} {F : Fa} {f k lim : Nat}
theorem orG_ok {E:Env} {g h:List AV→Option AV} (hg:@PE.ok E ⟨f,g⟩) (hh:@PE.ok E ⟨f,h⟩):@PE.ok E ⟨f,orG g h⟩:=by
 intro xs r e
 have e:orG g h xs=some r:=e
 unfold orG at e
 split at e
 ·rename_i r' hr
  cases e
  exact hg xs r hr
 ·exact hh xs r e
theorem q2_ok {bnd:Nat→Nat→Nat} (pl:Plainly f) (h:∀ a b i j va vb w,(ratF (qD V a)).p va w→(ratF (qD V b)).p vb w→RSm (qD V a) i→RSm (qD V b) j→i≤lim→j≤lim→Calls Tryz.prog f #[va,vb] w (GivesP (ratF (qD V (.ap k a b))) w)∧RSm (qD V (.ap k a b)) (bnd i j)):@PE.ok (envD V) ⟨f,q2 k lim bnd⟩:=by
 intro xs r e
 change q2 k lim bnd xs=some r at e
 refine ⟨pl,fun ρ M w vs _ hv=>?_⟩
 unfold q2 at e
 split at e
 ·rename_i x y
  split at e
  ·rename_i p q hp hq
   split at e
   ·rename_i hc
    rw [Bool.and_eq_true] at hc
    cases e
    obtain ⟨va,_,rfl,h1,vb,_,rfl,h2,h3⟩:=hv
    have h3:_=[]:=h3
    subst h3
    obtain ⟨a1,a2⟩:=numA_sound hp (@RV1.rv (envD V) ρ M w _ _ h1)
    obtain ⟨b1,b2⟩:=numA_sound hq (@RV1.rv (envD V) ρ M w _ _ h2)
    obtain ⟨hc,hs⟩:=h p.1 q.1 p.2 q.2 va vb w a1 b1 a2 b2 (Nat.le_of_ble_eq_true hc.1) (Nat.le_of_ble_eq_true hc.2)
    exact Calls.mono hc fun e w' ⟨v,e1,e2,e3⟩=>⟨v,e1,@RV1.rv (envD V) ρ M w' _ _ (aQ_in e2 hs),e3⟩
   ·cases e
  ·cases e
 ·cases e
theorem q1_ok {bnd:Nat→Nat} (pl:Plainly f) (h:∀ a i va w,(ratF (qD V a)).p va w→RSm (qD V a) i→i≤lim→Calls Tryz.prog f #[va] w (GivesP (ratF (qD V (.ap k a (.lit 0)))) w)∧RSm (qD V (.ap k a (.lit 0))) (bnd i)):@PE.ok (envD V) ⟨f,q1 k lim bnd⟩:=by
 intro xs r e
 change q1 k lim bnd xs=some r at e
 refine ⟨pl,fun ρ M w vs _ hv=>?_⟩
 unfold q1 at e
 split at e
 ·rename_i x
  split at e
  ·rename_i p hp
   split at e
   ·rename_i hc
    cases e
    obtain ⟨va,_,rfl,h1,h3⟩:=hv
    have h3:_=[]:=h3
    subst h3
    obtain ⟨a1,a2⟩:=numA_sound hp (@RV1.rv (envD V) ρ M w _ _ h1)
    obtain ⟨hc,hs⟩:=h p.1 p.2 va w a1 a2 (Nat.le_of_ble_eq_true hc)
    exact Calls.mono hc fun e w' ⟨v,e1,e2,e3⟩=>⟨v,e1,@RV1.rv (envD V) ρ M w' _ _ (aQ_in e2 hs),e3⟩
   ·cases e
  ·cases e
 ·cases e
theorem aS_in {ρ:Rho} {M:Nat→Prop} {w:World} {q:CE} {v:Value} (h:(eqF (.int .i64 (cmpR (qD V q) 0))).p v w):@RV (envD V) ρ M w (aS q) v:=by
 have h:v = .int .i64 (cmpR (qD V q) 0):=h
 show @Rp (envD V) ρ M w (aS q) [v]
 unfold Rp
 exact ⟨rfl,by rw [h]; rfl⟩
theorem qs1_ok (pl:Plainly f) (h:∀ a i va w,(ratF (qD V a)).p va w→RSm (qD V a) i→i≤lim→Calls Tryz.prog f #[va] w (GivesP (eqF (.int .i64 (cmpR (qD V a) 0))) w)):@PE.ok (envD V) ⟨f,qs1 lim⟩:=by
 intro xs r e
 change qs1 lim xs=some r at e
 refine ⟨pl,fun ρ M w vs _ hv=>?_⟩
 unfold qs1 at e
 split at e
 ·rename_i x
  split at e
  ·rename_i p hp
   split at e
   ·rename_i hc
    cases e
    obtain ⟨va,_,rfl,h1,h3⟩:=hv
    have h3:_=[]:=h3
    subst h3
    obtain ⟨a1,a2⟩:=numA_sound hp (@RV1.rv (envD V) ρ M w _ _ h1)
    exact Calls.mono (h p.1 p.2 va w a1 a2 (Nat.le_of_ble_eq_true hc)) fun e w' ⟨v,e1,e2,e3⟩=>⟨v,e1,aS_in e2,e3⟩
   ·cases e
  ·cases e
 ·cases e
theorem qs2_ok (pl:Plainly f) (h:∀ a b i j va vb w,(ratF (qD V a)).p va w→(ratF (qD V b)).p vb w→RSm (qD V a) i→RSm (qD V b) j→i≤lim→j≤lim→Calls Tryz.prog f #[va,vb] w (GivesP (eqF (.int .i64 (cmpR (qD V a) (qD V b)))) w)):@PE.ok (envD V) ⟨f,qs2 lim⟩:=by
 intro xs r e
 change qs2 lim xs=some r at e
 refine ⟨pl,fun ρ M w vs _ hv=>?_⟩
 unfold qs2 at e
 split at e
 ·rename_i x y
  split at e
  ·rename_i p q hp hq
   split at e
   ·rename_i hc
    rw [Bool.and_eq_true] at hc
    cases e
    obtain ⟨va,_,rfl,h1,vb,_,rfl,h2,h3⟩:=hv
    have h3:_=[]:=h3
    subst h3
    obtain ⟨a1,a2⟩:=numA_sound hp (@RV1.rv (envD V) ρ M w _ _ h1)
    obtain ⟨b1,b2⟩:=numA_sound hq (@RV1.rv (envD V) ρ M w _ _ h2)
    refine Calls.mono (h p.1 q.1 p.2 q.2 va vb w a1 b1 a2 b2 (Nat.le_of_ble_eq_true hc.1) (Nat.le_of_ble_eq_true hc.2)) fun e w' ⟨v,e1,e2,e3⟩=>⟨v,e1,aS_in ?_,e3⟩
    have hq:qD V (.ap 32 p.1 q.1)=qD V p.1 - qD V q.1:=by simp only [qD]
    rw [hq,cmpR_sub0]
    exact e2
   ·cases e
  ·cases e
 ·cases e
end
noncomputable def zAddQ:PE:=⟨72,orG pAddQ.g (q2 31 100000000 fun i j=>i+j+1)⟩
noncomputable def zSubQ:PE:=⟨57,orG pSubQ.g (q2 32 100000000 fun i j=>i+j+1)⟩
noncomputable def zMulQ:PE:=⟨58,orG pMulQ.g (q2 33 200000000 fun i j=>i+j)⟩
noncomputable def zNegQ:PE:=⟨102,orG pNegQ.g (q1 34 200000000 fun i=>i)⟩
noncomputable def zSignQ:PE:=⟨100,orG pSignQ.g (qs1 200000000)⟩
noncomputable def zCmpQ:PE:=⟨84,orG pCmpQ.g (qs2 200000000)⟩
noncomputable def zAddP:PE:=⟨40,orG pAddP.g (q2 31 100000000 fun i j=>i+j+1)⟩
noncomputable def zMulP:PE:=⟨42,orG pMulP.g (q2 33 100000000 fun i j=>i+j)⟩
noncomputable def zNegP:PE:=⟨41,orG pNegP.g (q1 34 100000000 fun i=>i)⟩
noncomputable def zSignP:PE:=⟨48,orG pSignP.g (qs1 100000000)⟩
noncomputable def zCmpP:PE:=⟨32,orG pCmpP.g (qs2 140000000)⟩
noncomputable def zWholeQ (F:Fa):PE:=⟨63,orG pWholeQ.g (qw F)⟩
section
variable {V : VL} {F : Fa}
theorem zAddQ_ok:@PE.ok (envD V) zAddQ:=orG_ok (@pAddQ_ok (envD V)) (q2_ok (fun _ _=>by simp [go_sem]) fun a b i j va vb w ha hb sa sb hi hj=>by simp only [qD]; exact ⟨kQAdd ha hb sa sb hi hj,sa.add sb⟩)
theorem zSubQ_ok:@PE.ok (envD V) zSubQ:=orG_ok (@pSubQ_ok (envD V)) (q2_ok (fun _ _=>by simp [go_sem]) fun a b i j va vb w ha hb sa sb hi hj=>by simp only [qD]; exact ⟨kQSub ha hb sa sb hi hj,sa.sub sb⟩)
theorem zMulQ_ok:@PE.ok (envD V) zMulQ:=orG_ok (@pMulQ_ok (envD V)) (q2_ok (fun _ _=>by simp [go_sem]) fun a b i j va vb w ha hb sa sb hi hj=>by simp only [qD]; exact ⟨kQMul ha hb sa sb hi hj,sa.mul sb⟩)
theorem zNegQ_ok:@PE.ok (envD V) zNegQ:=orG_ok (@pNegQ_ok (envD V)) (q1_ok (fun _ _=>by simp [go_sem]) fun a i va w ha sa hi=>by simp only [qD]; exact ⟨kQNeg ha sa hi,sa.neg⟩)
theorem zSignQ_ok:@PE.ok (envD V) zSignQ:=orG_ok (@pSignQ_ok (envD V)) (qs1_ok (fun _ _=>by simp [go_sem]) fun a i va w ha sa hi=>kQSign ha sa hi)
theorem zCmpQ_ok:@PE.ok (envD V) zCmpQ:=orG_ok (@pCmpQ_ok (envD V)) (qs2_ok (fun _ _=>by simp [go_sem]) fun a b i j va vb w ha hb sa sb hi hj=>kQCmp ha hb sa sb hi hj)
theorem zAddP_ok:@PE.ok (envD V) zAddP:=orG_ok (@pAddP_ok (envD V)) (q2_ok (fun _ _=>by simp [go_sem]) fun a b i j va vb w ha hb sa sb hi hj=>by simp only [qD]; exact ⟨kPAdd ha hb sa sb (by omega) (by omega),sa.add sb⟩)
theorem zMulP_ok:@PE.ok (envD V) zMulP:=orG_ok (@pMulP_ok (envD V)) (q2_ok (fun _ _=>by simp [go_sem]) fun a b i j va vb w ha hb sa sb hi hj=>by simp only [qD]; exact ⟨kPMul ha hb sa sb (by omega) (by omega),sa.mul sb⟩)
theorem zNegP_ok:@PE.ok (envD V) zNegP:=orG_ok (@pNegP_ok (envD V)) (q1_ok (fun _ _=>by simp [go_sem]) fun a i va w ha sa hi=>by simp only [qD]; exact ⟨kPNeg ha sa (by omega),sa.neg⟩)
theorem zSignP_ok:@PE.ok (envD V) zSignP:=orG_ok (@pSignP_ok (envD V)) (qs1_ok (fun _ _=>by simp [go_sem]) fun a i va w ha sa hi=>kPSign ha sa (by omega))
theorem zCmpP_ok:@PE.ok (envD V) zCmpP:=orG_ok (@pCmpP_ok (envD V)) (qs2_ok (fun _ _=>by simp [go_sem]) fun a b i j va vb w ha hb sa sb hi hj=>kPCmp ha hb sa sb hi hj)
theorem zWholeQ_ok (hF:FaOK V F):@PE.ok (envD V) (zWholeQ F):=orG_ok (@pWholeQ_ok (envD V)) (by
 intro xs r e
 change qw F xs=some r at e
 refine ⟨fun _ _=>by simp [go_sem],fun ρ M w vs _ hv=>?_⟩
 unfold qw at e
 split at e
 ·rename_i x
  split at e
  ·rename_i i hi
   split at e
   ·rename_i hc
    cases e
    obtain ⟨va,_,rfl,h1,h3⟩:=hv
    have h3:_=[]:=h3
    subst h3
    have hva:=intA_sound hF hi h1
    subst hva
    unfold smI at hc
    rw [Bool.and_eq_true] at hc
    have c1:=of_decide_eq_true hc.1
    have c2:=of_decide_eq_true hc.2
    have b:=hF.sm i.1
    have hz:iD V i=V.z i.1+i.2:=rfl
    have hq:qD V (.ap 37 (.i i.1 i.2) (.lit 0))=((iD V i:Int):Rat):=by simp only [qD]; rfl
    refine Calls.mono (kQWhole (iD V i) (by omega) (by omega) rfl) fun e w' ⟨v,e1,e2,e3⟩=>⟨v,e1,@RV1.rv (envD V) ρ M w' _ _ (aQ_in (by rw [hq]; exact e2) ?_),e3⟩
    rw [hq]
    exact RSm.whole (i:=1) (by unfold Sm; omega)
   ·cases e
  ·cases e
 ·cases e)
end
noncomputable def primC (F:Fa):List PE:=[zAddQ,zMulQ,zSubQ,zCmpP,zSignQ,zSignP,zAddP,zMulP,zWholeQ F,zCmpQ,zNegQ,zNegP] ++ primL
theorem primC_ok {V:VL} {F:Fa} (hF:FaOK V F) {l:List PE} (hl:∀ e∈l,@PE.ok (envD V) e):@PrimOK (envD V) (primOf (l ++ primC F)):=@primOf_ok (envD V) _ fun e he=>by
 rcases List.mem_append.1 he with he | he
 ·exact hl e he
 ·rcases List.mem_append.1 he with he | he
  ·simp only [List.mem_cons,List.not_mem_nil,or_false] at he
   rcases he with rfl | rfl | rfl | rfl | rfl | rfl | rfl | rfl | rfl | rfl | rfl | rfl
   ·exact zAddQ_ok
   ·exact zMulQ_ok
   ·exact zSubQ_ok
   ·exact zCmpP_ok
   ·exact zSignQ_ok
   ·exact zSignP_ok
   ·exact zAddP_ok
   ·exact zMulP_ok
   ·exact zWholeQ_ok hF
   ·exact zCmpQ_ok
   ·exact zNegQ_ok
   ·exact zNegP_ok
  ·exact @primL_mem (envD V) e he
end Go.Proofs.YtgaehhapjnbieaaGreat
namespace Go.Proofs.YtgaehhapjnbieaaGreat
open Go.RowKit
inductive KFr where
 | sq (c:Code)
 | bk (i:Nat)
inductive Ex where
 | nor
 | ret
 | ext (m:Nat)
def Ex.e:Ex→Exit
 | .nor=>.normal
 | .ret=>.ret
 | .ext m=>.exit m
inductive Stop where
 | loop (b:Code) (k:List KFr) (s:Fm)
 | done (e:Ex) (s:Fm)
def unw:List KFr→(Exit→Act→World→Prop)→Exit→Act→World→Prop
 | [],Q=>Q
 | .sq c :: k,Q=>Exit.then (c.wp Tryz.prog (unw k Q)) (unw k Q)
 | .bk i :: k,Q=>Exit.inBlock i (unw k Q)
inductive Cf where
 | run (c:Code)
 | at_ (e:Ex)
noncomputable def runF (T:Tb) (pl:List Nat) (m:Nat):Nat→Cf→List KFr→Fm→Option Stop
 | 0,_,_,_=>none
 | n+1,cf,k,s=>match cf with
  | .run c=>(match c with
   | .skip=>runF T pl m n (.at_ .nor) k s
   | .region _ ops dr=>(match regionA T (orC T.call (callW pl (runA T pl m))) dr ops s with
    | some s'=>runF T pl m n (.at_ .nor) k s'
    | none=>none)
   | .seq x y=>runF T pl m n (.run x) (.sq y :: k) s
   | .cond (.tmp t) x y=>(match s.tm[t]? with
    | some (.val (.bool true))=>runF T pl m n (.run x) k s
    | some (.val (.bool false))=>runF T pl m n (.run y) k s
    | _=>none)
   | .block i x=>runF T pl m n (.run x) (.bk i :: k) s
   | .loop b=>some (.loop b k s)
   | .exit i=>runF T pl m n (.at_ (.ext i)) k s
   | .ret=>runF T pl m n (.at_ .ret) k s
   | _=>none)
  | .at_ e=>match k with
   | []=>some (.done e s)
   | .sq c :: k=>(match e with
    | .nor=>runF T pl m n (.run c) k s
    | e=>runF T pl m n (.at_ e) k s)
   | .bk i :: k=>(match e with
    | .ext j=>if Nat.beq j i then runF T pl m n (.at_ .nor) k s else runF T pl m n (.at_ (.ext j)) k s
    | e=>runF T pl m n (.at_ e) k s)
section
variable {E : Env} {T : Tb} {pl : List Nat} {W0 : World} {M0 : Nat → Prop} {Q : Exit → Act → World → Prop}
def holds (Q:Exit→Act→World→Prop) (k:List KFr) (a:Act) (w:World):Cf→Prop
 | .run c=>c.wp Tryz.prog (unw k Q) a w
 | .at_ e=>unw k Q e.e a w
def StopOK (E:Env) (W0:World) (M0:Nat→Prop) (Q:Exit→Act→World→Prop):Stop→Prop
 | .loop b k s=>∀ ρ M a w,@FS0 E W0 M0 s ρ M a w→(Code.loop b).wp Tryz.prog (unw k Q) a w
 | .done e s=>∀ ρ M a w,@FS0 E W0 M0 s ρ M a w→Q e.e a w
theorem runF_ok (hT:@TbOK E T) (hpl:∀ f∈pl,Plainly f) {m:Nat}:∀ (n:Nat) (cf:Cf) (k:List KFr) (s:Fm) (o:Stop),runF T pl m n cf k s=some o→StopOK E W0 M0 Q o→∀ ρ M a w,@FS0 E W0 M0 s ρ M a w→holds Q k a w cf
 | 0,_,_,_,_,h,_,_,_,_,_,_=>by unfold runF at h; cases h
 | n+1,cf,k,s,o,h,hQ,ρ,M,a,w,hF=>by
  have ih:=runF_ok (m:=m) hT hpl n
  unfold runF at h
  cases cf with
  | run c =>
   simp only [] at h
   show c.wp Tryz.prog (unw k Q) a w
   cases c with
   | skip=>exact wp_skip (ih _ _ _ _ h hQ ρ M a w hF)
   | region i ops dr =>
    simp only [] at h
    split at h
    ·rename_i s' hs'
     exact @region_sound E T _ _ W0 noR M0 [] 16 s s' ρ M a w ops dr (unw k Q) hT (@orC_ok E _ _ (@TbOK.call E T hT) (@callW_ok E T pl hpl m (@run_ok E T pl hT hpl m).1)) i hs' (fun _ h=>h) hF fun ρ' M' a' w' hF'=>ih (.at_ .nor) _ _ _ h hQ ρ' M' a' w' hF'
    ·cases h
   | seq x y=>exact wp_seq (ih (.run x) (.sq y :: k) _ _ h hQ ρ M a w hF)
   | cond t x y =>
    cases t with
    | tmp t =>
     simp only [] at h
     obtain ⟨Fsize,Fdef,Fslots,_⟩:=id hF
     split at h
     ·rename_i ht
      obtain ⟨v,e1,e2⟩:=Fslots t _ ht
      have e2:v = .bool true:=e2
      exact wp_cond_true (by rw [eval_of e1,e2]) (ih (.run x) _ _ _ h hQ ρ M a w hF)
     ·rename_i ht
      obtain ⟨v,e1,e2⟩:=Fslots t _ ht
      have e2:v = .bool false:=e2
      exact wp_cond_false (by rw [eval_of e1,e2]) (ih (.run y) _ _ _ h hQ ρ M a w hF)
     ·cases h
    | _=>cases h
   | block i x=>exact wp_block (ih (.run x) (.bk i :: k) _ _ h hQ ρ M a w hF)
   | loop b=>cases h; exact hQ ρ M a w hF
   | exit i=>exact wp_exit (ih (.at_ (.ext i)) _ _ _ h hQ ρ M a w hF)
   | ret=>exact wp_ret (ih (.at_ .ret) _ _ _ h hQ ρ M a w hF)
   | _=>cases h
  | at_ e =>
   simp only [] at h
   show unw k Q e.e a w
   cases k with
   | nil=>cases h; exact hQ ρ M a w hF
   | cons f k =>
    cases f with
    | sq c =>
     cases e with
     | nor=>exact ih (.run c) k s o h hQ ρ M a w hF
     | ret=>exact ih (.at_ .ret) k s o h hQ ρ M a w hF
     | ext m=>exact ih (.at_ (.ext m)) k s o h hQ ρ M a w hF
    | bk i =>
     cases e with
     | nor=>exact ih (.at_ .nor) k s o h hQ ρ M a w hF
     | ret=>exact ih (.at_ .ret) k s o h hQ ρ M a w hF
     | ext m =>
      simp only [] at h
      show (if m=i then unw k Q .normal a w else unw k Q (.exit m) a w)
      split at h
      ·rename_i hm
       rw [if_pos (Nat.eq_of_beq_eq_true hm)]
       exact ih (.at_ .nor) k s o h hQ ρ M a w hF
      ·rename_i hm
       rw [if_neg fun e=>hm (by rw [e]; exact Nat.beq_refl i)]
       exact ih (.at_ (.ext m)) k s o h hQ ρ M a w hF
end
def findL:Code→List KFr→Option (Code × List KFr)
 | .loop b,k=>some (b,k)
 | .seq x y,k=>match findL x (.sq y :: k) with
  | some r=>some r
  | none=>findL y k
 | .block i x,k=>findL x (.bk i :: k)
 | _,_=>none
def lpB (c:Code) (k:List KFr):Code:=match findL c k with | some r=>r.1 | none=>.skip
def lpK (c:Code) (k:List KFr):List KFr:=match findL c k with | some r=>r.2 | none=>[]
def stopS:Option Stop→Fm
 | some (.loop _ _ s)=>s
 | some (.done _ s)=>s
 | none=>⟨[],[],0,[]⟩
def lkN:List (Nat × AV)→Nat→AV
 | [],_=>.any
 | x :: l,i=>if Nat.beq x.1 i then x.2 else lkN l i
def slotsA (l:List (Nat × AV)):Nat→Nat→List AV
 | 0,_=>[]
 | n+1,i=>lkN l i :: slotsA l n (i+1)
def mkS (n:Nat) (l:List (Nat × AV)) (H:HP) (nx:Nat):Fm:=⟨slotsA l n 0,H,nx,[]⟩
def begS (n:Nat) (xs:List AV):Fm:=⟨xs ++ List.replicate (n - xs.length) (.val undef),[],16,[]⟩
section
variable {V V' : VL} {ρ ρ' : Rho} {M : Nat → Prop} {w : World} {cs : List Value}
def Le (V V':VL) (p:AV × AV):Prop:=∀ (ρ ρ':Rho) (M:Nat→Prop) (w:World) (cs:List Value),@Rp (envD V) ρ M w p.1 cs → @Rp (envD V') ρ' M w p.2 cs
theorem rd_I {k k':Nat} {c c':Int} (h:iD V (k,c)=iD V' (k',c')):Le V V' (aI k c,aI k' c'):=fun ρ ρ' M w cs r=>by
 unfold Rp at r ⊢
 refine ⟨r.1,?_⟩
 have h2:=r.2
 show (XP.int (zD V' (.i k' c'))).p M w cs
 rw [zD_i,← h]
 exact h2
theorem rd_Ic {k':Nat} {c c':Int} (h:c=iD V' (k',c')):Le V V' (.val (.int .i64 c),aI k' c'):=fun ρ ρ' M w cs r=>by
 unfold Rp at r ⊢
 obtain ⟨rfl,_⟩:=r
 refine ⟨rfl,?_⟩
 show (XP.int (zD V' (.i k' c'))).p M w _
 rw [zD_i,← h]
 rfl
theorem rd_L {e e':CE} (h:lD V e=lD V' e'):Le V V' (aL e,aL e'):=fun ρ ρ' M w cs r=>by
 unfold Rp at r ⊢
 refine ⟨r.1,?_⟩
 have h2:=r.2
 show (XP.rats (lD V' e')).p M w cs
 rw [← h]
 exact h2
theorem rd_Q {q q':CE} {n:Nat} (h:qD V q=qD V' q'):Le V V' (aQ q n,aQ q' n):=fun ρ ρ' M w cs r=>by
 unfold Rp at r ⊢
 refine ⟨r.1,?_⟩
 have h2:=r.2
 show (XP.num (qD V' q') _).p M w cs
 rw [← h]
 exact h2
theorem rd_ok {d:Rd} (h1:∀ p∈d.vs,Le V V' p) (h2:d.ns=[]) (h3:d.bs=[]) (h4:d.rest=[]):RdOK (envD V) (envD V') d:=
 ⟨h1,fun p hp=>(by rw [h2] at hp; cases hp),fun p hp=>(by rw [h3] at hp; cases hp),fun p hp=>(by rw [h4] at hp; cases hp)⟩
end
noncomputable def tbF (F:Fa) (l:List PE):Tb:=⟨primOf (l ++ primC F),stdX F,noC⟩
theorem tbF_ok {V:VL} {F:Fa} (hF:FaOK V F) {l:List PE} (hl:∀ e∈l,@PE.ok (envD V) e):@TbOK (envD V) (tbF F l):=@TbOK.mk (envD V) _ (primC_ok hF hl) (stdX_ok hF) (@noC_ok (envD V))
theorem am_go {V:VL} {F:Fa} {l:List PE} {m n:Nat} {cf:Cf} {k:List KFr} {s:Fm} {W0:World} {M0:Nat→Prop} {Q:Exit→Act→World→Prop} {ρ:Rho} {M:Nat→Prop} {a:Act} {w:World} (hF:FaOK V F) (hl:∀ e∈l,@PE.ok (envD V) e) (o:Stop) (h:runF (tbF F l) plainL m n cf k s=some o) (hS:@FS0 (envD V) W0 M0 s ρ M a w) (hQ:StopOK (envD V) W0 M0 Q o):holds Q k a w cf:=
 runF_ok (tbF_ok hF hl) plainL_ok n cf k s o h hQ ρ M a w hS
end Go.Proofs.YtgaehhapjnbieaaGreat
namespace Go.Proofs.YtgaehhapjnbieaaGreat
open Go.RowKit
theorem trimC_take {l:List Rat} {n:Nat} (hn:n≤l.length) (h:∀ i,n≤i→l.getD i 0=0) (ht:n=0 ∨ l.getD (n - 1) 0≠0):l.take n=trimC l:=by
 have hd:l=l.take n ++ l.drop n:=(List.take_append_drop n l).symm
 have hz:∀ x∈(l.drop n).reverse,decide (x=0)=true:=fun x hx=>by
  obtain ⟨i,hi,e⟩:=List.getElem_of_mem (List.mem_reverse.1 hx)
  have:=h (n+i) (by omega)
  rw [List.getElem_drop] at e
  rw [List.getD_eq_getElem?_getD,List.getElem?_eq_getElem (by rw [List.length_drop] at hi; omega)] at this
  have e2:l[n+i]'(by rw [List.length_drop] at hi; omega)=x:=e
  simp only [Option.getD_some] at this
  rw [e2] at this
  simp [this]
 unfold trimC
 have key:l.reverse.dropWhile (fun x=>decide (x=0))=(l.take n).reverse:=by
  conv=>lhs; rw [hd,List.reverse_append]
  rw [List.dropWhile_append_of_pos hz]
  rcases ht with rfl | ht
  ·simp
  ·have hn0:0<n:=by
    rcases Nat.eq_zero_or_pos n with rfl | h0
    ·exact absurd (h 0 (Nat.le_refl _)) (by simpa using ht)
    ·exact h0
   have hne:l.take n≠[]:=fun e=>by
    have:=congrArg List.length e
    rw [List.length_take] at this
    have:min n l.length=0:=this
    omega
   cases hr:(l.take n).reverse with
   | nil=>rw [List.reverse_eq_nil_iff] at hr; exact absurd hr hne
   | cons x r =>
    have hx:x=l.getD (n - 1) 0:=by
     have h1:(l.take n).reverse[0]? = some x:=by rw [hr]; rfl
     rw [List.getElem?_reverse (by rw [List.length_take]; omega),List.length_take,List.getElem?_take] at h1
     rw [show min n l.length - 1 - 0=n - 1 by omega,if_pos (by omega)] at h1
     rw [List.getD_eq_getElem?_getD,h1]
     rfl
    rw [List.dropWhile_cons_of_neg]
    rw [hx]
    simpa using ht
 rw [key,List.reverse_reverse]
noncomputable def tr_f:Func:=Tryz.f52
noncomputable def tr_c:Code:=bodyOf tr_f
noncomputable def tr_b:Code:=lpB tr_c []
noncomputable def tr_k:List KFr:=lpK tr_c []
def tr_V (l:List Rat) (n:Nat):VL:=⟨fun k=>match k with | 1=>(n:Int) | 2=>(l.length:Int) | _=>0,fun k=>match k with | 0=>l | 1=>trimC l | _=>[],fun _=>0,fun _=>[]⟩
def tr_top:CE:=.ap 30 (.v 0) (.i 1 (-1))
def tr_F0 (i:Nat) (b:Bool):Fa:=⟨[(0,1,-1),(1,2,0)],[(.v 0,2,0)],[(.v 0,i)],[(tr_top,b)],[],[],[]⟩
def tr_F1 (i:Nat):Fa:=⟨[(1,0,0),(0,1,0),(1,2,0)],[(.v 0,2,0)],[(.v 0,i)],[],[],[],[]⟩
def tr_F2:Fa:=⟨[(0,1,0),(1,2,0)],[(.v 0,2,0)],[],[],[],[],[]⟩
def tr_s:Fm:=mkS 22 [(0,aL (.v 0)),(3,aI 1 0)] [] 200000000
noncomputable def tr_r0:=runF (tbF tr_F2 []) plainL 100 100 (.run tr_c) [] (begS 22 [aL (.v 0)])
noncomputable def tr_rz:=runF (tbF (tr_F0 200000000 true) []) plainL 100 100 (.run tr_b) [] tr_s
noncomputable def tr_rn:=runF (tbF (tr_F0 200000000 false) []) plainL 100 100 (.run tr_b) [] tr_s
noncomputable def tr_r1:=runF (tbF (tr_F1 200000000) []) plainL 100 100 (.run tr_b) [] tr_s
noncomputable def tr_rx (s:Fm):=runF (tbF tr_F2 []) plainL 100 100 (.at_ (.ext 0)) tr_k s
set_option maxRecDepth 100000
theorem tr_e0:tr_r0=some (.loop tr_b tr_k (stopS tr_r0)):=by kernel_rfl
theorem tr_ez:tr_rz=some (.done .nor (stopS tr_rz)):=by kernel_rfl
theorem tr_en:tr_rn=some (.done (.ext 0) (stopS tr_rn)):=by kernel_rfl
theorem tr_e1:tr_r1=some (.done (.ext 0) (stopS tr_r1)):=by kernel_rfl
theorem tr_xn:tr_rx (stopS tr_rn)=some (.done .ret (stopS (tr_rx (stopS tr_rn)))):=by kernel_rfl
theorem tr_x1:tr_rx (stopS tr_r1)=some (.done .ret (stopS (tr_rx (stopS tr_r1)))):=by kernel_rfl
def tr_I (l:List Rat) (n:Nat):Prop:=n≤l.length∧∀ i,n≤i→l.getD i 0=0
section
variable {l : List Rat} {n : Nat}
theorem tr_sm (hl:l.length≤1000000) (hn:n≤l.length) (k:Nat) : -1152921504606846976≤(tr_V l n).z k∧(tr_V l n).z k≤1152921504606846976:=by
 show -1152921504606846976≤(match k with | 1=>(n:Int) | 2=>(l.length:Int) | _=>0)∧(match k with | 1=>(n:Int) | 2=>(l.length:Int) | _=>0)≤(1152921504606846976:Int)
 split <;> omega
theorem tr_F2_ok (hl:l.length≤1000000) (hn:n≤l.length):FaOK (tr_V l n) tr_F2 where
 z0:=rfl
 sm:=tr_sm hl hn
 le:=by simp [tr_F2,tr_V]; omega
 len:=by simp [tr_F2,tr_V,lD]
 bd:=by simp [tr_F2]
 zr:=by simp [tr_F2]
 rlen:=by simp [tr_F2]
 full:=by simp [tr_F2]
 sum:=by simp [tr_F2]
theorem tr_F1_ok (hs:∀ x∈l,RSm x 200000000) (hl:l.length≤1000000):FaOK (tr_V l 0) (tr_F1 200000000) where
 z0:=rfl
 sm:=tr_sm hl (Nat.zero_le _)
 le:=by simp [tr_F1,tr_V]
 len:=by simp [tr_F1,tr_V,lD]
 bd:=by simpa [tr_F1,tr_V,lD] using hs
 zr:=by simp [tr_F1]
 rlen:=by simp [tr_F1]
 full:=by simp [tr_F1]
 sum:=by simp [tr_F1]
theorem tr_top_is (h0:0<n):qD (tr_V l n) tr_top=l.getD (n - 1) 0:=by
 have:((n:Int) + -1).toNat=n - 1:=by omega
 simp [tr_top,qD,lD,zD,tr_V,this]
theorem tr_F0_ok (hs:∀ x∈l,RSm x 200000000) (hl:l.length≤1000000) (hn:n≤l.length) (h0:0<n) {b:Bool} (hb:decide (l.getD (n - 1) 0=0)=b):FaOK (tr_V l n) (tr_F0 200000000 b) where
 z0:=rfl
 sm:=tr_sm hl hn
 le:=by simp [tr_F0,tr_V]; omega
 len:=by simp [tr_F0,tr_V,lD]
 bd:=by simpa [tr_F0,tr_V,lD] using hs
 zr:=by
  intro x hx
  simp only [tr_F0,List.mem_singleton] at hx
  subst hx
  rw [tr_top_is h0]
  exact hb
 rlen:=by simp [tr_F0]
 full:=by simp [tr_F0]
 sum:=by simp [tr_F0]
end
def tr_d0:Rd:=⟨[(aL (.v 0),aL (.v 0)),(aI 2 0,aI 1 0)],[],[],[],[],200000000⟩
def tr_d1:Rd:=⟨[(aL (.v 0),aL (.v 0)),(aI 1 (-1),aI 1 0)],[],[],[],[],200000000⟩
def tr_d2:Rd:=⟨[(aL (.ap 20 (.v 0) (.i 1 0)),aL (.v 1))],[],[],[],[],400⟩
def tr_fin:Fm:=mkS 22 [(2,aL (.v 1))] [] 400
theorem tr_m0:wkF tr_d0 16 (stopS tr_r0) tr_s=true:=by kernel_rfl
theorem tr_m1:wkF tr_d1 16 (stopS tr_rz) tr_s=true:=by kernel_rfl
theorem tr_m2:wkF tr_d2 16 (stopS (tr_rx (stopS tr_rn))) tr_fin=true:=by kernel_rfl
theorem tr_m3:wkF tr_d2 16 (stopS (tr_rx (stopS tr_r1))) tr_fin=true:=by kernel_rfl
theorem tr_h0:below 16 tr_s.H=below 16 (stopS tr_r0).H:=by kernel_rfl
theorem tr_h1:below 16 tr_s.H=below 16 (stopS tr_rz).H:=by kernel_rfl
theorem tr_h2:below 16 tr_fin.H=below 16 (stopS (tr_rx (stopS tr_rn))).H:=by kernel_rfl
theorem tr_h3:below 16 tr_fin.H=below 16 (stopS (tr_rx (stopS tr_r1))).H:=by kernel_rfl
theorem tr_end:endA tr_f tr_fin=some (aL (.v 1)):=by kernel_rfl
theorem tr_out {l:List Rat} {n:Nat} {W0:World} {M0:Nat→Prop} {ρ:Rho} {M:Nat→Prop} {a:Act} {w:World} {s:Fm} (hm0:∀ b,M0 b→b<W0.heap.size) (h:l.take n=trimC l) (h1:wkF tr_d2 16 s tr_fin=true) (h2:below 16 tr_fin.H=below 16 s.H) (hF:@FS0 (envD (tr_V l n)) W0 M0 s ρ M a w):@OutF (envD (tr_V l l.length)) tr_f (aL (.v 1)) W0 M0 .ret a w:=by
 obtain ⟨ρ,M,hF⟩:=am_move (E':=envD (tr_V l l.length)) tr_d2 (rd_ok (fun p hp=>by
  simp only [tr_d2,List.mem_singleton] at hp
  subst hp
  exact rd_L (by simpa [lD,zD,tr_V] using h)) rfl rfl rfl) hm0 h1 h2 hF
 exact ⟨.inr rfl,_,ρ,M,hF,tr_end⟩
theorem kTrimQ {l:List Rat} (hs:∀ x∈l,RSm x 200000000) (hl:l.length≤1000000) {M:Nat→Prop} {w:World} {v:Value} (hm0:∀ b,M b→b<w.heap.size) (hv:(XP.rats l).p M w [v]) :
  Calls Tryz.prog 52 #[v] w fun e w'=>∃ u,e = .returned u∧(XP.rats (trimC l)).p M w' [u]∧Below w.heap.size w w':=by
 refine Calls.mono (@am_calls (envD (tr_V l l.length)) _ tr_f tr_c [aL (.v 0)] [aL (.v 0)] (aL (.v 1)) noR M w [v] Tryz.func52 (by rfl) rfl (by show 1≤22; omega) hm0 ⟨v,[],rfl,aL_in hv,rfl⟩ fun a hF=>?_) fun e w' ⟨u,e1,e2,e3⟩=>⟨u,e1,aL_out (V:=tr_V l l.length) (e:=.v 1) (ρ:=noR) e2,e3⟩
 show holds _ [] a w (.run tr_c)
 refine am_go (V:=tr_V l l.length) (F:=tr_F2) (tr_F2_ok hl (Nat.le_refl _)) (fun _ h=>by cases h) _ tr_e0 hF fun ρ M' a w' hF=>?_
 obtain ⟨ρ,M',hF⟩:=am_move (E':=envD (tr_V l l.length)) tr_d0 (rd_ok (fun p hp=>by
  simp only [tr_d0,List.mem_cons,List.not_mem_nil,or_false] at hp
  rcases hp with rfl | rfl
  ·exact rd_L rfl
  ·exact rd_I rfl) rfl rfl rfl) hm0 tr_m0 tr_h0 hF
 refine am_loop (fun n=>n) (tr_V l) (tr_I l) tr_s ?_ l.length ⟨Nat.le_refl _,fun i hi=>by rw [List.getD_eq_getElem?_getD,List.getElem?_eq_none hi]; rfl⟩ hF
 intro n ⟨hn,hz⟩ ρ M' a w' hF
 show holds _ [] a w' (.run tr_b)
 by_cases h0:n=0
 ·subst h0
  refine am_go (V:=tr_V l 0) (tr_F1_ok hs hl) (fun _ h=>by cases h) _ tr_e1 hF fun ρ M' a w' hF=>?_
  show holds _ tr_k a w' (.at_ (.ext 0))
  exact am_go (V:=tr_V l 0) (tr_F2_ok hl hn) (fun _ h=>by cases h) _ tr_x1 hF fun ρ M' a w' hF=>tr_out hm0 (trimC_take hn hz (.inl rfl)) tr_m3 tr_h3 hF
 ·have h0:0<n:=by omega
  by_cases hb:l.getD (n - 1) 0=0
  ·refine am_go (V:=tr_V l n) (tr_F0_ok hs hl hn h0 (decide_eq_true hb)) (fun _ h=>by cases h) _ tr_ez hF fun ρ M' a w' hF=>?_
   obtain ⟨ρ,M',hF⟩:=am_move (E':=envD (tr_V l (n - 1))) tr_d1 (rd_ok (fun p hp=>by
    simp only [tr_d1,List.mem_cons,List.not_mem_nil,or_false] at hp
    rcases hp with rfl | rfl
    ·exact rd_L rfl
    ·exact rd_I (by show (n:Int) + -1=((n - 1:Nat):Int)+0; omega)) rfl rfl rfl) hm0 tr_m1 tr_h1 hF
   exact ⟨n - 1,ρ,M',⟨by omega,fun i hi=>if e:i=n - 1 then e ▸ hb else hz i (by omega)⟩,by omega,hF⟩
  ·refine am_go (V:=tr_V l n) (tr_F0_ok hs hl hn h0 (decide_eq_false hb)) (fun _ h=>by cases h) _ tr_en hF fun ρ M' a w' hF=>?_
   show holds _ tr_k a w' (.at_ (.ext 0))
   exact am_go (V:=tr_V l n) (tr_F2_ok hl hn) (fun _ h=>by cases h) _ tr_xn hF fun ρ M' a w' hF=>tr_out hm0 (trimC_take hn hz (.inr hb)) tr_m2 tr_h2 hF
end Go.Proofs.YtgaehhapjnbieaaGreat
namespace Go.Proofs.YtgaehhapjnbieaaGreat
open Go.RowKit
noncomputable def co_f:Func:=Tryz.f76
noncomputable def co_c:Code:=bodyOf co_f
noncomputable def co_b:Code:=lpB co_c []
noncomputable def co_k:List KFr:=lpK co_c []
def co_row (f:Nat→Rat) (n j:Nat):List (Option Rat):=(List.range n).map fun i=>if i<j then some (f i) else none
def co_V (W:VL) (f:Nat→Rat) (n j:Nat):VL:=⟨fun k=>match k with | 3=>(j:Int) | 4=>(n:Int) | k=>W.z k,fun k=>match k with | 9=>(List.range n).map f | k=>W.l k,W.q,fun k=>match k with | 0=>co_row f n j | k=>W.r k⟩
def co_n:CE:=.ap 61 (.i 4 0) (.lit 0)
def co_o:CE:=.ap 60 (.v 0) (.lit 0)
def co_F2:Fa:=⟨[(0,4,0),(4,0,1000000)],[],[],[],[],[],[]⟩
def co_FX:Fa:=⟨[(0,4,0),(0,3,0),(4,3,0)],[],[],[],[],[],[]⟩
noncomputable def co_H:HP:=[(48,some ⟨36,0,[],false,some co_o⟩)]
noncomputable def co_s (c:AV):Fm:=mkS 22 [(1,c),(5,.slx 48 co_n),(10,aI 4 0),(11,aI 3 0)] co_H 400
def co_fin:Fm:=mkS 22 [(4,aL (.v 9))] [] 600
noncomputable def co_r0 (c:AV):=runF (tbF co_F2 []) plainL 100 100 (.run co_c) [] (begS 22 [aI 4 0,c])
noncomputable def co_rr (F:Fa) (L:List PE) (c:AV):=runF (tbF F L) plainL 200 100 (.run co_b) [] (co_s c)
noncomputable def co_rx (c:AV):=runF (tbF co_FX []) plainL 100 100 (.run co_b) [] (co_s c)
noncomputable def co_re (c:AV):=runF (tbF co_FX []) plainL 100 100 (.at_ (.ext 0)) co_k (stopS (co_rx c))
def co_d0 (P:List (AV × AV)):Rd:=⟨(aI 4 0,aI 4 0) :: (.val (.int .i64 0),aI 3 0) :: P,[(co_n,co_n)],[(.ap 60 (.ap 40 (.i 4 0) (.lit 0)) (.lit 0),co_o)],[],[],400⟩
def co_dr (P:List (AV × AV)) (q:CE) (b:Nat):Rd:=⟨(aI 4 0,aI 4 0) :: (aI 3 1,aI 3 0) :: P,[(co_n,co_n)],[(.ap 60 (.ap 41 (.v 0) (.ap 0 (.i 3 0) (.ap 52 q (.lit (b:Int))))) (.lit 0),co_o)],[],[],400⟩
def co_dx:Rd:=⟨[],[],[],[(48,co_n,co_o,.ap 51 (.v 9) (.lit 0))],[],600⟩
structure CoRuns (F:Fa) (L:List PE) (P:List (AV × AV)) (c:AV) (q:CE) (b:Nat):Prop where
 id_:renL (fun _=>none) [aI 4 0,c]=some [aI 4 0,c]
 e0:co_r0 c=some (.loop co_b co_k (stopS (co_r0 c)))
 er:co_rr F L c=some (.done .nor (stopS (co_rr F L c)))
 ex:co_rx c=some (.done (.ext 0) (stopS (co_rx c)))
 ee:co_re c=some (.done .ret (stopS (co_re c)))
 m0:wkF (co_d0 P) 16 (stopS (co_r0 c)) (co_s c)=true
 mr:wkF (co_dr P q b) 16 (stopS (co_rr F L c)) (co_s c)=true
 mx:wkF co_dx 16 (stopS (co_re c)) co_fin=true
 b0:below 16 (co_s c).H=below 16 (stopS (co_r0 c)).H
 br:below 16 (co_s c).H=below 16 (stopS (co_rr F L c)).H
 bx:below 16 co_fin.H=below 16 (stopS (co_re c)).H
theorem co_end:endA co_f co_fin=some (aL (.v 9)):=by kernel_rfl
theorem optCells_rat {w:World}:∀ {l:List Rat} {cs:List Value},OptCells w (l.map some) cs→RatCells w l cs
 | [],_,h=>h
 | _ :: _,_,⟨a,b,c,d,r,e,h1,h2,h3⟩=>⟨a,b,c,d,r,e,h1,h2,optCells_rat h3⟩
theorem co_row0 (f:Nat→Rat) (n:Nat):co_row f n 0=List.replicate n none:=by
 apply List.ext_getElem
 ·simp [co_row]
 ·intro i h1 h2
  simp [co_row]
theorem co_rowS (f:Nat→Rat) (n j:Nat):(co_row f n j).set j (some (f j))=co_row f n (j+1):=by
 apply List.ext_getElem
 ·simp [co_row]
 ·intro i h1 h2
  rw [List.getElem_set]
  simp only [co_row,List.getElem_map,List.getElem_range]
  by_cases h:j=i
  ·subst h
   simp
  ·by_cases h3:i<j
   ·simp [h,h3,show i<j+1 by omega]
   ·simp [h,h3,show ¬ i<j+1 by omega]
theorem co_rowN (f:Nat→Rat) (n:Nat):co_row f n n=((List.range n).map f).map some:=by
 apply List.ext_getElem
 ·simp [co_row]
 ·intro i h1 h2
  have:i<n:=by simpa [co_row] using h1
  simp [co_row,this]
section
variable {W : VL} {f : Nat → Rat} {n : Nat}
theorem co_sm (hs:∀ k,-1152921504606846976≤W.z k∧W.z k≤1152921504606846976) (hn:n≤1000000) {j:Nat} (hj:j≤n) (k:Nat) : -1152921504606846976≤(co_V W f n j).z k∧(co_V W f n j).z k≤1152921504606846976:=by
 show -1152921504606846976≤(match k with | 3=>(j:Int) | 4=>(n:Int) | k=>W.z k)∧(match k with | 3=>(j:Int) | 4=>(n:Int) | k=>W.z k)≤(1152921504606846976:Int)
 split
 ·omega
 ·omega
 ·exact hs _
theorem co_F2_ok (h0:W.z 0=0) (hs:∀ k,-1152921504606846976≤W.z k∧W.z k≤1152921504606846976) (hn:n≤1000000) {j:Nat} (hj:j≤n):FaOK (co_V W f n j) co_F2 where
 z0:=h0
 sm:=co_sm hs hn hj
 le:=by simp [co_F2,co_V,h0]; omega
 len:=by simp [co_F2]
 bd:=by simp [co_F2]
 zr:=by simp [co_F2]
 rlen:=by simp [co_F2]
 full:=by simp [co_F2]
 sum:=by simp [co_F2]
theorem co_FX_ok (h0:W.z 0=0) (hs:∀ k,-1152921504606846976≤W.z k∧W.z k≤1152921504606846976) (hn:n≤1000000):FaOK (co_V W f n n) co_FX where
 z0:=h0
 sm:=co_sm hs hn (Nat.le_refl _)
 le:=by simp [co_FX,co_V,h0]
 len:=by simp [co_FX]
 bd:=by simp [co_FX]
 zr:=by simp [co_FX]
 rlen:=by simp [co_FX]
 full:=by simp [co_FX]
 sum:=by simp [co_FX]
theorem kCollect {F:Fa} {L:List PE} {P:List (AV × AV)} {c:AV} {q:CE} {b:Nat} (R:CoRuns F L P c q b) (h0:W.z 0=0) (hs:∀ k,-1152921504606846976≤W.z k∧W.z k≤1152921504606846976) (hn:n≤1000000)
  (hP:∀ p∈P,∀ j j',Le (co_V W f n j) (co_V W f n j') p) (hF:∀ j,j<n→FaOK (co_V W f n j) F) (hL:∀ j,j<n→∀ e∈L,@PE.ok (envD (co_V W f n j)) e) (hq:∀ j,j<n→qD (co_V W f n j) q=f j)
  {M:Nat→Prop} {w:World} {vs:List Value} (hm0:∀ b,M b→b<w.heap.size) (hv:@RVs (envD (co_V W f n 0)) noR M w [aI 4 0,c] vs) :
  Calls Tryz.prog 76 vs.toArray w fun e w'=>∃ u,e = .returned u∧(XP.rats ((List.range n).map f)).p M w' [u]∧Below w.heap.size w w':=by
 refine Calls.mono (@am_calls (envD (co_V W f n 0)) _ co_f co_c [aI 4 0,c] [aI 4 0,c] (aL (.v 9)) noR M w vs Tryz.func76 (by rfl) R.id_ (by show 2≤22; omega) hm0 hv fun a hS=>?_) fun e w' ⟨u,e1,e2,e3⟩=>⟨u,e1,aL_out (V:=co_V W f n 0) (e:=.v 9) (ρ:=noR) e2,e3⟩
 show holds _ [] a w (.run co_c)
 refine am_go (V:=co_V W f n 0) (co_F2_ok h0 hs hn (Nat.zero_le _)) (fun _ h=>by cases h) _ R.e0 hS fun ρ M' a w' hS=>?_
 obtain ⟨ρ,M',hS⟩:=am_move (E':=envD (co_V W f n 0)) (co_d0 P) ⟨fun p hp=>by
  simp only [co_d0,List.mem_cons] at hp
  rcases hp with rfl | rfl | hp
  ·exact rd_I rfl
  ·exact rd_Ic rfl
  ·exact hP p hp 0 0,fun p hp=>by
  simp only [co_d0,List.mem_singleton] at hp
  subst hp
  rfl,fun p hp M w cs r=>by
  simp only [co_d0,List.mem_singleton] at hp
  subst hp
  change OptCells w (rD (co_V W f n 0) (.ap 40 (.i 4 0) (.lit 0))) cs at r
  show OptCells w (co_row f n 0) cs
  rw [co_row0]
  simpa [rD,zD,co_V] using r,fun p hp=>(by cases hp)⟩ hm0 R.m0 R.b0 hS
 refine am_loop (fun j=>n - j) (co_V W f n) (fun j=>j≤n) (co_s c) ?_ 0 (Nat.zero_le _) hS
 intro j hj ρ M' a w' hS
 show holds _ [] a w' (.run co_b)
 by_cases hjn:j<n
 ·refine am_go (V:=co_V W f n j) (hF j hjn) (hL j hjn) _ R.er hS fun ρ M' a w' hS=>?_
  obtain ⟨ρ,M',hS⟩:=am_move (E':=envD (co_V W f n (j+1))) (co_dr P q b) ⟨fun p hp=>by
   simp only [co_dr,List.mem_cons] at hp
   rcases hp with rfl | rfl | hp
   ·exact rd_I rfl
   ·exact rd_I (by show (j:Int)+1=((j+1:Nat):Int)+0; omega)
   ·exact hP p hp j (j+1),fun p hp=>by
   simp only [co_dr,List.mem_singleton] at hp
   subst hp
   rfl,fun p hp M w cs r=>by
   simp only [co_dr,List.mem_singleton] at hp
   subst hp
   change OptCells w (rD (co_V W f n j) (.ap 41 (.v 0) (.ap 0 (.i 3 0) (.ap 52 q (.lit (b:Int)))))) cs at r
   show OptCells w (co_row f n (j+1)) cs
   rw [← co_rowS]
   simp only [rD] at r
   rw [hq j hjn] at r
   have hz:(zD (co_V W f n j) (.i 3 0)).toNat=j:=by simp [zD,co_V]
   rw [hz] at r
   exact r,fun p hp=>(by cases hp)⟩ hm0 R.mr R.br hS
  exact ⟨j+1,ρ,M',hjn,by show n - (j+1)<n - j; omega,hS⟩
 ·have hjn:j=n:=by omega
  subst hjn
  refine am_go (V:=co_V W f j j) (co_FX_ok h0 hs hn) (fun _ h=>by cases h) _ R.ex hS fun ρ M' a w' hS=>?_
  show holds _ co_k a w' (.at_ (.ext 0))
  refine am_go (V:=co_V W f j j) (co_FX_ok h0 hs hn) (fun _ h=>by cases h) _ R.ee hS fun ρ M' a w' hS=>?_
  obtain ⟨ρ,M',hS⟩:=am_move (E':=envD (co_V W f j 0)) co_dx ⟨fun p hp=>(by cases hp),fun p hp=>(by cases hp),fun p hp=>(by cases hp),fun p hp M w g k cs hm hg hr hB hN=>by
   simp only [co_dx,List.mem_singleton] at hp
   subst hp
   have hNj:(envD (co_V W f j j)).N co_n=j:=by show (zD (co_V W f j j) (.i 4 0)).toNat=j; simp [zD,co_V]
   rw [hNj] at hN
   show (XP.rats ((List.range j).map f)).p M w [.slice (some ⟨g,0,none⟩) ((envD (co_V W f j j)).N co_n) k]
   rw [hNj]
   change OptCells w (co_row f j j) cs at hB
   rw [co_rowN] at hB
   exact ⟨_,k,by simp,by simpa using hN,fun _=>⟨g,0,cs,rfl,hm,hg,hr,optCells_rat hB⟩⟩⟩ hm0 R.mx R.bx hS
  exact ⟨.inr rfl,_,ρ,M',hS,co_end⟩
end
end Go.Proofs.YtgaehhapjnbieaaGreat
namespace Go.Proofs.YtgaehhapjnbieaaGreat
open Go.RowKit
theorem am_flat {V:VL} {F:Fa} {L:List PE} {f:Nat} {fn:Func} {c:Code} {xs:List AV} {r:AV} {m n N:Nat} (e:Ex) (he:e = .nor ∨ e = .ret) (hF:FaOK V F) (hL:∀ e∈L,@PE.ok (envD V) e) (hf:Tryz.prog.funcs[f]? = some fn) (hb:fn.body=some c) (hx:renL (fun _=>none) xs=some xs) (hN:fn.ntmps=N) (hlen:xs.length≤N)
  (h1:runF (tbF F L) plainL m n (.run c) [] (begS N xs)=some (.done e (stopS (runF (tbF F L) plainL m n (.run c) [] (begS N xs))))) (h2:endA fn (stopS (runF (tbF F L) plainL m n (.run c) [] (begS N xs)))=some r)
  {ρ:Rho} {M:Nat→Prop} {w:World} {vs:List Value} (hm0:∀ b,M b→b<w.heap.size) (hv:@RVs (envD V) ρ M w xs vs) :
  Calls Tryz.prog f vs.toArray w fun e w'=>∃ u,e = .returned u ∧ @RV (envD V) ρ M w' r u∧Below w.heap.size w w':=by
 subst hN
 refine @am_calls (envD V) f fn c xs xs r ρ M w vs hf hb hx hlen hm0 hv fun a hS=>?_
 show holds _ [] a w (.run c)
 refine am_go (V:=V) hF hL _ h1 hS fun ρ M' a w' hS=>?_
 refine ⟨?_,_,ρ,M',hS,h2⟩
 rcases he with rfl | rfl
 ·exact .inl rfl
 ·exact .inr rfl
def idD (P:List (AV × AV)):Rd:=⟨P,[],[],[],[],0⟩
def peOf (f:Nat) (P:List (AV × AV)) (ex:List AV) (r:AV):PE:=⟨f,fun xs=>if wkVs (idD P) [] xs ex then some r else none⟩
theorem wkVs_rvs {E E':Env} {d:Rd} {H:HP} {ρ:Rho} {M:Nat→Prop} {w:World} (hd:RdOK E E' d) (hr:RestOK E d H ρ M w):∀ {l m:List AV} {vs:List Value},wkVs d H l m=true → @RVs E ρ M w l vs→m.all AV.one=true → @RVs E' (rhoK d ρ) (resM d ρ M) w m vs
 | [],[],_,_,h,_=>h
 | a :: l,b :: m,vs,h,⟨v,r,e,h1,h2⟩,o2=>by
  unfold wkVs at h
  rw [Bool.and_eq_true] at h
  rw [List.all_cons,Bool.and_eq_true] at o2
  exact ⟨v,r,e,@RV.one E' _ _ w b v (wkV_rv hd hr h.1 (@RV1.rv E _ _ _ _ _ h1)) o2.1,wkVs_rvs hd hr h.2 h2 o2.2⟩
 | [],_ :: _,_,h,_,_=>by unfold wkVs at h; cases h
 | _ :: _,[],_,h,_,_=>by unfold wkVs at h; cases h
theorem peOf_ok {V:VL} {f:Nat} {P:List (AV × AV)} {ex:List AV} {r:AV} (pl:Plainly f) (ho:ex.all AV.one=true) (hr:renV (fun _=>none) r=some r) (hP:∀ p∈P,Le V V p)
  (hc:∀ (M:Nat→Prop) (w:World) (vs:List Value),(∀ b,M b→b<w.heap.size) → @RVs (envD V) noR M w ex vs→Calls Tryz.prog f vs.toArray w fun e w'=>∃ u,e = .returned u ∧ @RV (envD V) noR M w' r u∧Below w.heap.size w w'):@PE.ok (envD V) (peOf f P ex r):=by
 intro xs r' e
 have e:(if wkVs (idD P) [] xs ex then some r else none)=some r':=e
 split at e
 ·rename_i h
  cases e
  refine ⟨pl,fun ρ M w vs hm0 hv=>?_⟩
  have h1:@RVs (envD V) (rhoK (idD P) ρ) (resM (idD P) ρ M) w ex vs:=wkVs_rvs (rd_ok hP rfl rfl rfl) ⟨fun p hp=>(by cases hp),fun o b g c hm=>(by cases hm)⟩ h hv ho
  have e1:rhoK (idD P) ρ=noR:=by
   funext o
   unfold rhoK
   rw [if_neg]
   intro hk
   unfold Rd.keep at hk
   rw [Bool.and_eq_true] at hk
   exact absurd (Nat.le_of_ble_eq_true hk.1) (by show ¬ o+1≤0; omega)
  have e2:resM (idD P) ρ M=M:=by
   funext b
   exact propext ⟨fun h=>h.1,fun h=>⟨h,fun o c hm=>(by cases hm)⟩⟩
  rw [e1,e2] at h1
  refine Calls.mono (hc M w vs hm0 h1) fun e w' ⟨u,q1,q2,q3⟩=>⟨u,q1,?_,q3⟩
  exact @ren_rv (envD V) (fun _=>none) noR ρ M M w' (fun _ _ _ e=>by cases e) (fun _ h=>h) r r u hr q2
 ·cases e
noncomputable def cf_f:Func:=Tryz.f109
noncomputable def cf_c:Code:=bodyOf cf_f
def cf_V (l:List Rat) (i:Nat):VL:=⟨fun k=>match k with | 1=>(i:Int) | 2=>(l.length:Int) | _=>0,fun k=>match k with | 0=>l | _=>[],fun _=>0,fun _=>[]⟩
def cf_F0:Fa:=⟨[(0,1,0),(1,2,-1)],[(.v 0,2,0)],[(.v 0,200000000)],[],[],[],[]⟩
def cf_F1:Fa:=⟨[(0,1,0),(2,1,0)],[(.v 0,2,0)],[(.v 0,200000000)],[],[],[],[]⟩
def cf_xs:List AV:=[aL (.v 0),aI 1 0]
noncomputable def cf_r0:=runF (tbF cf_F0 []) plainL 100 100 (.run cf_c) [] (begS 14 cf_xs)
noncomputable def cf_r1:=runF (tbF cf_F1 []) plainL 100 100 (.run cf_c) [] (begS 14 cf_xs)
set_option maxRecDepth 100000
theorem cf_e0:cf_r0=some (.done .ret (stopS cf_r0)):=by kernel_rfl
theorem cf_e1:cf_r1=some (.done .ret (stopS cf_r1)):=by kernel_rfl
theorem cf_x0:endA cf_f (stopS cf_r0)=some (aQ (.ap 30 (.v 0) (.i 1 0)) 200000000):=by kernel_rfl
theorem cf_x1:endA cf_f (stopS cf_r1)=some (.rat 0):=by kernel_rfl
theorem kCoef {l:List Rat} {i:Nat} (hs:∀ x∈l,RSm x 200000000) (hl:l.length≤1000000) (hi:i≤1000000) {ρ:Rho} {M:Nat→Prop} {w:World} {v:Value} (hm0:∀ b,M b→b<w.heap.size) (hv:(XP.rats l).p M w [v]) :
  Calls Tryz.prog 109 #[v,.int .i64 (i:Int)] w fun e w'=>∃ u,e = .returned u∧(ratF (l.getD i 0)).p u w'∧Below w.heap.size w w':=by
 have sm:∀ k,-1152921504606846976≤(cf_V l i).z k∧(cf_V l i).z k≤1152921504606846976:=fun k=>by
  show -1152921504606846976≤(match k with | 1=>(i:Int) | 2=>(l.length:Int) | _=>0)∧(match k with | 1=>(i:Int) | 2=>(l.length:Int) | _=>0)≤(1152921504606846976:Int)
  split <;> omega
 have hv:@RVs (envD (cf_V l i)) ρ M w cf_xs [v,.int .i64 (i:Int)]:=⟨v,_,rfl,aL_in (V:=cf_V l i) (e:=.v 0) hv,_,_,rfl,aI_in (V:=cf_V l i) (by show Value.int .i64 (i:Int) = .int .i64 ((i:Int)+0); rw [Int.add_zero]),rfl⟩
 by_cases h:i<l.length
 ·have hF:FaOK (cf_V l i) cf_F0:=⟨rfl,sm,by simp [cf_F0,cf_V]; omega,by simp [cf_F0,cf_V,lD],by simpa [cf_F0,cf_V,lD] using hs,by simp [cf_F0],by simp [cf_F0],by simp [cf_F0],by simp [cf_F0]⟩
  refine Calls.mono (am_flat .ret (.inr rfl) hF (fun _ h=>by cases h) Tryz.func109 (fn:=cf_f) (c:=cf_c) (by rfl) (by rfl) (by rfl) (by decide) cf_e0 cf_x0 hm0 hv) fun e w' ⟨u,e1,e2,e3⟩=>⟨u,e1,?_,e3⟩
  have:=(aQ_out e2).1
  simpa [qD,lD,zD,cf_V] using this
 ·have hF:FaOK (cf_V l i) cf_F1:=⟨rfl,sm,by simp [cf_F1,cf_V]; omega,by simp [cf_F1,cf_V,lD],by simpa [cf_F1,cf_V,lD] using hs,by simp [cf_F1],by simp [cf_F1],by simp [cf_F1],by simp [cf_F1]⟩
  refine Calls.mono (am_flat .ret (.inr rfl) hF (fun _ h=>by cases h) Tryz.func109 (fn:=cf_f) (c:=cf_c) (by rfl) (by rfl) (by rfl) (by decide) cf_e1 cf_x1 hm0 hv) fun e w' ⟨u,e1,e2,e3⟩=>⟨u,e1,?_,e3⟩
  rw [List.getD_eq_getElem?_getD,List.getElem?_eq_none (by omega)]
  exact @asRat_sound (envD (cf_V l i)) ρ M w' u (.rat 0) 0 rfl e2
end Go.Proofs.YtgaehhapjnbieaaGreat
namespace Go.Proofs.YtgaehhapjnbieaaGreat
open Go.RowKit
noncomputable def pCoef (F:Fa):PE:=⟨109,fun xs=>match xs with
 | [.ext 1 false (.ap 51 e _),i]=>match lkC F.bd e,lkC F.len e,intA i with
  | some b,some n,some k=>if Nat.ble b 200000000 && Nat.ble 1 b && leI F (0,0) k && leI F k (0,1000000) && leI F n (0,1000000) then some (aQ (.ap 30 e (.i k.1 k.2)) b) else none
  | _,_,_=>none
 | _=>none⟩
noncomputable def pTrim (F:Fa):PE:=⟨52,fun xs=>match xs with
 | [.ext 1 false (.ap 51 e _)]=>match lkC F.bd e,lkC F.len e with
  | some b,some n=>if Nat.ble b 200000000 && leI F n (0,1000000) then some (aL (.ap 70 e (.lit 0))) else none
  | _,_=>none
 | _=>none⟩
theorem rsm0:RSm 0 1:=⟨by show (0:Int).natAbs<4294967296 ^ 1; decide,by show ((1:Nat):Int).natAbs<4294967296 ^ 1; decide⟩
section
variable {V : VL} {F : Fa}
theorem z0M (hF:FaOK V F):iD V (0,1000000)=1000000:=by unfold iD; simp [hF.z0]
theorem pCoef_ok (hF:FaOK V F):@PE.ok (envD V) (pCoef F):=by
 intro xs r e
 refine ⟨fun _ _=>by simp [pCoef,go_sem],fun ρ M w vs hm0 hv=>?_⟩
 simp only [pCoef] at e
 split at e
 ·rename_i e0 d i
  split at e
  ·rename_i b n k hb hn hk
   split at e
   ·rename_i hc
    simp only [Bool.and_eq_true] at hc
    obtain ⟨⟨⟨⟨c1,c2⟩,c3⟩,c4⟩,c5⟩:=hc
    cases e
    have c1:=Nat.le_of_ble_eq_true c1
    have c2:=Nat.le_of_ble_eq_true c2
    have c3:=leI_sound hF c3
    have c4:=leI_sound hF c4
    have c5:=leI_sound hF c5
    rw [z00 hF] at c3
    rw [z0M hF] at c4 c5
    obtain ⟨va,_,rfl,h1,vb,_,rfl,h2,h3⟩:=hv
    have h3:_=[]:=h3
    subst h3
    have hvb:=intA_sound hF hk h2
    subst hvb
    have hlen:=hF.len _ (lkC_mem hn)
    have e2:iD V n=V.z n.1+n.2:=rfl
    simp only [] at hlen
    have hbd:=hF.bd _ (lkC_mem hb)
    have hi:((iD V k).toNat:Int)=iD V k:=Int.toNat_of_nonneg c3
    have h:=kCoef (ρ:=ρ) (l:=lD V e0) (i:=(iD V k).toNat) (fun x hx=>(hbd x hx).mono c1) (by omega) (by omega) hm0 (aL_out h1)
    rw [hi] at h
    refine Calls.mono h fun e w' ⟨u,q1,q2,q3⟩=>⟨u,q1,@RV1.rv (envD V) ρ M w' _ _ (aQ_in ?_ ?_),q3⟩
    ·simp only [qD]
     rw [zD_i]
     exact q2
    ·simp only [qD]
     rw [zD_i]
     rw [List.getD_eq_getElem?_getD]
     cases hg:(lD V e0)[(iD V (k.1,k.2)).toNat]? with
     | none=>exact rsm0.mono c2
     | some x=>exact hbd x (List.mem_of_getElem? hg)
   ·cases e
  ·cases e
 ·cases e
theorem pTrim_ok (hF:FaOK V F):@PE.ok (envD V) (pTrim F):=by
 intro xs r e
 refine ⟨fun _ _=>by simp [pTrim,go_sem],fun ρ M w vs hm0 hv=>?_⟩
 simp only [pTrim] at e
 split at e
 ·rename_i e0 d
  split at e
  ·rename_i b n hb hn
   split at e
   ·rename_i hc
    rw [Bool.and_eq_true] at hc
    cases e
    have c1:=Nat.le_of_ble_eq_true hc.1
    have c5:=leI_sound hF hc.2
    rw [z0M hF] at c5
    obtain ⟨va,_,rfl,h1,h3⟩:=hv
    have h3:_=[]:=h3
    subst h3
    have hlen:=hF.len _ (lkC_mem hn)
    have e2:iD V n=V.z n.1+n.2:=rfl
    simp only [] at hlen
    have hbd:=hF.bd _ (lkC_mem hb)
    refine Calls.mono (kTrimQ (l:=lD V e0) (fun x hx=>(hbd x hx).mono c1) (by omega) hm0 (aL_out h1)) fun e w' ⟨u,q1,q2,q3⟩=>⟨u,q1,@RV1.rv (envD V) ρ M w' _ _ (aL_in ?_),q3⟩
    simp only [lD]
    exact q2
   ·cases e
  ·cases e
 ·cases e
end
noncomputable def cb_f:Func:=Tryz.f71
noncomputable def cb_c:Code:=bodyOf cb_f
theorem cb_b:cb_f.body=some cb_c:=by kernel_rfl
theorem cb_e:cb_c = .seq (cl cb_c) (cr cb_c):=by kernel_rfl
def cb_W (a b:List Rat):VL:=⟨fun k=>match k with | 1=>(a.length:Int) | 2=>(b.length:Int) | _=>0,fun k=>match k with | 0=>a | 1=>b | _=>[],fun _=>0,fun _=>[]⟩
def cb_P:List (AV × AV):=[(aL (.v 0),aL (.v 0)),(aL (.v 1),aL (.v 1))]
def cb_FR:Fa:=⟨[(0,3,0),(3,4,-1),(3,0,1000000),(1,0,1000000),(2,0,1000000)],[(.v 0,1,0),(.v 1,2,0)],[(.v 0,99000000),(.v 1,99000000)],[],[(.v 0,4,0)],[],[]⟩
def cb_x:Bool→Nat × Nat
 | true=>(1,2)
 | false=>(2,1)
def cb_F (t:Bool):Fa:=⟨[((cb_x t).1,(cb_x t).2,0),(0,1,0),(0,2,0),(4,0,1000000)],[(.v 0,1,0),(.v 1,2,0),(.v 9,4,0)],[(.v 0,99000000),(.v 1,99000000),(.v 9,198000001)],[],[],[],[]⟩
def cb_P2 (t:Bool):List (AV × AV):=[(aL (.v 0),aL (.v 0)),(aL (.v 1),aL (.v 1)),(aI (cb_x t).2 0,aI 4 0)]
theorem cb_Le (a b:List Rat) (f:Nat→Rat) (n:Nat):∀ p∈cb_P,∀ j j',Le (co_V (cb_W a b) f n j) (co_V (cb_W a b) f n j') p:=by
 intro p hp j j'
 simp only [cb_P,List.mem_cons,List.not_mem_nil,or_false] at hp
 rcases hp with rfl | rfl
 ·exact rd_L rfl
 ·exact rd_L rfl
section
variable {a b : List Rat} {f : Nat → Rat} {n : Nat}
theorem cb_sm (ha:a.length≤1000000) (hb:b.length≤1000000) (k:Nat) : -1152921504606846976≤(cb_W a b).z k∧(cb_W a b).z k≤1152921504606846976:=by
 show -1152921504606846976≤(match k with | 1=>(a.length:Int) | 2=>(b.length:Int) | _=>0)∧(match k with | 1=>(a.length:Int) | 2=>(b.length:Int) | _=>0)≤(1152921504606846976:Int)
 split <;> omega
theorem cb_FR_ok (sa:∀ x∈a,RSm x 99000000) (sb:∀ x∈b,RSm x 99000000) (ha:a.length≤1000000) (hb:b.length≤1000000) (hn:n≤1000000) {j:Nat} (hj:j<n):FaOK (co_V (cb_W a b) f n j) cb_FR where
 z0:=rfl
 sm:=co_sm (cb_sm ha hb) hn (by omega)
 le:=by simp [cb_FR,co_V,cb_W]; omega
 len:=by simp [cb_FR,co_V,cb_W,lD]
 bd:=by simpa [cb_FR,co_V,cb_W,lD] using ⟨sa,sb⟩
 zr:=by simp [cb_FR]
 rlen:=by simp [cb_FR,co_V,cb_W,rD,co_row]
 full:=by simp [cb_FR]
 sum:=by simp [cb_FR]
theorem cb_F_ok (sa:∀ x∈a,RSm x 99000000) (sb:∀ x∈b,RSm x 99000000) (ha:a.length≤1000000) (hb:b.length≤1000000) (sf:∀ i,i<max a.length b.length→RSm (f i) 198000001) {t:Bool} (ht:decide (a.length≤b.length)=t):FaOK (co_V (cb_W a b) f (max a.length b.length) 0) (cb_F t) where
 z0:=rfl
 sm:=co_sm (cb_sm ha hb) (by omega) (by omega)
 le:=by
  cases t
  ·have:¬ a.length≤b.length:=of_decide_eq_false ht
   simp [cb_F,cb_x,co_V,cb_W]; omega
  ·have:a.length≤b.length:=of_decide_eq_true ht
   simp [cb_F,cb_x,co_V,cb_W]; omega
 len:=by simp [cb_F,co_V,cb_W,lD]
 bd:=by
  intro x hx
  simp only [cb_F,List.mem_cons,List.not_mem_nil,or_false] at hx
  rcases hx with rfl | rfl | rfl
  ·exact sa
  ·exact sb
  ·intro y hy
   change y∈(List.range (max a.length b.length)).map f at hy
   obtain ⟨i,hi,rfl⟩:=List.mem_map.1 hy
   exact sf i (by simpa using hi)
 zr:=by simp [cb_F]
 rlen:=by simp [cb_F]
 full:=by simp [cb_F]
 sum:=by simp [cb_F]
theorem cb_Le2 {t:Bool} (ht:decide (a.length≤b.length)=t):∀ p∈cb_P2 t,Le (co_V (cb_W a b) f (max a.length b.length) 0) (co_V (cb_W a b) f (max a.length b.length) 0) p:=by
 intro p hp
 cases t
 ·have:¬ a.length≤b.length:=of_decide_eq_false ht
  simp only [cb_P2,cb_x,List.mem_cons,List.not_mem_nil,or_false] at hp
  rcases hp with rfl | rfl | rfl
  ·exact rd_L rfl
  ·exact rd_L rfl
  ·exact rd_I (by show (a.length:Int)+0=((max a.length b.length:Nat):Int)+0; omega)
 ·have:a.length≤b.length:=of_decide_eq_true ht
  simp only [cb_P2,cb_x,List.mem_cons,List.not_mem_nil,or_false] at hp
  rcases hp with rfl | rfl | rfl
  ·exact rd_L rfl
  ·exact rd_L rfl
  ·exact rd_I (by show (b.length:Int)+0=((max a.length b.length:Nat):Int)+0; omega)
end
set_option maxRecDepth 100000
noncomputable def ad_g:AV:=.fn 72 [] []
noncomputable def ad_cl:AV:=.fn 108 [] [.rptr [ad_g],.rptr [aL (.v 0)],.rptr [aL (.v 1)]]
def ad_q:CE:=.ap 31 (.ap 30 (.v 0) (.i 3 0)) (.ap 30 (.v 1) (.i 3 0))
theorem ad_runs:CoRuns cb_FR [pCoef cb_FR] cb_P ad_cl ad_q 198000001:=⟨by kernel_rfl,by kernel_rfl,by kernel_rfl,by kernel_rfl,by kernel_rfl,by kernel_rfl,by kernel_rfl,by kernel_rfl,by kernel_rfl,by kernel_rfl,by kernel_rfl⟩
noncomputable def ad_xs:List AV:=[aL (.v 0),aL (.v 1),ad_g]
noncomputable def ad_pe (t:Bool):PE:=peOf 76 (cb_P2 t) [aI 4 0,ad_cl] (aL (.v 9))
noncomputable def ad_s:Fm:=mkS 15 [(3,.rptr [aL (.v 0)]),(4,.rptr [aL (.v 1)]),(5,.rptr [ad_g])] [] 400
noncomputable def ad_r0 (t:Bool):=runF (tbF (cb_F t) []) plainL 100 100 (.run (cl cb_c)) [] (begS 15 ad_xs)
noncomputable def ad_r1 (t:Bool):=runF (tbF (cb_F t) [ad_pe t,pTrim (cb_F t)]) plainL 100 100 (.run (cr cb_c)) [] ad_s
def ad_d:Rd:=⟨cb_P,[],[],[],[16,32,48],400⟩
theorem ad_e0:∀ t,ad_r0 t=some (.done .nor (stopS (ad_r0 t)))
 | true=>by kernel_rfl
 | false=>by kernel_rfl
theorem ad_m0:∀ t,wkF ad_d 16 (stopS (ad_r0 t)) ad_s=true
 | true=>by kernel_rfl
 | false=>by kernel_rfl
theorem ad_b0:∀ t,below 16 ad_s.H=below 16 (stopS (ad_r0 t)).H
 | true=>by kernel_rfl
 | false=>by kernel_rfl
theorem ad_e1:∀ t,ad_r1 t=some (.done .ret (stopS (ad_r1 t)))
 | true=>by kernel_rfl
 | false=>by kernel_rfl
theorem ad_x1:∀ t,endA cb_f (stopS (ad_r1 t))=some (aL (.ap 70 (.v 9) (.lit 0)))
 | true=>by kernel_rfl
 | false=>by kernel_rfl
theorem ad_id:renL (fun _=>none) ad_xs=some ad_xs:=by kernel_rfl
theorem ad_ln:Nat.ble ad_xs.length cb_f.ntmps=true:=by kernel_rfl
theorem ad_bg:(⟨ad_xs ++ List.replicate (cb_f.ntmps - ad_xs.length) (.val undef),[],16,[]⟩:Fm)=begS 15 ad_xs:=by kernel_rfl
theorem kAddC {a b:List Rat} (sa:∀ x∈a,RSm x 99000000) (sb:∀ x∈b,RSm x 99000000) (ha:a.length≤1000000) (hb:b.length≤1000000) {ρ:Rho} {M:Nat→Prop} {w:World} {vs:List Value} (hm0:∀ b,M b→b<w.heap.size)
  (hv:@RVs (envD (co_V (cb_W a b) (fun i=>a.getD i 0+b.getD i 0) (max a.length b.length) 0)) ρ M w ad_xs vs) :
  Calls Tryz.prog 71 vs.toArray w fun e w'=>∃ u,e = .returned u∧(XP.rats (addC a b)).p M w' [u]∧Below w.heap.size w w':=by
 generalize hf:(fun i=>a.getD i 0+b.getD i 0)=f at hv
 generalize ht:decide (a.length≤b.length)=t
 have s0:∀ {l:List Rat},(∀ x∈l,RSm x 99000000)→∀ i,RSm (l.getD i 0) 99000000:=fun {l} h i=>by
  rw [List.getD_eq_getElem?_getD]
  cases hg:l[i]? with
  | none=>exact rsm0.mono (by decide)
  | some x=>exact h x (List.mem_of_getElem? hg)
 have sf:∀ i,i<max a.length b.length→RSm (f i) 198000001:=fun i _=>by rw [← hf]; exact ((s0 sa i).add (s0 sb i)).mono (j:=198000001) (by decide)
 have hF:=cb_F_ok sa sb ha hb sf ht
 refine Calls.mono (@am_calls (envD (co_V (cb_W a b) f (max a.length b.length) 0)) _ cb_f cb_c ad_xs ad_xs (aL (.ap 70 (.v 9) (.lit 0))) ρ M w vs Tryz.func71 cb_b ad_id (Nat.le_of_ble_eq_true ad_ln) hm0 hv fun a' hS=>?_) fun e w' ⟨u,e1,e2,e3⟩=>⟨u,e1,?_,e3⟩
 ·rw [ad_bg] at hS
  rw [cb_e]
  refine wp_seq ?_
  show holds _ [] a' w (.run (cl cb_c))
  refine am_go hF (fun _ h=>by cases h) _ (ad_e0 t) hS fun ρ M' a' w' hS=>?_
  obtain ⟨ρ,M',hS⟩:=am_move (E':=envD (co_V (cb_W a b) f (max a.length b.length) 0)) ad_d (rd_ok (fun p hp=>cb_Le a b f _ p hp 0 0) rfl rfl rfl) hm0 (ad_m0 t) (ad_b0 t) hS
  show holds _ [] a' w' (.run (cr cb_c))
  refine am_go hF (fun e he=>?_) _ (ad_e1 t) hS fun ρ M' a' w' hS=>⟨.inr rfl,_,ρ,M',hS,ad_x1 t⟩
  simp only [List.mem_cons,List.not_mem_nil,or_false] at he
  rcases he with rfl | rfl
  ·refine peOf_ok (fun _ _=>by simp [go_sem]) rfl rfl (cb_Le2 ht) fun M w vs hm0 hv=>?_
   refine Calls.mono (kCollect (W:=cb_W a b) (f:=f) ad_runs rfl (cb_sm ha hb) (by omega) (cb_Le a b f _) (fun j hj=>cb_FR_ok sa sb ha hb (by omega) hj) (fun j hj e he=>?_) (fun j hj=>?_) hm0 hv) fun e w' ⟨u,q1,q2,q3⟩=>⟨u,q1,@RV1.rv (envD (co_V (cb_W a b) f (max a.length b.length) 0)) noR M w' _ _ (aL_in q2),q3⟩
   ·rw [List.mem_singleton] at he
    subst he
    exact pCoef_ok (cb_FR_ok sa sb ha hb (by omega) hj)
   ·rw [← hf]
    simp [ad_q,qD,lD,zD,co_V,cb_W]
  ·exact pTrim_ok hF
 ·have:=aL_out (ρ:=ρ) e2
  simp only [lD] at this
  rw [← hf] at this
  exact this
noncomputable def su_g:AV:=.fn 57 [] []
noncomputable def su_cl:AV:=.fn 108 [] [.rptr [su_g],.rptr [aL (.v 0)],.rptr [aL (.v 1)]]
def su_q:CE:=.ap 32 (.ap 30 (.v 0) (.i 3 0)) (.ap 30 (.v 1) (.i 3 0))
theorem su_runs:CoRuns cb_FR [pCoef cb_FR] cb_P su_cl su_q 198000001:=⟨by kernel_rfl,by kernel_rfl,by kernel_rfl,by kernel_rfl,by kernel_rfl,by kernel_rfl,by kernel_rfl,by kernel_rfl,by kernel_rfl,by kernel_rfl,by kernel_rfl⟩
noncomputable def su_xs:List AV:=[aL (.v 0),aL (.v 1),su_g]
noncomputable def su_pe (t:Bool):PE:=peOf 76 (cb_P2 t) [aI 4 0,su_cl] (aL (.v 9))
noncomputable def su_s:Fm:=mkS 15 [(3,.rptr [aL (.v 0)]),(4,.rptr [aL (.v 1)]),(5,.rptr [su_g])] [] 400
noncomputable def su_r0 (t:Bool):=runF (tbF (cb_F t) []) plainL 100 100 (.run (cl cb_c)) [] (begS 15 su_xs)
noncomputable def su_r1 (t:Bool):=runF (tbF (cb_F t) [su_pe t,pTrim (cb_F t)]) plainL 100 100 (.run (cr cb_c)) [] su_s
def su_d:Rd:=⟨cb_P,[],[],[],[16,32,48],400⟩
theorem su_e0:∀ t,su_r0 t=some (.done .nor (stopS (su_r0 t)))
 | true=>by kernel_rfl
 | false=>by kernel_rfl
theorem su_m0:∀ t,wkF su_d 16 (stopS (su_r0 t)) su_s=true
 | true=>by kernel_rfl
 | false=>by kernel_rfl
theorem su_b0:∀ t,below 16 su_s.H=below 16 (stopS (su_r0 t)).H
 | true=>by kernel_rfl
 | false=>by kernel_rfl
theorem su_e1:∀ t,su_r1 t=some (.done .ret (stopS (su_r1 t)))
 | true=>by kernel_rfl
 | false=>by kernel_rfl
theorem su_x1:∀ t,endA cb_f (stopS (su_r1 t))=some (aL (.ap 70 (.v 9) (.lit 0)))
 | true=>by kernel_rfl
 | false=>by kernel_rfl
theorem su_id:renL (fun _=>none) su_xs=some su_xs:=by kernel_rfl
theorem su_ln:Nat.ble su_xs.length cb_f.ntmps=true:=by kernel_rfl
theorem su_bg:(⟨su_xs ++ List.replicate (cb_f.ntmps - su_xs.length) (.val undef),[],16,[]⟩:Fm)=begS 15 su_xs:=by kernel_rfl
theorem kSubC {a b:List Rat} (sa:∀ x∈a,RSm x 99000000) (sb:∀ x∈b,RSm x 99000000) (ha:a.length≤1000000) (hb:b.length≤1000000) {ρ:Rho} {M:Nat→Prop} {w:World} {vs:List Value} (hm0:∀ b,M b→b<w.heap.size)
  (hv:@RVs (envD (co_V (cb_W a b) (fun i=>a.getD i 0 - b.getD i 0) (max a.length b.length) 0)) ρ M w su_xs vs) :
  Calls Tryz.prog 71 vs.toArray w fun e w'=>∃ u,e = .returned u∧(XP.rats (subC a b)).p M w' [u]∧Below w.heap.size w w':=by
 generalize hf:(fun i=>a.getD i 0 - b.getD i 0)=f at hv
 generalize ht:decide (a.length≤b.length)=t
 have s0:∀ {l:List Rat},(∀ x∈l,RSm x 99000000)→∀ i,RSm (l.getD i 0) 99000000:=fun {l} h i=>by
  rw [List.getD_eq_getElem?_getD]
  cases hg:l[i]? with
  | none=>exact rsm0.mono (by decide)
  | some x=>exact h x (List.mem_of_getElem? hg)
 have sf:∀ i,i<max a.length b.length→RSm (f i) 198000001:=fun i _=>by rw [← hf]; exact ((s0 sa i).sub (s0 sb i)).mono (j:=198000001) (by decide)
 have hF:=cb_F_ok sa sb ha hb sf ht
 refine Calls.mono (@am_calls (envD (co_V (cb_W a b) f (max a.length b.length) 0)) _ cb_f cb_c su_xs su_xs (aL (.ap 70 (.v 9) (.lit 0))) ρ M w vs Tryz.func71 cb_b su_id (Nat.le_of_ble_eq_true su_ln) hm0 hv fun a' hS=>?_) fun e w' ⟨u,e1,e2,e3⟩=>⟨u,e1,?_,e3⟩
 ·rw [su_bg] at hS
  rw [cb_e]
  refine wp_seq ?_
  show holds _ [] a' w (.run (cl cb_c))
  refine am_go hF (fun _ h=>by cases h) _ (su_e0 t) hS fun ρ M' a' w' hS=>?_
  obtain ⟨ρ,M',hS⟩:=am_move (E':=envD (co_V (cb_W a b) f (max a.length b.length) 0)) su_d (rd_ok (fun p hp=>cb_Le a b f _ p hp 0 0) rfl rfl rfl) hm0 (su_m0 t) (su_b0 t) hS
  show holds _ [] a' w' (.run (cr cb_c))
  refine am_go hF (fun e he=>?_) _ (su_e1 t) hS fun ρ M' a' w' hS=>⟨.inr rfl,_,ρ,M',hS,su_x1 t⟩
  simp only [List.mem_cons,List.not_mem_nil,or_false] at he
  rcases he with rfl | rfl
  ·refine peOf_ok (fun _ _=>by simp [go_sem]) rfl rfl (cb_Le2 ht) fun M w vs hm0 hv=>?_
   refine Calls.mono (kCollect (W:=cb_W a b) (f:=f) su_runs rfl (cb_sm ha hb) (by omega) (cb_Le a b f _) (fun j hj=>cb_FR_ok sa sb ha hb (by omega) hj) (fun j hj e he=>?_) (fun j hj=>?_) hm0 hv) fun e w' ⟨u,q1,q2,q3⟩=>⟨u,q1,@RV1.rv (envD (co_V (cb_W a b) f (max a.length b.length) 0)) noR M w' _ _ (aL_in q2),q3⟩
   ·rw [List.mem_singleton] at he
    subst he
    exact pCoef_ok (cb_FR_ok sa sb ha hb (by omega) hj)
   ·rw [← hf]
    simp [su_q,qD,lD,zD,co_V,cb_W]
  ·exact pTrim_ok hF
 ·have:=aL_out (ρ:=ρ) e2
  simp only [lD] at this
  rw [← hf] at this
  exact this
end Go.Proofs.YtgaehhapjnbieaaGreat
namespace Go.Proofs.YtgaehhapjnbieaaGreat
open Go.RowKit
theorem rvs_to {V V':VL} (P:List (AV × AV)) (hP:∀ p∈P,Le V V' p) {xs ys:List AV} (h:wkVs (idD P) [] xs ys=true) (ho:ys.all AV.one=true) {ρ:Rho} {M:Nat→Prop} {w:World} {vs:List Value} (hv:@RVs (envD V) ρ M w xs vs):@RVs (envD V') noR M w ys vs:=by
 have h1:@RVs (envD V') (rhoK (idD P) ρ) (resM (idD P) ρ M) w ys vs:=wkVs_rvs (rd_ok hP rfl rfl rfl) ⟨fun p hp=>(by cases hp),fun o b g c hm=>(by cases hm)⟩ h hv ho
 have e1:rhoK (idD P) ρ=noR:=by
  funext o
  unfold rhoK
  rw [if_neg]
  intro hk
  unfold Rd.keep at hk
  rw [Bool.and_eq_true] at hk
  exact absurd (Nat.le_of_ble_eq_true hk.1) (by show ¬ o+1≤0; omega)
 have e2:resM (idD P) ρ M=M:=by
  funext b
  exact propext ⟨fun h=>h.1,fun h=>⟨h,fun o c hm=>(by cases hm)⟩⟩
 rw [e1,e2] at h1
 exact h1
def LCall (f:Nat) (M:Nat→Prop) (w:World) (vs:List Value) (l:List Rat):Prop:=Calls Tryz.prog f vs.toArray w fun e w'=>∃ u,e = .returned u∧(XP.rats l).p M w' [u]∧Below w.heap.size w w'
theorem LCall.rv {f:Nat} {M:Nat→Prop} {w:World} {vs:List Value} {l:List Rat} (h:LCall f M w vs l) {V:VL} {e:CE} {ρ:Rho} (he:lD V e=l):Calls Tryz.prog f vs.toArray w fun e' w'=>∃ u,e' = .returned u ∧ @RV (envD V) ρ M w' (aL e) u∧Below w.heap.size w w':=
 Calls.mono h fun _ w' ⟨u,q1,q2,q3⟩=>⟨u,q1,@RV1.rv (envD V) ρ M w' _ _ (aL_in (by rw [he]; exact q2)),q3⟩
theorem LCall.of {f:Nat} {V:VL} {e:CE} {ρ:Rho} {M:Nat→Prop} {w:World} {vs:List Value} {l:List Rat} (he:lD V e=l) (h:Calls Tryz.prog f vs.toArray w fun e' w'=>∃ u,e' = .returned u ∧ @RV (envD V) ρ M w' (aL e) u∧Below w.heap.size w w'):LCall f M w vs l:=
 Calls.mono h fun _ w' ⟨u,q1,q2,q3⟩=>⟨u,q1,by have:=aL_out (ρ:=ρ) q2; rw [he] at this; exact this,q3⟩
def ab_V (a b r:List Rat):VL:=⟨fun k=>match k with | 1=>(a.length:Int) | 2=>(b.length:Int) | _=>0,fun k=>match k with | 0=>a | 1=>b | 10=>r | _=>[],fun _=>0,fun _=>[]⟩
def fa0:Fa:=⟨[],[],[],[],[],[],[]⟩
theorem fa0_ok {V:VL} (h0:V.z 0=0) (sm:∀ k,-1152921504606846976≤V.z k∧V.z k≤1152921504606846976):FaOK V fa0:=⟨h0,sm,fun _ h=>(by cases h),fun _ h=>(by cases h),fun _ h=>(by cases h),fun _ h=>(by cases h),fun _ h=>(by cases h),fun _ h=>(by cases h),fun _ h=>(by cases h)⟩
theorem ab_sm {a b r:List Rat} (ha:a.length≤1000000) (hb:b.length≤1000000) (k:Nat) : -1152921504606846976≤(ab_V a b r).z k∧(ab_V a b r).z k≤1152921504606846976:=cb_sm ha hb k
theorem ab_Le {a b r:List Rat} {f:Nat→Rat} {n:Nat}:∀ p∈cb_P,Le (ab_V a b r) (co_V (cb_W a b) f n 0) p:=by
 intro p hp
 simp only [cb_P,List.mem_cons,List.not_mem_nil,or_false] at hp
 rcases hp with rfl | rfl
 ·exact rd_L rfl
 ·exact rd_L rfl
theorem ab_Le0 {a b r:List Rat}:∀ p∈cb_P,Le (ab_V a b r) (ab_V a b r) p:=by
 intro p hp
 simp only [cb_P,List.mem_cons,List.not_mem_nil,or_false] at hp
 rcases hp with rfl | rfl
 ·exact rd_L rfl
 ·exact rd_L rfl
def ab_xs:List AV:=[aL (.v 0),aL (.v 1)]
theorem ab_in {a b r:List Rat} {ρ:Rho} {M:Nat→Prop} {w:World} {va vb:Value} (ha:(XP.rats a).p M w [va]) (hb:(XP.rats b).p M w [vb]):@RVs (envD (ab_V a b r)) ρ M w ab_xs [va,vb]:=⟨va,_,rfl,aL_in (V:=ab_V a b r) (e:=.v 0) ha,vb,_,rfl,aL_in (V:=ab_V a b r) (e:=.v 1) hb,rfl⟩
set_option maxRecDepth 100000
noncomputable def ad2_f:Func:=Tryz.f20
noncomputable def ad2_c:Code:=bodyOf ad2_f
noncomputable def ad2_pe:PE:=peOf 71 cb_P ad_xs (aL (.v 10))
theorem ad2_e:runF (tbF fa0 [ad2_pe]) plainL 100 100 (.run ad2_c) [] (begS 8 ab_xs)=some (.done .ret (stopS (runF (tbF fa0 [ad2_pe]) plainL 100 100 (.run ad2_c) [] (begS 8 ab_xs)))):=by kernel_rfl
theorem ad2_x:endA ad2_f (stopS (runF (tbF fa0 [ad2_pe]) plainL 100 100 (.run ad2_c) [] (begS 8 ab_xs)))=some (aL (.v 10)):=by kernel_rfl
theorem ad2_w:wkVs (idD cb_P) [] ad_xs ad_xs=true:=by kernel_rfl
theorem ad2_o:ad_xs.all AV.one=true:=by kernel_rfl
theorem ad2_b:ad2_f.body=some ad2_c:=by kernel_rfl
theorem ad2_n:ad2_f.ntmps=8:=by kernel_rfl
theorem kAddL {a b:List Rat} (sa:∀ x∈a,RSm x 99000000) (sb:∀ x∈b,RSm x 99000000) (ha:a.length≤1000000) (hb:b.length≤1000000) {M:Nat→Prop} {w:World} {va vb:Value} (hm0:∀ b,M b→b<w.heap.size) (hva:(XP.rats a).p M w [va]) (hvb:(XP.rats b).p M w [vb]):LCall 20 M w [va,vb] (addC a b):=by
 refine LCall.of (V:=ab_V a b (addC a b)) (e:=.v 10) (ρ:=noR) rfl (am_flat .ret (.inr rfl) (fa0_ok rfl (ab_sm ha hb)) (fun e he=>?_) Tryz.func20 ad2_b (by rfl) ad2_n (by decide) ad2_e ad2_x hm0 (ab_in hva hvb))
 rw [List.mem_singleton] at he
 subst he
 refine peOf_ok (fun _ _=>by simp [go_sem]) ad2_o rfl ab_Le0 fun M w vs hm0 hv=>?_
 exact LCall.rv (show LCall _ M w vs _ from kAddC sa sb ha hb hm0 (rvs_to cb_P ab_Le ad2_w ad2_o hv)) rfl
noncomputable def su2_f:Func:=Tryz.f22
noncomputable def su2_c:Code:=bodyOf su2_f
noncomputable def su2_pe:PE:=peOf 71 cb_P su_xs (aL (.v 10))
theorem su2_e:runF (tbF fa0 [su2_pe]) plainL 100 100 (.run su2_c) [] (begS 8 ab_xs)=some (.done .ret (stopS (runF (tbF fa0 [su2_pe]) plainL 100 100 (.run su2_c) [] (begS 8 ab_xs)))):=by kernel_rfl
theorem su2_x:endA su2_f (stopS (runF (tbF fa0 [su2_pe]) plainL 100 100 (.run su2_c) [] (begS 8 ab_xs)))=some (aL (.v 10)):=by kernel_rfl
theorem su2_w:wkVs (idD cb_P) [] su_xs su_xs=true:=by kernel_rfl
theorem su2_o:su_xs.all AV.one=true:=by kernel_rfl
theorem su2_b:su2_f.body=some su2_c:=by kernel_rfl
theorem su2_n:su2_f.ntmps=8:=by kernel_rfl
theorem kSubL {a b:List Rat} (sa:∀ x∈a,RSm x 99000000) (sb:∀ x∈b,RSm x 99000000) (ha:a.length≤1000000) (hb:b.length≤1000000) {M:Nat→Prop} {w:World} {va vb:Value} (hm0:∀ b,M b→b<w.heap.size) (hva:(XP.rats a).p M w [va]) (hvb:(XP.rats b).p M w [vb]):LCall 22 M w [va,vb] (subC a b):=by
 refine LCall.of (V:=ab_V a b (subC a b)) (e:=.v 10) (ρ:=noR) rfl (am_flat .ret (.inr rfl) (fa0_ok rfl (ab_sm ha hb)) (fun e he=>?_) Tryz.func22 su2_b (by rfl) su2_n (by decide) su2_e su2_x hm0 (ab_in hva hvb))
 rw [List.mem_singleton] at he
 subst he
 refine peOf_ok (fun _ _=>by simp [go_sem]) su2_o rfl ab_Le0 fun M w vs hm0 hv=>?_
 exact LCall.rv (show LCall _ M w vs _ from kSubC sa sb ha hb hm0 (rvs_to cb_P ab_Le su2_w su2_o hv)) rfl
end Go.Proofs.YtgaehhapjnbieaaGreat
namespace Go.Proofs.YtgaehhapjnbieaaGreat
open Go.RowKit
noncomputable def eq_f:Func:=Tryz.f17
noncomputable def eq_c:Code:=bodyOf eq_f
noncomputable def eq_b:Code:=lpB eq_c []
noncomputable def eq_k:List KFr:=lpK eq_c []
def eq_V (a b:List Rat) (i:Nat):VL:=⟨fun k=>match k with | 1=>(a.length:Int) | 2=>(b.length:Int) | 3=>(i:Int) | _=>0,fun k=>match k with | 0=>a | 1=>b | _=>[],fun _=>0,fun _=>[]⟩
def eq_top:CE:=.ap 32 (.ap 30 (.v 0) (.i 3 0)) (.ap 30 (.v 1) (.i 3 0))
def eq_L:List (CE × Nat × Int):=[(.v 0,1,0),(.v 1,2,0)]
def eq_F1:Fa:=⟨[(1,2,-1)],eq_L,[],[],[],[],[]⟩
def eq_F2:Fa:=⟨[(2,1,-1)],eq_L,[],[],[],[],[]⟩
def eq_F0:Fa:=⟨[(1,2,0),(2,1,0)],eq_L,[],[],[],[],[]⟩
def eq_FR (t:Bool):Fa:=⟨[(0,3,0),(3,1,-1),(3,2,-1)],eq_L,[(.v 0,140000000),(.v 1,140000000)],[(eq_top,t)],[],[],[]⟩
def eq_FX:Fa:=⟨[(1,3,0)],eq_L,[],[],[],[],[]⟩
def eq_s:Fm:=mkS 27 [(0,aL (.v 0)),(1,aL (.v 1)),(5,aI 3 0)] [] 600
noncomputable def eq_r1:=runF (tbF eq_F1 []) plainL 100 100 (.run eq_c) [] (begS 27 ab_xs)
noncomputable def eq_r2:=runF (tbF eq_F2 []) plainL 100 100 (.run eq_c) [] (begS 27 ab_xs)
noncomputable def eq_r0:=runF (tbF eq_F0 []) plainL 100 100 (.run eq_c) [] (begS 27 ab_xs)
noncomputable def eq_rt:=runF (tbF (eq_FR true) []) plainL 100 100 (.run eq_b) [] eq_s
noncomputable def eq_rf:=runF (tbF (eq_FR false) []) plainL 100 100 (.run eq_b) [] eq_s
noncomputable def eq_rx:=runF (tbF eq_FX []) plainL 100 100 (.run eq_b) [] eq_s
noncomputable def eq_y1:=runF (tbF fa0 []) plainL 100 100 (.at_ .ret) eq_k (stopS eq_rf)
noncomputable def eq_y2:=runF (tbF fa0 []) plainL 100 100 (.at_ (.ext 0)) eq_k (stopS eq_rx)
def eq_d0:Rd:=⟨(.val (.int .i64 0),aI 3 0) :: cb_P,[],[],[],[],600⟩
def eq_dr:Rd:=⟨(aI 3 1,aI 3 0) :: cb_P,[],[],[],[],600⟩
set_option maxRecDepth 100000
theorem eq_e1:eq_r1=some (.done .ret (stopS eq_r1)):=by kernel_rfl
theorem eq_e2:eq_r2=some (.done .ret (stopS eq_r2)):=by kernel_rfl
theorem eq_e0:eq_r0=some (.loop eq_b eq_k (stopS eq_r0)):=by kernel_rfl
theorem eq_et:eq_rt=some (.done .nor (stopS eq_rt)):=by kernel_rfl
theorem eq_ef:eq_rf=some (.done .ret (stopS eq_rf)):=by kernel_rfl
theorem eq_ex:eq_rx=some (.done (.ext 0) (stopS eq_rx)):=by kernel_rfl
theorem eq_u1:eq_y1=some (.done .ret (stopS eq_y1)):=by kernel_rfl
theorem eq_u2:eq_y2=some (.done .ret (stopS eq_y2)):=by kernel_rfl
theorem eq_x1:endA eq_f (stopS eq_r1)=some (.val (.bool false)):=by kernel_rfl
theorem eq_x2:endA eq_f (stopS eq_r2)=some (.val (.bool false)):=by kernel_rfl
theorem eq_m0:wkF eq_d0 16 (stopS eq_r0) eq_s=true:=by kernel_rfl
theorem eq_mr:wkF eq_dr 16 (stopS eq_rt) eq_s=true:=by kernel_rfl
theorem eq_b0:below 16 eq_s.H=below 16 (stopS eq_r0).H:=by kernel_rfl
theorem eq_br:below 16 eq_s.H=below 16 (stopS eq_rt).H:=by kernel_rfl
def eq_fin (t:Bool):Fm:=mkS 27 [(4,.val (.bool t))] [] 900
def eq_dx (t:Bool):Rd:=⟨[(.val (.bool t),.val (.bool t))],[],[],[],[],900⟩
theorem eq_lx {V V':VL} (t:Bool):∀ p∈(eq_dx t).vs,Le V V' p:=by
 intro p hp
 simp only [eq_dx,List.mem_singleton] at hp
 subst hp
 intro ρ ρ' M w cs r
 unfold Rp at r ⊢
 exact r
theorem eq_mf:wkF (eq_dx false) 16 (stopS eq_y1) (eq_fin false)=true:=by kernel_rfl
theorem eq_mt:wkF (eq_dx true) 16 (stopS eq_y2) (eq_fin true)=true:=by kernel_rfl
theorem eq_bf:below 16 (eq_fin false).H=below 16 (stopS eq_y1).H:=by kernel_rfl
theorem eq_bt:below 16 (eq_fin true).H=below 16 (stopS eq_y2).H:=by kernel_rfl
theorem eq_xf:endA eq_f (eq_fin false)=some (.val (.bool false)):=by kernel_rfl
theorem eq_xt:endA eq_f (eq_fin true)=some (.val (.bool true)):=by kernel_rfl
theorem eq_bo:eq_f.body=some eq_c:=by kernel_rfl
theorem eq_bg:(⟨ab_xs ++ List.replicate (eq_f.ntmps - ab_xs.length) (.val undef),[],16,[]⟩:Fm)=begS 27 ab_xs:=by kernel_rfl
theorem eq_ln:Nat.ble ab_xs.length eq_f.ntmps=true:=by kernel_rfl
section
variable {a b : List Rat}
theorem eq_sm (ha:a.length≤1000000) (hb:b.length≤1000000) {i:Nat} (hi:i≤1000000) (k:Nat) : -1152921504606846976≤(eq_V a b i).z k∧(eq_V a b i).z k≤1152921504606846976:=by
 show -1152921504606846976≤(match k with | 1=>(a.length:Int) | 2=>(b.length:Int) | 3=>(i:Int) | _=>0)∧(match k with | 1=>(a.length:Int) | 2=>(b.length:Int) | 3=>(i:Int) | _=>0)≤(1152921504606846976:Int)
 split <;> omega
theorem eq_le {i j:Nat}:∀ p∈cb_P,Le (eq_V a b i) (eq_V a b j) p:=by
 intro p hp
 simp only [cb_P,List.mem_cons,List.not_mem_nil,or_false] at hp
 rcases hp with rfl | rfl
 ·exact rd_L rfl
 ·exact rd_L rfl
theorem eq_len {i:Nat}:∀ x∈eq_L,((lD (eq_V a b i) x.1).length:Int)=(eq_V a b i).z x.2.1+x.2.2:=by
 simp [eq_L,eq_V,lD]
theorem kEqualL (sa:∀ x∈a,RSm x 140000000) (sb:∀ x∈b,RSm x 140000000) (ha:a.length≤1000000) (hb:b.length≤1000000) {M:Nat→Prop} {w:World} {va vb:Value} (hm0:∀ b,M b→b<w.heap.size) (hva:(XP.rats a).p M w [va]) (hvb:(XP.rats b).p M w [vb]) :
  Calls Tryz.prog 17 #[va,vb] w fun e w'=>e = .returned (.bool (decide (a=b)))∧Below w.heap.size w w':=by
 have hv:@RVs (envD (eq_V a b 0)) noR M w ab_xs [va,vb]:=⟨va,_,rfl,aL_in (V:=eq_V a b 0) (e:=.v 0) hva,vb,_,rfl,aL_in (V:=eq_V a b 0) (e:=.v 1) hvb,rfl⟩
 have F0:∀ {i},i≤1000000→FaOK (eq_V a b i) fa0:=fun h=>fa0_ok rfl (eq_sm ha hb h)
 refine Calls.mono (@am_calls (envD (eq_V a b 0)) _ eq_f eq_c ab_xs ab_xs (.val (.bool (decide (a=b)))) noR M w [va,vb] Tryz.func17 eq_bo (by rfl) (Nat.le_of_ble_eq_true eq_ln) hm0 hv fun a' hS=>?_) fun e w' ⟨u,e1,e2,e3⟩=>⟨by rw [e1,show u=_ from e2],e3⟩
 rw [eq_bg] at hS
 show holds _ [] a' w (.run eq_c)
 by_cases hl:a.length=b.length
 ·have F1:FaOK (eq_V a b 0) eq_F0:=⟨rfl,eq_sm ha hb (by omega),by simp [eq_F0,eq_V,hl],eq_len,by simp [eq_F0],by simp [eq_F0],by simp [eq_F0],by simp [eq_F0],by simp [eq_F0]⟩
  refine am_go F1 (fun _ h=>by cases h) _ eq_e0 hS fun ρ M' a' w' hS=>?_
  obtain ⟨ρ,M',hS⟩:=am_move (E':=envD (eq_V a b 0)) eq_d0 (rd_ok (fun p hp=>by
   rcases List.mem_cons.1 hp with rfl | hp
   ·exact rd_Ic rfl
   ·exact eq_le p hp) rfl rfl rfl) hm0 eq_m0 eq_b0 hS
  refine am_loop (fun i=>a.length - i) (eq_V a b) (fun i=>i≤a.length∧∀ j,j<i→a.getD j 0=b.getD j 0) eq_s ?_ 0 ⟨Nat.zero_le _,fun j hj=>by omega⟩ hS
  intro i ⟨hi,hE⟩ ρ M' a' w' hS
  show holds _ [] a' w' (.run eq_b)
  by_cases hil:i<a.length
  ·have FR:∀ t,decide (a.getD i 0=b.getD i 0)=t→FaOK (eq_V a b i) (eq_FR t):=fun t ht=>⟨rfl,eq_sm ha hb (by omega),by simp [eq_FR,eq_V]; omega,eq_len,by simpa [eq_FR,eq_V,lD] using ⟨sa,sb⟩,by
    intro x hx
    simp only [eq_FR,List.mem_singleton] at hx
    subst hx
    rw [← ht]
    show decide (qD (eq_V a b i) eq_top=0)=decide (a.getD i 0=b.getD i 0)
    have:qD (eq_V a b i) eq_top=a.getD i 0 - b.getD i 0:=by simp [eq_top,qD,lD,zD,eq_V]
    rw [this]
    exact decide_eq_decide.2 ⟨fun h=>by grind,fun h=>by grind⟩,by simp [eq_FR],by simp [eq_FR],by simp [eq_FR]⟩
   by_cases ht:a.getD i 0=b.getD i 0
   ·refine am_go (FR true (decide_eq_true ht)) (fun _ h=>by cases h) _ eq_et hS fun ρ M' a' w' hS=>?_
    obtain ⟨ρ,M',hS⟩:=am_move (E':=envD (eq_V a b (i+1))) eq_dr (rd_ok (fun p hp=>by
     rcases List.mem_cons.1 hp with rfl | hp
     ·exact rd_I (by show (i:Int)+1=((i+1:Nat):Int)+0; omega)
     ·exact eq_le p hp) rfl rfl rfl) hm0 eq_mr eq_br hS
    exact ⟨i+1,ρ,M',⟨hil,fun j hj=>if e:j=i then e ▸ ht else hE j (by omega)⟩,by omega,hS⟩
   ·refine am_go (FR false (decide_eq_false ht)) (fun _ h=>by cases h) _ eq_ef hS fun ρ M' a' w' hS=>?_
    show holds _ eq_k a' w' (.at_ .ret)
    refine am_go (F0 (by omega)) (fun _ h=>by cases h) _ eq_u1 hS fun ρ M' a' w' hS=>?_
    obtain ⟨ρ,M',hS⟩:=am_move (E':=envD (eq_V a b 0)) (eq_dx false) (rd_ok (eq_lx false) rfl rfl rfl) hm0 eq_mf eq_bf hS
    refine ⟨.inr rfl,_,ρ,M',hS,?_⟩
    rw [eq_xf,decide_eq_false fun e=>ht (by rw [e])]
  ·have hil:i=a.length:=by omega
   have FX:FaOK (eq_V a b i) eq_FX:=⟨rfl,eq_sm ha hb (by omega),by simp [eq_FX,eq_V]; omega,eq_len,by simp [eq_FX],by simp [eq_FX],by simp [eq_FX],by simp [eq_FX],by simp [eq_FX]⟩
   refine am_go FX (fun _ h=>by cases h) _ eq_ex hS fun ρ M' a' w' hS=>?_
   show holds _ eq_k a' w' (.at_ (.ext 0))
   refine am_go (F0 (by omega)) (fun _ h=>by cases h) _ eq_u2 hS fun ρ M' a' w' hS=>?_
   obtain ⟨ρ,M',hS⟩:=am_move (E':=envD (eq_V a b 0)) (eq_dx true) (rd_ok (eq_lx true) rfl rfl rfl) hm0 eq_mt eq_bt hS
   refine ⟨.inr rfl,_,ρ,M',hS,?_⟩
   have hab:a=b:=by
    apply List.ext_getElem hl
    intro j h1 h2
    have:=hE j (by omega)
    simpa [List.getD_eq_getElem?_getD,List.getElem?_eq_getElem h1,List.getElem?_eq_getElem h2] using this
   rw [eq_xt,decide_eq_true hab]
 ·have hne:¬ a=b:=fun e=>hl (by rw [e])
  rw [decide_eq_false hne]
  by_cases h:a.length<b.length
  ·have F1:FaOK (eq_V a b 0) eq_F1:=⟨rfl,eq_sm ha hb (by omega),by simp [eq_F1,eq_V]; omega,eq_len,by simp [eq_F1],by simp [eq_F1],by simp [eq_F1],by simp [eq_F1],by simp [eq_F1]⟩
   exact am_go F1 (fun _ h=>by cases h) _ eq_e1 hS fun ρ M' a' w' hS=>⟨.inr rfl,_,ρ,M',hS,eq_x1⟩
  ·have F2:FaOK (eq_V a b 0) eq_F2:=⟨rfl,eq_sm ha hb (by omega),by simp [eq_F2,eq_V]; omega,eq_len,by simp [eq_F2],by simp [eq_F2],by simp [eq_F2],by simp [eq_F2],by simp [eq_F2]⟩
   exact am_go F2 (fun _ h=>by cases h) _ eq_e2 hS fun ρ M' a' w' hS=>⟨.inr rfl,_,ρ,M',hS,eq_x2⟩
end
end Go.Proofs.YtgaehhapjnbieaaGreat
namespace Go.Proofs.YtgaehhapjnbieaaGreat
open Go.RowKit
def sc_W (a:List Rat) (c:Rat):VL:=⟨fun k=>match k with | 1=>(a.length:Int) | _=>0,fun k=>match k with | 0=>a | _=>[],fun k=>match k with | 0=>c | _=>0,fun _=>[]⟩
def sc_P:List (AV × AV):=[(aL (.v 0),aL (.v 0)),(aQ (.v 0) 99000000,aQ (.v 0) 99000000)]
def sc_FR:Fa:=⟨[(0,3,0),(3,4,-1),(3,1,-1)],[(.v 0,1,0)],[(.v 0,99000000)],[],[(.v 0,4,0)],[],[]⟩
def sc_F:Fa:=⟨[(0,1,0),(4,0,1000000)],[(.v 0,1,0),(.v 9,4,0)],[(.v 0,99000000),(.v 9,198000000)],[],[],[],[]⟩
def sc_q:CE:=.ap 33 (.v 0) (.ap 30 (.v 0) (.i 3 0))
noncomputable def sc_cl:AV:=.fn 79 [] [.rptr [aQ (.v 0) 99000000],.rptr [aL (.v 0)]]
noncomputable def sc_f:Func:=Tryz.f26
noncomputable def sc_c:Code:=bodyOf sc_f
def sc_xs:List AV:=[aL (.v 0),aQ (.v 0) 99000000]
def sc_P2:List (AV × AV):=(aI 1 0,aI 4 0) :: sc_P
noncomputable def sc_pe:PE:=peOf 76 sc_P2 [aI 4 0,sc_cl] (aL (.v 9))
def sc_s:Fm:=mkS 10 [(2,.rptr [aL (.v 0)]),(3,.rptr [aQ (.v 0) 99000000])] [] 400
noncomputable def sc_r0:=runF (tbF sc_F []) plainL 100 100 (.run (cl sc_c)) [] (begS 10 sc_xs)
noncomputable def sc_r1:=runF (tbF sc_F [sc_pe,pTrim sc_F]) plainL 100 100 (.run (cr sc_c)) [] sc_s
def sc_d:Rd:=⟨sc_P,[],[],[],[16,32],400⟩
set_option maxRecDepth 100000
theorem sc_e:sc_c = .seq (cl sc_c) (cr sc_c):=by kernel_rfl
theorem sc_b:sc_f.body=some sc_c:=by kernel_rfl
theorem sc_runs:CoRuns sc_FR [] sc_P sc_cl sc_q 198000000:=⟨by kernel_rfl,by kernel_rfl,by kernel_rfl,by kernel_rfl,by kernel_rfl,by kernel_rfl,by kernel_rfl,by kernel_rfl,by kernel_rfl,by kernel_rfl,by kernel_rfl⟩
theorem sc_e0:sc_r0=some (.done .nor (stopS sc_r0)):=by kernel_rfl
theorem sc_m0:wkF sc_d 16 (stopS sc_r0) sc_s=true:=by kernel_rfl
theorem sc_b0:below 16 sc_s.H=below 16 (stopS sc_r0).H:=by kernel_rfl
theorem sc_e1:sc_r1=some (.done .ret (stopS sc_r1)):=by kernel_rfl
theorem sc_x1:endA sc_f (stopS sc_r1)=some (aL (.ap 70 (.v 9) (.lit 0))):=by kernel_rfl
theorem sc_bg:(⟨sc_xs ++ List.replicate (sc_f.ntmps - sc_xs.length) (.val undef),[],16,[]⟩:Fm)=begS 10 sc_xs:=by kernel_rfl
theorem sc_ln:Nat.ble sc_xs.length sc_f.ntmps=true:=by kernel_rfl
section
variable {a : List Rat} {c : Rat} {f : Nat → Rat} {n : Nat}
theorem sc_sm (ha:a.length≤1000000) (k:Nat) : -1152921504606846976≤(sc_W a c).z k∧(sc_W a c).z k≤1152921504606846976:=by
 show -1152921504606846976≤(match k with | 1=>(a.length:Int) | _=>0)∧(match k with | 1=>(a.length:Int) | _=>0)≤(1152921504606846976:Int)
 split <;> omega
theorem at99 {l:List Rat} (h:∀ x∈l,RSm x 99000000) (i:Nat):RSm (l.getD i 0) 99000000:=by
 rw [List.getD_eq_getElem?_getD]
 cases hg:l[i]? with
 | none=>exact rsm0.mono (by decide)
 | some x=>exact h x (List.mem_of_getElem? hg)
theorem sc_Le:∀ p∈sc_P,∀ j j',Le (co_V (sc_W a c) f n j) (co_V (sc_W a c) f n j') p:=by
 intro p hp j j'
 simp only [sc_P,List.mem_cons,List.not_mem_nil,or_false] at hp
 rcases hp with rfl | rfl
 ·exact rd_L rfl
 ·exact rd_Q rfl
theorem kScaleL (sa:∀ x∈a,RSm x 99000000) (sc:RSm c 99000000) (ha:a.length≤1000000) {M:Nat→Prop} {w:World} {va vc:Value} (hm0:∀ b,M b→b<w.heap.size) (hva:(XP.rats a).p M w [va]) (hvc:(ratF c).p vc w):LCall 26 M w [va,vc] (scaleC a c):=by
 generalize hf:(fun i=>c*a.getD i 0)=f
 have hv:@RVs (envD (co_V (sc_W a c) f a.length 0)) noR M w sc_xs [va,vc]:=⟨va,_,rfl,aL_in (V:=co_V (sc_W a c) f a.length 0) (e:=.v 0) hva,vc,_,rfl,aQ_in (V:=co_V (sc_W a c) f a.length 0) (q:=.v 0) hvc sc,rfl⟩
 have hF:FaOK (co_V (sc_W a c) f a.length 0) sc_F:=⟨rfl,co_sm (sc_sm ha) ha (Nat.zero_le _),by simp [sc_F,co_V,sc_W]; omega,by simp [sc_F,co_V,sc_W,lD],by
  intro x hx
  simp only [sc_F,List.mem_cons,List.not_mem_nil,or_false] at hx
  rcases hx with rfl | rfl
  ·exact sa
  ·intro y hy
   change y∈(List.range a.length).map f at hy
   obtain ⟨i,hi,rfl⟩:=List.mem_map.1 hy
   rw [← hf]
   exact (sc.mul (at99 sa i)).mono (j:=198000000) (by decide),by simp [sc_F],by simp [sc_F],by simp [sc_F],by simp [sc_F]⟩
 have hFR:∀ j,j<a.length→FaOK (co_V (sc_W a c) f a.length j) sc_FR:=fun j hj=>⟨rfl,co_sm (sc_sm ha) ha (by omega),by simp [sc_FR,co_V,sc_W]; omega,by simp [sc_FR,co_V,sc_W,lD],by simpa [sc_FR,co_V,sc_W,lD] using sa,by simp [sc_FR],by simp [sc_FR,co_V,sc_W,rD,co_row],by simp [sc_FR],by simp [sc_FR]⟩
 refine LCall.of (V:=co_V (sc_W a c) f a.length 0) (e:=.ap 70 (.v 9) (.lit 0)) (ρ:=noR) ?_ (@am_calls (envD (co_V (sc_W a c) f a.length 0)) _ sc_f sc_c sc_xs sc_xs _ noR M w [va,vc] Tryz.func26 sc_b (by rfl) (Nat.le_of_ble_eq_true sc_ln) hm0 hv fun a' hS=>?_)
 ·simp only [lD]
  unfold scaleC
  congr 1
  show (List.range a.length).map f=a.map fun x=>c*x
  rw [← hf]
  apply List.ext_getElem
  ·simp
  ·intro i h1 h2
   have:i<a.length:=by simpa using h1
   simp [this]
 ·rw [sc_bg] at hS
  rw [sc_e]
  refine wp_seq ?_
  show holds _ [] a' w (.run (cl sc_c))
  refine am_go hF (fun _ h=>by cases h) _ sc_e0 hS fun ρ M' a' w' hS=>?_
  obtain ⟨ρ,M',hS⟩:=am_move (E':=envD (co_V (sc_W a c) f a.length 0)) sc_d (rd_ok (fun p hp=>sc_Le p hp 0 0) rfl rfl rfl) hm0 sc_m0 sc_b0 hS
  show holds _ [] a' w' (.run (cr sc_c))
  refine am_go hF (fun e he=>?_) _ sc_e1 hS fun ρ M' a' w' hS=>⟨.inr rfl,_,ρ,M',hS,sc_x1⟩
  simp only [List.mem_cons,List.not_mem_nil,or_false] at he
  rcases he with rfl | rfl
  ·refine peOf_ok (fun _ _=>by simp [go_sem]) rfl rfl (fun p hp=>?_) fun M w vs hm0 hv=>?_
   ·rcases List.mem_cons.1 hp with rfl | hp
    ·exact rd_I rfl
    ·exact sc_Le p hp 0 0
   ·refine LCall.rv (show LCall _ M w vs _ from kCollect (W:=sc_W a c) (f:=f) sc_runs rfl (sc_sm ha) ha sc_Le hFR (fun j hj e he=>by cases he) (fun j hj=>?_) hm0 hv) rfl
    rw [← hf]
    simp [sc_q,qD,lD,zD,co_V,sc_W]
  ·exact pTrim_ok hF
end
end Go.Proofs.YtgaehhapjnbieaaGreat
namespace Go.Proofs.YtgaehhapjnbieaaGreat
open Go.RowKit
def FreshR (l:List (Option Rat)) (w w':World) (v:Value):Prop:=∃ g arr k,v = .slice (some ⟨g,0,none⟩) l.length k∧l.length≤k∧w.heap.size≤g∧w'.heap[g]? = some (.cells arr 36 (0,0))∧OptCells w' l arr.toList
theorem am_callsX {E:Env} {f:Nat} {fn:Func} {c:Code} {xs xs':List AV} {R:Value→World→Prop} {ρ:Rho} {M:Nat→Prop} {w:World} {vs:List Value} (hf:Tryz.prog.funcs[f]? = some fn) (hb:fn.body=some c) (hx:renL (fun _=>none) xs=some xs') (hlen:xs'.length≤fn.ntmps) (hbnd:∀ b,M b→b<w.heap.size) (hv:@RVs E ρ M w xs vs)
  (h:∀ a,@FS0 E w M ⟨xs' ++ List.replicate (fn.ntmps - xs'.length) (.val undef),[],16,[]⟩ noR M a w→c.wp Tryz.prog (fun e a w'=>(e = .normal ∨ e = .ret)∧∃ (E':Env) (s:Fm) (ρ':Rho) (M':Nat→Prop) (l:List AV) (r:AV),@FS0 E' w M s ρ' M' a w'∧resA s fn.results.toList=some l∧outA l=some r∧∀ v,@RV E' ρ' M' w' r v→R v w') a w) :
  Calls Tryz.prog f vs.toArray w fun e w'=>∃ v,e = .returned v∧R v w'∧Below w.heap.size w w':=by
 have hv:@RVs E noR M w xs' vs:=@ren_rvs E (fun _=>none) ρ noR M M w (fun _ _ _ e=>by cases e) (fun _ h=>h) xs xs' vs hx hv
 refine calls_of_wp hf hb (Code.wp_mono ?_ (h { tmps:=vs.toArray ++ Array.replicate (fn.ntmps - vs.toArray.size) undef,defers:=[] } ?_))
 ·intro e a' w' ⟨he,E',s,ρ',M',l,r,hF,hl,hr0,hR⟩
  obtain ⟨v,e1,e2⟩:=@results_sound E' _ w noR M [] 16 s ρ' M' a' w' hF (fun _ h=>h) fn l r hl hr0
  obtain ⟨_,Fdef,_,_,_,_,_,Ffr,_⟩:=hF
  have hfin:a'.defers=[]∧∃ v,(results fn a'.tmps).run Tryz.prog w' = .ok v w'∧∃ u,Ending.returned v = .returned u∧R u w'∧Below w.heap.size w w':=⟨Fdef,v,e1,v,rfl,hR v e2,⟨Ffr.os,Ffr.tape,Ffr.output,Ffr.size,fun b hb=>Ffr.keep b hb (by omega)⟩⟩
  rcases he with rfl | rfl
  ·exact hfin
  ·exact hfin
 ·have hvl:vs.length=xs'.length:=@RVs.len E _ _ _ _ _ hv
  refine ⟨by simp [hvl],rfl,fun t x hx=>?_,⟨fun o b e=>(by cases e),fun o o' b b' g c c' e=>(by cases e)⟩,fun o p e=>(by cases e),Nat.le_refl _,hbnd,FrA.refl _ _,Tr.refl _ _ _,fun _ h=>h,fun _ h=>.inl h,fun o p e=>.inl e,fun o _ _=>⟨rfl,fun _ _ _ e=>(by cases e)⟩⟩
  have hx:(xs' ++ List.replicate (fn.ntmps - xs'.length) (.val undef))[t]? = some x:=hx
  show ∃ v,(vs.toArray ++ Array.replicate (fn.ntmps - vs.toArray.size) undef)[t]? = some v∧_
  rw [List.getElem?_append] at hx
  split at hx
  ·rename_i hlt
   obtain ⟨v,e,k⟩:=@RVs.get E _ _ _ _ _ _ _ hv hx
   exact ⟨v,by rw [Array.getElem?_append_left (by simp [hvl,hlt])]; simpa using e,@RV1.rv E _ _ _ _ _ k⟩
  ·rename_i hge
   rw [List.getElem?_replicate] at hx
   split at hx
   ·cases hx
    refine ⟨undef,?_,rfl⟩
    rw [Array.getElem?_append_right (by simp [hvl]; omega),Array.getElem?_replicate,if_pos]
    simp [hvl]
    omega
   ·cases hx
section
variable {W : VL} {f : Nat → Rat} {n : Nat}
theorem kCollectF {F:Fa} {L:List PE} {P:List (AV × AV)} {c:AV} {q:CE} {b:Nat} (R:CoRuns F L P c q b) (hl:resA (stopS (co_re c)) co_f.results.toList=some [.slx 48 co_n]) (hh:lk (stopS (co_re c)).H 48=some ⟨36,0,[],false,some co_o⟩) (h0:W.z 0=0) (hs:∀ k,-1152921504606846976≤W.z k∧W.z k≤1152921504606846976) (hn:n≤1000000)
  (hP:∀ p∈P,∀ j j',Le (co_V W f n j) (co_V W f n j') p) (hF:∀ j,j<n→FaOK (co_V W f n j) F) (hL:∀ j,j<n→∀ e∈L,@PE.ok (envD (co_V W f n j)) e) (hq:∀ j,j<n→qD (co_V W f n j) q=f j)
  {M:Nat→Prop} {w:World} {vs:List Value} (hm0:∀ b,M b→b<w.heap.size) (hv:@RVs (envD (co_V W f n 0)) noR M w [aI 4 0,c] vs) :
  Calls Tryz.prog 76 vs.toArray w fun e w'=>∃ u,e = .returned u∧FreshR (((List.range n).map f).map some) w w' u∧Below w.heap.size w w':=by
 refine @am_callsX (envD (co_V W f n 0)) _ co_f co_c [aI 4 0,c] [aI 4 0,c] (fun v w'=>FreshR (((List.range n).map f).map some) w w' v) noR M w vs Tryz.func76 (by rfl) R.id_ (by show 2≤22; omega) hm0 hv fun a hS=>?_
 show holds _ [] a w (.run co_c)
 refine am_go (V:=co_V W f n 0) (co_F2_ok h0 hs hn (Nat.zero_le _)) (fun _ h=>by cases h) _ R.e0 hS fun ρ M' a w' hS=>?_
 obtain ⟨ρ,M',hS⟩:=am_move (E':=envD (co_V W f n 0)) (co_d0 P) ⟨fun p hp=>by
  simp only [co_d0,List.mem_cons] at hp
  rcases hp with rfl | rfl | hp
  ·exact rd_I rfl
  ·exact rd_Ic rfl
  ·exact hP p hp 0 0,fun p hp=>by
  simp only [co_d0,List.mem_singleton] at hp
  subst hp
  rfl,fun p hp M w cs r=>by
  simp only [co_d0,List.mem_singleton] at hp
  subst hp
  change OptCells w (rD (co_V W f n 0) (.ap 40 (.i 4 0) (.lit 0))) cs at r
  show OptCells w (co_row f n 0) cs
  rw [co_row0]
  simpa [rD,zD,co_V] using r,fun p hp=>(by cases hp)⟩ hm0 R.m0 R.b0 hS
 refine am_loop (fun j=>n - j) (co_V W f n) (fun j=>j≤n) (co_s c) ?_ 0 (Nat.zero_le _) hS
 intro j hj ρ M' a w' hS
 show holds _ [] a w' (.run co_b)
 by_cases hjn:j<n
 ·refine am_go (V:=co_V W f n j) (hF j hjn) (hL j hjn) _ R.er hS fun ρ M' a w' hS=>?_
  obtain ⟨ρ,M',hS⟩:=am_move (E':=envD (co_V W f n (j+1))) (co_dr P q b) ⟨fun p hp=>by
   simp only [co_dr,List.mem_cons] at hp
   rcases hp with rfl | rfl | hp
   ·exact rd_I rfl
   ·exact rd_I (by show (j:Int)+1=((j+1:Nat):Int)+0; omega)
   ·exact hP p hp j (j+1),fun p hp=>by
   simp only [co_dr,List.mem_singleton] at hp
   subst hp
   rfl,fun p hp M w cs r=>by
   simp only [co_dr,List.mem_singleton] at hp
   subst hp
   change OptCells w (rD (co_V W f n j) (.ap 41 (.v 0) (.ap 0 (.i 3 0) (.ap 52 q (.lit (b:Int)))))) cs at r
   show OptCells w (co_row f n (j+1)) cs
   rw [← co_rowS]
   simp only [rD] at r
   rw [hq j hjn] at r
   have hz:(zD (co_V W f n j) (.i 3 0)).toNat=j:=by simp [zD,co_V]
   rw [hz] at r
   exact r,fun p hp=>(by cases hp)⟩ hm0 R.mr R.br hS
  exact ⟨j+1,ρ,M',hjn,by show n - (j+1)<n - j; omega,hS⟩
 ·have hjn:j=n:=by omega
  subst hjn
  refine am_go (V:=co_V W f j j) (co_FX_ok h0 hs hn) (fun _ h=>by cases h) _ R.ex hS fun ρ M' a w' hS=>?_
  show holds _ co_k a w' (.at_ (.ext 0))
  refine am_go (V:=co_V W f j j) (co_FX_ok h0 hs hn) (fun _ h=>by cases h) _ R.ee hS fun ρ M' a w' hS=>?_
  refine ⟨.inr rfl,envD (co_V W f j j),_,ρ,M',_,.slx 48 co_n,hS,hl,rfl,fun v hv=>?_⟩
  obtain ⟨_,_,_,⟨Fobj,_⟩,_⟩:=hS
  obtain ⟨g,cc,arr,cs,⟨k_at,k_mut,k_own,k_blk,k_ty,k_cells,k_pre,k_cap⟩⟩:=Fobj 48 _ hh
  have hv:@Rp (envD (co_V W f j j)) ρ M' w' (.slx 48 co_n) [v]:=hv
  unfold Rp at hv
  obtain ⟨g',k,cc',q1,q2,q3⟩:=hv
  rw [k_at] at q1
  simp only [Option.some.injEq,Prod.mk.injEq] at q1
  obtain ⟨rfl,rfl⟩:=q1
  have hNj:(envD (co_V W f j j)).N co_n=j:=by show (zD (co_V W f j j) (.i 4 0)).toNat=j; simp [zD,co_V]
  rw [hNj] at q2 q3
  obtain ⟨tl,he,ht⟩:=k_pre
  rw [ht rfl,List.append_nil] at he
  change OptCells w' (co_row f j j) cs at k_cells
  rw [co_rowN,← he] at k_cells
  exact ⟨g,arr,k,by rw [(List.cons.inj q2).1]; simp,by simpa using q3,k_own,k_blk,k_cells⟩
end
theorem post_fresh {V:VL} {ρ:Rho} {M A:Nat→Prop} {w w':World} {t0:Nat} {H:Nat→Option OB} {n c:CE} {l:List (Option Rat)} {v:Value} (hs:@St0 (envD V) ρ M A w t0 H) (hn:nD V n=l.length) (hc:∀ M w cs,OptCells w l cs→(bD V c).p M w cs) (hb:Below w.heap.size w w') (hg:Grow w w') (hf:FreshR l w w' v) :
  @Post (envD V) ρ M A w t0 H [(t0,some ⟨36,0,[],false,some c⟩)] (.slx t0 n) v w':=by
 letI:=envD V
 obtain ⟨g,arr,k,rfl,hk,hgs,hblk,hcells⟩:=hf
 obtain ⟨hheap,hbnd,hnew,hfresh⟩:=hs
 have h0:ρ t0=none:=hnew t0 (Nat.le_refl _) (by omega)
 let ρ':Rho:=fun o=>if o=t0 then some (g,0) else ρ o
 let M':Nat→Prop:=fun b=>M b ∨ b=g
 have hext:∀ o p,ρ o=some p→ρ' o=some p:=fun o p e=>by
  show (if o=t0 then _ else ρ o)=some p
  rw [if_neg (fun e2=>by rw [e2,h0] at e; cases e)]
  exact e
 have hTr:Tr ρ M w ρ' M' w':=⟨hg,fun b hb2 _=>hb.block b hb2,fun b hb2 hm=>by
  rcases hm with hm | rfl
  ·exact hm
  ·omega,hext⟩
 have hold:∀ o b,H o=some b→o≠t0:=fun o b e e2=>by
  obtain ⟨g1,c1,_,_,k1⟩:=hheap.obj o b e
  have:=k1.at_
  rw [e2,h0] at this
  cases this
 have hupd:∀ o,upd H [(t0,some ⟨36,0,[],false,some c⟩)] o=if o=t0 then some ⟨36,0,[],false,some c⟩ else H o:=fun o=>by
  by_cases h:o=t0
  ·subst h
   simp [upd]
  ·rw [if_neg h]
   exact upd_out (fun x hx=>by rw [List.mem_singleton] at hx; subst hx; exact fun e=>h e.symm)
 have at0:ρ' t0=some (g,0):=if_pos rfl
 refine ⟨ρ',M',hTr,?_,⟨fun o b e=>?_,fun o o' b b' g1 c1 c2 e e' r r'=>?_⟩,fun o p e=>?_,fun b h=>.inl h,fun b h=>?_,fun b h=>?_,⟨hb.os,hb.tape,hb.output,hb.size,fun b hb2 _=>hb.block b hb2⟩,fun o b g1 c1 e _ r=>?_⟩
 ·show Rp ρ' M' w' (.slx t0 n) [_]
  unfold Rp
  have hN:Env.N n=l.length:=hn
  exact ⟨g,k,0,at0,by rw [hN],by rw [hN]; exact hk⟩
 ·rw [hupd] at e
  split at e
  ·rename_i ho
   subst ho
   cases e
   exact ⟨g,0,arr,arr.toList,at0,.inr rfl,hfresh g hgs,hblk,tyOk_sound ratTyOk,hc M' w' _ hcells,⟨[],(List.append_nil _).symm,fun _=>rfl⟩,fun h=>by cases h⟩
  ·obtain ⟨g1,c1,arr1,cs1,k1⟩:=hheap.obj o b e
   have hlt:g1<w.heap.size:=lt_of_get k1.blk
   exact ⟨g1,c1,arr1,cs1,k1.st hTr .inl (hb.block g1 hlt)⟩
 ·rw [hupd] at e e'
  have lt:∀ o b,H o=some b→∀ g1 c1,ρ' o=some (g1,c1)→g1<w.heap.size∧∃ c3,ρ o=some (g1,c3):=fun o b e g1 c1 r=>by
   obtain ⟨g3,c3,arr3,cs3,k3⟩:=hheap.obj o b e
   have:=hext _ _ k3.at_
   rw [r] at this
   simp only [Option.some.injEq,Prod.mk.injEq] at this
   exact ⟨by rw [this.1]; exact lt_of_get k3.blk,c3,by rw [this.1]; exact k3.at_⟩
  split at e <;> split at e'
  ·rename_i h1 h2
   rw [h1,h2]
  ·rename_i h1 h2
   subst h1
   rw [at0] at r
   cases r
   have:=(lt o' b' e' _ _ r').1
   omega
  ·rename_i h1 h2
   subst h2
   rw [at0] at r'
   cases r'
   have:=(lt o b e _ _ r).1
   omega
  ·obtain ⟨_,c3,q3⟩:=lt o b e _ _ r
   obtain ⟨_,c4,q4⟩:=lt o' b' e' _ _ r'
   exact hheap.inj o o' b b' g1 c3 c4 e e' q3 q4
 ·have e:(if o=t0 then some (g,0) else ρ o)=some p:=e
  split at e
  ·rename_i h
   exact .inr ⟨by omega,by omega⟩
  ·exact .inl e
 ·rcases h with h | rfl
  ·exact .inl h
  ·exact .inr hgs
 ·rcases h with h | rfl
  ·have:=hbnd b h
   have:=hb.size
   omega
  ·exact lt_of_get hblk
 ·obtain ⟨g3,c3,arr3,cs3,k3⟩:=hheap.obj o b e
  have:=k3.at_
  rw [r] at this
  simp only [Option.some.injEq,Prod.mk.injEq] at this
  have hlt:g3<w.heap.size:=lt_of_get k3.blk
  rw [this.1]
  exact hb.block g3 hlt
end Go.Proofs.YtgaehhapjnbieaaGreat
namespace Go.Proofs.YtgaehhapjnbieaaGreat
open Go.RowKit
noncomputable def frC (f:Nat) (P:List (AV × AV)) (ex:List AV) (n c:CE):CallF:=fun g xs _ _ t0=>if Nat.beq g f && wkVs (idD P) [] xs ex then some (.slx t0 n,[(t0,some ⟨36,0,[],false,some c⟩)]) else none
theorem frC_ok {V:VL} {f:Nat} {P:List (AV × AV)} {ex:List AV} {n c:CE} {l:List (Option Rat)} (pl:Plainly f) (ho:ex.all AV.one=true) (hP:∀ p∈P,Le V V p) (hn:nD V n=l.length) (hc:∀ M w cs,OptCells w l cs→(bD V c).p M w cs)
  (h:∀ (M:Nat→Prop) (w:World) (vs:List Value),(∀ b,M b→b<w.heap.size) → @RVs (envD V) noR M w ex vs→Calls Tryz.prog f vs.toArray w fun e w'=>∃ u,e = .returned u∧FreshR l w w' u∧Below w.heap.size w w'):@CallOK (envD V) (frC f P ex n c):=by
 intro g xs H n0 t0 r U e
 unfold frC at e
 split at e
 ·rename_i hc2
  rw [Bool.and_eq_true] at hc2
  have hg:=Nat.eq_of_beq_eq_true hc2.1
  subst hg
  cases e
  refine ⟨pl,fun ρ M w vs hs _ _ hv=>?_⟩
  have hbnd:∀ b,M b→b<w.heap.size:=by
   obtain ⟨_,hbnd,_,_⟩:=hs
   exact hbnd
  exact Calls.mono (h M w vs hbnd (rvs_to P hP hc2.2 ho hv)) fun e w' ⟨u,e1,e2,e3⟩=>⟨u,e1,post_fresh hs hn hc e3 (Grow.of_below e3) e2⟩
 ·cases e
noncomputable def tbC (F:Fa) (l:List PE) (C:CallF):Tb:=⟨primOf (l ++ primC F),stdX F,C⟩
theorem am_goC {V:VL} {F:Fa} {l:List PE} {C:CallF} {m n:Nat} {cf:Cf} {k:List KFr} {s:Fm} {W0:World} {M0:Nat→Prop} {Q:Exit→Act→World→Prop} {ρ:Rho} {M:Nat→Prop} {a:Act} {w:World} (hF:FaOK V F) (hl:∀ e∈l,@PE.ok (envD V) e) (hC:@CallOK (envD V) C) (o:Stop) (h:runF (tbC F l C) plainL m n cf k s=some o) (hS:@FS0 (envD V) W0 M0 s ρ M a w) (hQ:StopOK (envD V) W0 M0 Q o):holds Q k a w cf:=
 runF_ok (@TbOK.mk (envD V) _ (primC_ok hF hl) (stdX_ok hF) hC) plainL_ok n cf k s o h hQ ρ M a w hS
noncomputable def mu_f:Func:=Tryz.f24
noncomputable def mu_c:Code:=bodyOf mu_f
noncomputable def mu_b:Code:=lpB mu_c []
noncomputable def mu_k:List KFr:=lpK mu_c []
noncomputable def mu_b2:Code:=lpB mu_b []
noncomputable def mu_k2:List KFr:=lpK mu_b []
def mu_V (a b R:List Rat) (i j:Nat):VL:=⟨fun k=>match k with | 1=>(a.length:Int) | 2=>(b.length:Int) | 4=>(a.length:Int)+b.length - 1 | 5=>(a.length:Int)+b.length | 6=>(i:Int) | 7=>(j:Int) | 8=>(i:Int)+j | _=>0,fun k=>match k with | 0=>a | 1=>b | 10=>R | _=>[],fun _=>0,fun k=>match k with | 1=>R.map some | _=>[]⟩
def mu_o:CE:=.ap 60 (.v 1) (.lit 0)
def mu_x:CE:=.ap 30 (.v 0) (.i 6 0)
def mu_L:List (CE × Nat × Int):=[(.v 0,1,0),(.v 1,2,0)]
def mu_B:List (CE × Nat):=[(.v 0,40000000),(.v 1,40000000)]
def mu_F0:Fa:=⟨[(0,1,-1),(0,2,-1)],mu_L,[],[],[],[],[(1,2,5)]⟩
def mu_F1:Fa:=⟨[(1,0,0),(0,1,0)],mu_L,[],[],[],[],[]⟩
def mu_F2:Fa:=⟨[(0,1,-1),(2,0,0),(0,2,0)],mu_L,[],[],[],[],[]⟩
def mu_FA (t:Bool):Fa:=⟨[(0,6,0),(6,1,-1)],mu_L,mu_B,[(mu_x,t)],[],[],[]⟩
def mu_FX:Fa:=⟨[(1,6,0)],mu_L,[],[],[],[],[]⟩
def mu_FB:Fa:=⟨[(0,7,0),(7,2,-1),(0,8,0),(8,4,-1)],mu_L,mu_B,[],[(.v 1,4,0)],[(.v 1,99000000)],[(6,7,8)]⟩
def mu_FY:Fa:=⟨[(2,7,0)],mu_L,[],[],[],[],[]⟩
noncomputable def mu_zc:AV:=.fn 77 [] []
def mu_zP:List (AV × AV):=[(aI 5 (-1),aI 4 0)]
noncomputable def mu_C:CallF:=frC 76 mu_zP [aI 4 0,mu_zc] co_n mu_o
def mu_zF:Fa:=⟨[(0,3,0),(3,4,-1)],[],[],[],[(.v 0,4,0)],[],[]⟩
def mu_zq:CE:=.ap 36 (.lit 0) (.lit 1)
noncomputable def mu_s:Fm:=mkS 59 [(0,aL (.v 0)),(1,aL (.v 1)),(5,.slx 256 co_n),(25,aL (.v 0)),(26,aI 1 0),(27,aI 6 0)] [(256,some ⟨36,0,[],false,some mu_o⟩)] 1000
noncomputable def mu_s2:Fm:=mkS 59 [(0,aL (.v 0)),(1,aL (.v 1)),(5,.slx 256 co_n),(6,aI 6 0),(7,.ptr 1064 0),(25,aL (.v 0)),(26,aI 1 0),(27,aI 6 0),(34,aL (.v 1)),(35,aI 2 0),(36,aI 7 0)] [(256,some ⟨36,0,[],false,some mu_o⟩),(1064,some ⟨36,1,[aQ mu_x 40000000],false,none⟩)] 2000
noncomputable def mu_r0:=runF (tbC mu_F0 [] mu_C) plainL 100 100 (.run mu_c) [] (begS 59 ab_xs)
noncomputable def mu_r1:=runF (tbF mu_F1 []) plainL 100 100 (.run mu_c) [] (begS 59 ab_xs)
noncomputable def mu_r2:=runF (tbF mu_F2 []) plainL 100 100 (.run mu_c) [] (begS 59 ab_xs)
noncomputable def mu_rA:=runF (tbF (mu_FA false) []) plainL 100 100 (.run mu_b) [] mu_s
noncomputable def mu_rZ:=runF (tbF (mu_FA true) []) plainL 100 100 (.run mu_b) [] mu_s
noncomputable def mu_rX:=runF (tbF mu_FX []) plainL 100 100 (.run mu_b) [] mu_s
noncomputable def mu_rB:=runF (tbF mu_FB []) plainL 100 100 (.run mu_b2) [] mu_s2
noncomputable def mu_rY:=runF (tbF mu_FY []) plainL 100 100 (.run mu_b2) [] mu_s2
noncomputable def mu_yY:=runF (tbF fa0 []) plainL 100 100 (.at_ (.ext 2)) mu_k2 (stopS mu_rY)
noncomputable def mu_yX:=runF (tbF fa0 []) plainL 100 100 (.at_ (.ext 0)) mu_k (stopS mu_rX)
def mu_pr:CE:=.ap 31 (.ap 35 (.v 1) (.i 8 0)) (.ap 33 mu_x (.ap 30 (.v 1) (.i 7 0)))
def mu_nP:List (CE × CE):=[(co_n,co_n)]
def mu_d0:Rd:=⟨(.val (.int .i64 0),aI 6 0) :: (aI 1 0,aI 1 0) :: cb_P,mu_nP,[(mu_o,mu_o)],[],[],1000⟩
def mu_dA:Rd:=⟨(.val (.int .i64 0),aI 7 0) :: (aQ mu_x 40000000,aQ mu_x 40000000) :: (aI 6 0,aI 6 0) :: (aI 1 0,aI 1 0) :: (aI 2 0,aI 2 0) :: cb_P,mu_nP,[(mu_o,mu_o)],[],[],2000⟩
def mu_dB:Rd:=⟨(aI 7 1,aI 7 0) :: (aQ mu_x 40000000,aQ mu_x 40000000) :: (aI 6 0,aI 6 0) :: (aI 1 0,aI 1 0) :: (aI 2 0,aI 2 0) :: cb_P,mu_nP,[(.ap 60 (.ap 41 (.v 1) (.ap 0 (.i 8 0) (.ap 52 mu_pr (.lit 179000001)))) (.lit 0),mu_o)],[],[],2000⟩
def mu_dN:Rd:=⟨(aI 6 1,aI 6 0) :: (aI 1 0,aI 1 0) :: cb_P,mu_nP,[(mu_o,mu_o)],[],[],1000⟩
def mu_dx:Rd:=⟨[],[],[],[(256,co_n,mu_o,.ap 51 (.v 10) (.lit 0))],[],3000⟩
def mu_fin:Fm:=mkS 59 [(4,aL (.v 10))] [] 3000
set_option maxRecDepth 100000
theorem mu_e0:mu_r0=some (.loop mu_b mu_k (stopS mu_r0)):=by kernel_rfl
theorem mu_e1:mu_r1=some (.done .ret (stopS mu_r1)):=by kernel_rfl
theorem mu_e2:mu_r2=some (.done .ret (stopS mu_r2)):=by kernel_rfl
theorem mu_x1:endA mu_f (stopS mu_r1)=some (.val (.slice none 0 0)):=by kernel_rfl
theorem mu_x2:endA mu_f (stopS mu_r2)=some (.val (.slice none 0 0)):=by kernel_rfl
theorem mu_eA:mu_rA=some (.loop mu_b2 mu_k2 (stopS mu_rA)):=by kernel_rfl
theorem mu_eZ:mu_rZ=some (.done .nor (stopS mu_rZ)):=by kernel_rfl
theorem mu_eX:mu_rX=some (.done (.ext 0) (stopS mu_rX)):=by kernel_rfl
theorem mu_eB:mu_rB=some (.done .nor (stopS mu_rB)):=by kernel_rfl
theorem mu_eY:mu_rY=some (.done (.ext 2) (stopS mu_rY)):=by kernel_rfl
theorem mu_uY:mu_yY=some (.done .nor (stopS mu_yY)):=by kernel_rfl
theorem mu_uX:mu_yX=some (.done .ret (stopS mu_yX)):=by kernel_rfl
theorem mu_m0:wkF mu_d0 16 (stopS mu_r0) mu_s=true:=by kernel_rfl
theorem mu_mA:wkF mu_dA 16 (stopS mu_rA) mu_s2=true:=by kernel_rfl
theorem mu_mB:wkF mu_dB 16 (stopS mu_rB) mu_s2=true:=by kernel_rfl
theorem mu_mY:wkF mu_dN 16 (stopS mu_yY) mu_s=true:=by kernel_rfl
theorem mu_mZ:wkF mu_dN 16 (stopS mu_rZ) mu_s=true:=by kernel_rfl
theorem mu_mx:wkF mu_dx 16 (stopS mu_yX) mu_fin=true:=by kernel_rfl
theorem mu_b0:below 16 mu_s.H=below 16 (stopS mu_r0).H:=by kernel_rfl
theorem mu_bA:below 16 mu_s2.H=below 16 (stopS mu_rA).H:=by kernel_rfl
theorem mu_bB:below 16 mu_s2.H=below 16 (stopS mu_rB).H:=by kernel_rfl
theorem mu_bY:below 16 mu_s.H=below 16 (stopS mu_yY).H:=by kernel_rfl
theorem mu_bZ:below 16 mu_s.H=below 16 (stopS mu_rZ).H:=by kernel_rfl
theorem mu_bx:below 16 mu_fin.H=below 16 (stopS mu_yX).H:=by kernel_rfl
theorem mu_bo:mu_f.body=some mu_c:=by kernel_rfl
theorem mu_bg:(⟨ab_xs ++ List.replicate (mu_f.ntmps - ab_xs.length) (.val undef),[],16,[]⟩:Fm)=begS 59 ab_xs:=by kernel_rfl
theorem mu_ln:Nat.ble ab_xs.length mu_f.ntmps=true:=by kernel_rfl
theorem mu_zruns:CoRuns mu_zF [] [] mu_zc mu_zq 1:=⟨by kernel_rfl,by kernel_rfl,by kernel_rfl,by kernel_rfl,by kernel_rfl,by kernel_rfl,by kernel_rfl,by kernel_rfl,by kernel_rfl,by kernel_rfl,by kernel_rfl⟩
theorem mu_zl:resA (stopS (co_re mu_zc)) co_f.results.toList=some [.slx 48 co_n]:=by kernel_rfl
theorem mu_zh:lk (stopS (co_re mu_zc)).H 48=some ⟨36,0,[],false,some co_o⟩:=by kernel_rfl
end Go.Proofs.YtgaehhapjnbieaaGreat
namespace Go.Proofs.YtgaehhapjnbieaaGreat
open Go.RowKit
theorem innR_len {R:List Rat} {x:Rat} {b:List Rat} {i:Nat}:∀ j,(innR R x b i j).length=R.length
 | 0=>rfl
 | j+1=>by simp [innR,innR_len j]
theorem outR_len {a b:List Rat}:∀ i,(outR a b i).length=a.length+b.length - 1
 | 0=>by simp [outR]
 | i+1=>by rw [outR,innR_len,outR_len i]
theorem innR_zero {R:List Rat} {b:List Rat} {i:Nat}:∀ j,innR R 0 b i j=R
 | 0=>rfl
 | j+1=>by
  rw [innR,innR_zero j]
  apply List.ext_getElem
  ·simp
  ·intro k h1 h2
   rw [List.getElem_set]
   split
   ·rename_i h
    subst h
    have h0:(R.getD (i+j) 0)+0*b.getD j 0=R.getD (i+j) 0:=by grind
    rw [h0,List.getD_eq_getElem?_getD,List.getElem?_eq_getElem h2]
    rfl
   ·rfl
theorem mu_resF:resA mu_fin mu_f.results.toList=some [aL (.v 10)]:=by kernel_rfl
theorem mu_zw:wkVs (idD [(aI 4 0,aI 4 0)]) [] [aI 4 0,mu_zc] [aI 4 0,mu_zc]=true:=by kernel_rfl
section
variable {a b R : List Rat} {i j : Nat}
theorem mu_sm (ha:a.length≤400000) (hb:b.length≤400000) (hi:i≤400000) (hj:j≤400000) (k:Nat) : -1152921504606846976≤(mu_V a b R i j).z k∧(mu_V a b R i j).z k≤1152921504606846976:=by
 show -1152921504606846976≤(match k with | 1=>(a.length:Int) | 2=>(b.length:Int) | 4=>(a.length:Int)+b.length - 1 | 5=>(a.length:Int)+b.length | 6=>(i:Int) | 7=>(j:Int) | 8=>(i:Int)+j | _=>0)∧(match k with | 1=>(a.length:Int) | 2=>(b.length:Int) | 4=>(a.length:Int)+b.length - 1 | 5=>(a.length:Int)+b.length | 6=>(i:Int) | 7=>(j:Int) | 8=>(i:Int)+j | _=>0)≤(1152921504606846976:Int)
 split <;> omega
theorem mu_len:∀ x∈mu_L,((lD (mu_V a b R i j) x.1).length:Int)=(mu_V a b R i j).z x.2.1+x.2.2:=by
 simp [mu_L,mu_V,lD]
theorem mu_bd (sa:∀ x∈a,RSm x 40000000) (sb:∀ x∈b,RSm x 40000000):∀ x∈mu_B,∀ y∈lD (mu_V a b R i j) x.1,RSm y x.2:=by
 simpa [mu_B,mu_V,lD] using ⟨sa,sb⟩
theorem mu_cb {R':List Rat} {i' j':Nat}:∀ p∈cb_P,Le (mu_V a b R i j) (mu_V a b R' i' j') p:=by
 intro p hp
 simp only [cb_P,List.mem_cons,List.not_mem_nil,or_false] at hp
 rcases hp with rfl | rfl
 ·exact rd_L rfl
 ·exact rd_L rfl
theorem mu_rd {R':List Rat} {i' j':Nat} {d:Rd} (h1:∀ p∈d.vs,Le (mu_V a b R i j) (mu_V a b R' i' j') p) (h2:d.ns=mu_nP) (h3:∃ c,d.bs=[(c,mu_o)]∧∀ M w cs,(bD (mu_V a b R i j) c).p M w cs→OptCells w (R'.map some) cs) (h4:d.rest=[]):RdOK (envD (mu_V a b R i j)) (envD (mu_V a b R' i' j')) d:=by
 obtain ⟨c,hc,h3⟩:=h3
 refine ⟨h1,fun p hp=>?_,fun p hp M w cs r=>?_,fun p hp=>(by rw [h4] at hp; cases hp)⟩
 ·rw [h2] at hp
  simp only [mu_nP,List.mem_singleton] at hp
  subst hp
  rfl
 ·rw [hc,List.mem_singleton] at hp
  subst hp
  exact h3 M w cs r
theorem mu_CallC (ha : a.length ≤ 400000) (hb : b.length ≤ 400000) (ha0 : 0 < a.length) : @CallOK (envD (mu_V a b (outR a b 0) 0 0)) mu_C := by
 refine frC_ok (l := (outR a b 0).map some) (fun _ _ => by simp [go_sem]) rfl (fun p hp => ?_) ?_ (fun M w cs h => h) fun M w vs hm0 hv => ?_
 ·simp only [mu_zP, List.mem_singleton] at hp
  subst hp
  exact rd_I (by show (a.length : Int) + b.length + -1 = (a.length : Int) + b.length - 1 + 0; omega)
 ·show ((a.length : Int) + b.length - 1 + 0).toNat = _
  rw [List.length_map, outR_len]
  omega
 ·have hN : a.length + b.length - 1 ≤ 1000000 := by omega
  have s0 : ∀ k : Nat, -1152921504606846976 ≤ (0 : Int) ∧ (0 : Int) ≤ 1152921504606846976 := fun _ => by omega
  have h := kCollectF (W := ⟨fun _ => 0, fun _ => [], fun _ => 0, fun _ => []⟩) (f := fun _ => 0) (n := a.length + b.length - 1) mu_zruns mu_zl mu_zh rfl s0 hN (fun p hp => by cases hp) (fun j hj => ⟨rfl, co_sm s0 hN (by omega), by simp [mu_zF, co_V]; omega, by simp [mu_zF], by simp [mu_zF], by simp [mu_zF], by simp [mu_zF, co_V, rD, co_row], by simp [mu_zF], by simp [mu_zF]⟩) (fun j hj e he => by cases he) (fun j hj => by simp [mu_zq, qD]) hm0
   (rvs_to [(aI 4 0, aI 4 0)] (fun p hp => by
    rw [List.mem_singleton] at hp
    subst hp
    exact rd_I (by show (a.length : Int) + b.length - 1 + 0 = ((a.length + b.length - 1 : Nat) : Int) + 0; omega)) mu_zw rfl hv)
  have he : (List.range (a.length + b.length - 1)).map (fun _ => (0 : Rat)) = outR a b 0 := by
   rw [outR]
   apply List.ext_getElem
   ·simp
   ·intro k h1 h2
    simp
  rw [he] at h
  exact h
theorem mu_step (hk:i+j<R.length):rD (mu_V a b R i j) (.ap 41 (.v 1) (.ap 0 (.i 8 0) (.ap 52 mu_pr (.lit 179000001))))=(R.set (i+j) (R.getD (i+j) 0+a.getD i 0*b.getD j 0)).map some:=by
 have hz:(zD (mu_V a b R i j) (.i 8 0)).toNat=i+j:=by show ((i:Int)+j+0).toNat=i+j; omega
 have h6:(zD (mu_V a b R i j) (.i 6 0)).toNat=i:=by show ((i:Int)+0).toNat=i; omega
 have h7:(zD (mu_V a b R i j) (.i 7 0)).toNat=j:=by show ((j:Int)+0).toNat=j; omega
 have hq:qD (mu_V a b R i j) mu_pr=R.getD (i+j) 0+a.getD i 0*b.getD j 0:=by
  simp only [mu_pr,mu_x,qD,lD,rD,hz,h6,h7]
  show ((R.map some).getD (i+j) none).getD 0+a.getD i 0*b.getD j 0=_
  congr 1
  rw [List.getD_eq_getElem?_getD,List.getD_eq_getElem?_getD,List.getElem?_map,List.getElem?_eq_getElem hk]
  rfl
 simp only [rD,hz,hq]
 show (R.map some).set (i+j) _=_
 rw [List.map_set]
theorem kMulL (sa:∀ x∈a,RSm x 40000000) (sb:∀ x∈b,RSm x 40000000) (ha:a.length≤400000) (hb:b.length≤400000) (sR:∀ i,i<a.length→∀ j,j<b.length→∀ x∈innR (outR a b i) (a.getD i 0) b i j,RSm x 99000000)
  {M:Nat→Prop} {w:World} {va vb:Value} (hm0:∀ b,M b→b<w.heap.size) (hva:(XP.rats a).p M w [va]) (hvb:(XP.rats b).p M w [vb]):LCall 24 M w [va,vb] (mulL a b):=by
 have hv:@RVs (envD (mu_V a b (outR a b 0) 0 0)) noR M w ab_xs [va,vb]:=⟨va,_,rfl,aL_in (V:=mu_V a b (outR a b 0) 0 0) (e:=.v 0) hva,vb,_,rfl,aL_in (V:=mu_V a b (outR a b 0) 0 0) (e:=.v 1) hvb,rfl⟩
 have nilC:∀ {F:Fa} {o:Stop} {s:Fm},FaOK (mu_V a b (outR a b 0) 0 0) F→runF (tbF F []) plainL 100 100 (.run mu_c) [] (begS 59 ab_xs)=some (.done .ret s)→endA mu_f s=some (.val (.slice none 0 0))→LCall 24 M w [va,vb] []:=fun {F} {o} {s} hF he hx=>by
  refine Calls.mono (@am_calls (envD (mu_V a b (outR a b 0) 0 0)) _ mu_f mu_c ab_xs ab_xs (.val (.slice none 0 0)) noR M w [va,vb] Tryz.func24 mu_bo (by rfl) (Nat.le_of_ble_eq_true mu_ln) hm0 hv fun a' hS=>?_) fun e w' ⟨u,e1,e2,e3⟩=>⟨u,e1,?_,e3⟩
  ·rw [mu_bg] at hS
   show holds _ [] a' w (.run mu_c)
   exact am_go hF (fun _ h=>by cases h) _ he hS fun ρ M' a' w' hS=>⟨.inr rfl,_,ρ,M',hS,hx⟩
  ·have e2:u = .slice none 0 0:=e2
   rw [e2]
   exact ⟨none,0,rfl,Nat.le_refl _,fun h=>absurd rfl h⟩
 by_cases ha0:a.length=0
 ·have he:mulL a b=[]:=if_pos (.inl (List.length_eq_zero_iff.1 ha0))
  rw [he]
  exact nilC (o:=.done .ret (stopS mu_r1)) ⟨rfl,mu_sm ha hb (by omega) (by omega),by simp [mu_F1,mu_V,ha0],mu_len,by simp [mu_F1],by simp [mu_F1],by simp [mu_F1],by simp [mu_F1],by simp [mu_F1]⟩ mu_e1 mu_x1
 by_cases hb0:b.length=0
 ·have he:mulL a b=[]:=if_pos (.inr (List.length_eq_zero_iff.1 hb0))
  rw [he]
  exact nilC (o:=.done .ret (stopS mu_r2)) ⟨rfl,mu_sm ha hb (by omega) (by omega),by simp [mu_F2,mu_V,hb0]; omega,mu_len,by simp [mu_F2],by simp [mu_F2],by simp [mu_F2],by simp [mu_F2],by simp [mu_F2]⟩ mu_e2 mu_x2
 have he:mulL a b=outR a b a.length:=if_neg (fun h=>by
  rcases h with h | h
  ·exact ha0 (by rw [h]; rfl)
  ·exact hb0 (by rw [h]; rfl))
 rw [he]
 refine @am_callsX (envD (mu_V a b (outR a b 0) 0 0)) _ mu_f mu_c ab_xs ab_xs (fun u w'=>(XP.rats (outR a b a.length)).p M w' [u]) noR M w [va,vb] Tryz.func24 mu_bo (by rfl) (Nat.le_of_ble_eq_true mu_ln) hm0 hv fun a' hS=>?_
 rw [mu_bg] at hS
 show holds _ [] a' w (.run mu_c)
 have F0:∀ {R:List Rat} {i j},i≤400000→j≤400000→FaOK (mu_V a b R i j) fa0:=fun h1 h2=>fa0_ok rfl (mu_sm ha hb h1 h2)
 have HF0:FaOK (mu_V a b (outR a b 0) 0 0) mu_F0:=⟨rfl,mu_sm ha hb (by omega) (by omega),by simp [mu_F0,mu_V]; omega,mu_len,by simp [mu_F0],by simp [mu_F0],by simp [mu_F0],by simp [mu_F0],by simp [mu_F0,mu_V]⟩
 refine am_goC HF0 (fun _ h=>by cases h) (mu_CallC ha hb (by omega)) _ mu_e0 hS fun ρ M' a' w' hS=>?_
 obtain ⟨ρ,M',hS⟩:=am_move (E':=envD (mu_V a b (outR a b 0) 0 0)) mu_d0 (mu_rd (fun p hp=>by
  simp only [mu_d0,List.mem_cons] at hp
  rcases hp with rfl | rfl | hp
  ·exact rd_Ic rfl
  ·exact rd_I rfl
  ·exact mu_cb p (by simpa [cb_P] using hp)) rfl ⟨mu_o,rfl,fun M w cs r=>r⟩ rfl) hm0 mu_m0 mu_b0 hS
 refine am_loop (fun i=>a.length - i) (fun i=>mu_V a b (outR a b i) i 0) (fun i=>i≤a.length) mu_s ?_ 0 (Nat.zero_le _) hS
 intro i hi ρ M' a' w' hS
 show holds _ [] a' w' (.run mu_b)
 by_cases hil:i<a.length
 ·have FA:∀ t,decide (a.getD i 0=0)=t→FaOK (mu_V a b (outR a b i) i 0) (mu_FA t):=fun t ht=>⟨rfl,mu_sm ha hb (by omega) (by omega),by simp [mu_FA,mu_V]; omega,mu_len,mu_bd sa sb,by
   intro x hx
   simp only [mu_FA,List.mem_singleton] at hx
   subst hx
   rw [← ht]
   have:qD (mu_V a b (outR a b i) i 0) mu_x=a.getD i 0:=by simp [mu_x,qD,lD,zD,mu_V]
   rw [this],by simp [mu_FA],by simp [mu_FA],by simp [mu_FA]⟩
  by_cases hx:a.getD i 0=0
  ·refine am_go (FA true (decide_eq_true hx)) (fun _ h=>by cases h) _ mu_eZ hS fun ρ M' a' w' hS=>?_
   obtain ⟨ρ,M',hS⟩:=am_move (E':=envD (mu_V a b (outR a b (i+1)) (i+1) 0)) mu_dN (mu_rd (fun p hp=>by
    simp only [mu_dN,List.mem_cons] at hp
    rcases hp with rfl | rfl | hp
    ·exact rd_I (by show (i:Int)+1=((i+1:Nat):Int)+0; omega)
    ·exact rd_I rfl
    ·exact mu_cb p (by simpa [cb_P] using hp)) rfl ⟨mu_o,rfl,fun M w cs r=>by rw [outR,hx,innR_zero]; exact r⟩ rfl) hm0 mu_mZ mu_bZ hS
   exact ⟨i+1,ρ,M',hil,by show a.length - (i+1)<a.length - i; omega,hS⟩
  ·refine am_go (FA false (decide_eq_false hx)) (fun _ h=>by cases h) _ mu_eA hS fun ρ M' a' w' hS=>?_
   obtain ⟨ρ,M',hS⟩:=am_move (E':=envD (mu_V a b (innR (outR a b i) (a.getD i 0) b i 0) i 0)) mu_dA (mu_rd (fun p hp=>by
    simp only [mu_dA,List.mem_cons] at hp
    rcases hp with rfl | rfl | rfl | rfl | rfl | hp
    ·exact rd_Ic rfl
    ·exact rd_Q rfl
    ·exact rd_I rfl
    ·exact rd_I rfl
    ·exact rd_I rfl
    ·exact mu_cb p (by simpa [cb_P] using hp)) rfl ⟨mu_o,rfl,fun M w cs r=>r⟩ rfl) hm0 mu_mA mu_bA hS
   refine am_loop (fun j=>b.length - j) (fun j=>mu_V a b (innR (outR a b i) (a.getD i 0) b i j) i j) (fun j=>j≤b.length) mu_s2 ?_ 0 (Nat.zero_le _) hS
   intro j hj ρ M' a' w' hS
   have hlen:(innR (outR a b i) (a.getD i 0) b i j).length=a.length+b.length - 1:=by rw [innR_len,outR_len]
   show holds _ [] a' w' (.run mu_b2)
   by_cases hjl:j<b.length
   ·have FB:FaOK (mu_V a b (innR (outR a b i) (a.getD i 0) b i j) i j) mu_FB:=⟨rfl,mu_sm ha hb (by omega) (by omega),by simp [mu_FB,mu_V]; omega,mu_len,mu_bd sa sb,by simp [mu_FB],by
     intro x hx
     simp only [mu_FB,List.mem_singleton] at hx
     subst hx
     show (((innR (outR a b i) (a.getD i 0) b i j).map some).length:Int)=(a.length:Int)+b.length - 1+0
     rw [List.length_map,hlen]
     omega,by
     intro x hx y hy
     simp only [mu_FB,List.mem_singleton] at hx
     subst hx
     change y∈(innR (outR a b i) (a.getD i 0) b i j).map some at hy
     obtain ⟨q,hq,rfl⟩:=List.mem_map.1 hy
     exact ⟨q,rfl,sR i hil j hjl q hq⟩,by simp [mu_FB,mu_V]⟩
    refine am_go FB (fun _ h=>by cases h) _ mu_eB hS fun ρ M' a' w' hS=>?_
    obtain ⟨ρ,M',hS⟩:=am_move (E':=envD (mu_V a b (innR (outR a b i) (a.getD i 0) b i (j+1)) i (j+1))) mu_dB (mu_rd (fun p hp=>by
     simp only [mu_dB,List.mem_cons] at hp
     rcases hp with rfl | rfl | rfl | rfl | rfl | hp
     ·exact rd_I (by show (j:Int)+1=((j+1:Nat):Int)+0; omega)
     ·exact rd_Q rfl
     ·exact rd_I rfl
     ·exact rd_I rfl
     ·exact rd_I rfl
     ·exact mu_cb p (by simpa [cb_P] using hp)) rfl ⟨_,rfl,fun M w cs r=>by
      change OptCells w (rD _ (.ap 41 (.v 1) (.ap 0 (.i 8 0) (.ap 52 mu_pr (.lit 179000001))))) cs at r
      rw [mu_step (by omega)] at r
      exact r⟩ rfl) hm0 mu_mB mu_bB hS
    exact ⟨j+1,ρ,M',hjl,by show b.length - (j+1)<b.length - j; omega,hS⟩
   ·have hjl:j=b.length:=by omega
    have FY:FaOK (mu_V a b (innR (outR a b i) (a.getD i 0) b i j) i j) mu_FY:=⟨rfl,mu_sm ha hb (by omega) (by omega),by simp [mu_FY,mu_V]; omega,mu_len,by simp [mu_FY],by simp [mu_FY],by simp [mu_FY],by simp [mu_FY],by simp [mu_FY]⟩
    refine am_go FY (fun _ h=>by cases h) _ mu_eY hS fun ρ M' a' w' hS=>?_
    show holds _ mu_k2 a' w' (.at_ (.ext 2))
    refine am_go (F0 (by omega) (by omega)) (fun _ h=>by cases h) _ mu_uY hS fun ρ M' a' w' hS=>?_
    obtain ⟨ρ,M',hS⟩:=am_move (E':=envD (mu_V a b (outR a b (i+1)) (i+1) 0)) mu_dN (mu_rd (fun p hp=>by
     simp only [mu_dN,List.mem_cons] at hp
     rcases hp with rfl | rfl | hp
     ·exact rd_I (by show (i:Int)+1=((i+1:Nat):Int)+0; omega)
     ·exact rd_I rfl
     ·exact mu_cb p (by simpa [cb_P] using hp)) rfl ⟨mu_o,rfl,fun M w cs r=>by rw [outR,← hjl]; exact r⟩ rfl) hm0 mu_mY mu_bY hS
    exact ⟨i+1,ρ,M',hil,by show a.length - (i+1)<a.length - i; omega,hS⟩
 ·have hil:i=a.length:=by omega
  have FX:FaOK (mu_V a b (outR a b i) i 0) mu_FX:=⟨rfl,mu_sm ha hb (by omega) (by omega),by simp [mu_FX,mu_V]; omega,mu_len,by simp [mu_FX],by simp [mu_FX],by simp [mu_FX],by simp [mu_FX],by simp [mu_FX]⟩
  refine am_go FX (fun _ h=>by cases h) _ mu_eX hS fun ρ M' a' w' hS=>?_
  show holds _ mu_k a' w' (.at_ (.ext 0))
  refine am_go (F0 (by omega) (by omega)) (fun _ h=>by cases h) _ mu_uX hS fun ρ M' a' w' hS=>?_
  obtain ⟨ρ,M',hS⟩:=am_move (E':=envD (mu_V a b (outR a b i) i 0)) mu_dx ⟨fun p hp=>(by cases hp),fun p hp=>(by cases hp),fun p hp=>(by cases hp),fun p hp M w g k cs hm hg hr hB hN=>by
   simp only [mu_dx,List.mem_singleton] at hp
   subst hp
   have hNj:(envD (mu_V a b (outR a b i) i 0)).N co_n=(outR a b i).length:=by
    show ((a.length:Int)+b.length - 1+0).toNat=(outR a b i).length
    rw [outR_len]
    omega
   rw [hNj] at hN
   show (XP.rats (outR a b i)).p M w [.slice (some ⟨g,0,none⟩) ((envD (mu_V a b (outR a b i) i 0)).N co_n) k]
   rw [hNj]
   change OptCells w ((outR a b i).map some) cs at hB
   exact ⟨_,k,rfl,hN,fun _=>⟨g,0,cs,rfl,hm,hg,hr,optCells_rat hB⟩⟩⟩ hm0 mu_mx mu_bx hS
  refine ⟨.inr rfl,envD (mu_V a b (outR a b i) i 0),_,ρ,M',_,aL (.v 10),hS,mu_resF,rfl,fun v hv=>?_⟩
  obtain ⟨_,_,_,_,_,_,_,_,_,Fsup,_⟩:=hS
  have h:=aL_out (V:=mu_V a b (outR a b i) i 0) (e:=.v 10) (ρ:=ρ) hv
  rw [hil] at h
  exact (XP.rats (outR a b a.length)).st M' M w' w' [v] (Grow.refl w') (fun _ _ _=>rfl) (fun b _ hb=>Fsup b hb) h
end
end Go.Proofs.YtgaehhapjnbieaaGreat
namespace Go.Proofs.YtgaehhapjnbieaaGreat
def conv (f g:Nat→Rat):Nat→Rat
 | 0=>f 0*g 0
 | k+1=>f 0*g (k+1)+conv (fun i=>f (i+1)) g k
theorem conv_last (f g:Nat→Rat):∀ k,conv f g (k+1)=conv f (fun i=>g (i+1)) k+f (k+1)*g 0:=by
 intro k
 induction k generalizing f with
 | zero=>simp only [conv]; try grind
 | succ k ih =>
  rw [conv,ih (fun i=>f (i+1)),conv]
  grind
theorem conv_comm (f g:Nat→Rat):∀ k,conv f g k=conv g f k:=by
 intro k
 induction k generalizing f with
 | zero=>simp only [conv]; grind
 | succ k ih =>
  rw [conv,conv_last g f,ih (fun i=>f (i+1))]
  grind
theorem conv_add (f f' g:Nat→Rat):∀ k,conv (fun i=>f i+f' i) g k=conv f g k+conv f' g k:=by
 intro k
 induction k generalizing f f' with
 | zero=>simp only [conv]; grind
 | succ k ih =>
  rw [conv,conv,conv,ih (fun i=>f (i+1)) (fun i=>f' (i+1))]
  grind
theorem conv_smul (c:Rat) (f g:Nat→Rat):∀ k,conv (fun i=>c*f i) g k=c*conv f g k:=by
 intro k
 induction k generalizing f with
 | zero=>simp only [conv]; grind
 | succ k ih =>
  rw [conv,conv,ih (fun i=>f (i+1))]
  grind
theorem conv_congr {f f' g g':Nat→Rat}:∀ {k:Nat},(∀ i,i≤k→f i=f' i)→(∀ i,i≤k→g i=g' i)→conv f g k=conv f' g' k:=by
 intro k
 induction k generalizing f f' with
 | zero=>intro h1 h2; simp only [conv]; rw [h1 0 (Nat.le_refl _),h2 0 (Nat.le_refl _)]
 | succ k ih =>
  intro h1 h2
  rw [conv,conv,h1 0 (Nat.zero_le _),h2 (k+1) (Nat.le_refl _),ih (f:=fun i=>f (i+1)) (f':=fun i=>f' (i+1)) (fun i hi=>h1 (i+1) (by omega)) (fun i hi=>h2 i (by omega))]
theorem conv_assoc (f g h:Nat→Rat):∀ k,conv (conv f g) h k=conv f (conv g h) k:=by
 intro k
 induction k generalizing f with
 | zero=>simp only [conv]; grind
 | succ k ih =>
  have e:∀ i,conv f g (i+1)=f 0*g (i+1)+conv (fun j=>f (j+1)) g i:=fun i=>rfl
  have h1:conv (conv f g) h (k+1)=f 0*g 0*h (k+1)+conv (fun i=>f 0*g (i+1)+conv (fun j=>f (j+1)) g i) h k:=by
   rw [conv]
   congr 1
  have h2:conv f (conv g h) (k+1)=f 0*(g 0*h (k+1)+conv (fun i=>g (i+1)) h k)+conv (fun i=>f (i+1)) (conv g h) k:=rfl
  rw [h1,h2,conv_add (fun i=>f 0*g (i+1)) (fun i=>conv (fun j=>f (j+1)) g i),conv_smul (f 0) (fun i=>g (i+1)),← ih (fun i=>f (i+1))]
  grind
theorem conv_add_r (f g g':Nat→Rat) (k:Nat):conv f (fun i=>g i+g' i) k=conv f g k+conv f g' k:=by
 rw [conv_comm,conv_add,conv_comm g,conv_comm g']
theorem conv_smul_r (c:Rat) (f g:Nat→Rat) (k:Nat):conv f (fun i=>c*g i) k=c*conv f g k:=by
 rw [conv_comm,conv_smul,conv_comm g]
theorem conv_zero (g:Nat→Rat):∀ k,conv (fun _=>0) g k=0
 | 0=>by simp only [conv]; grind
 | k+1=>by rw [conv,conv_zero g k]; grind
theorem conv_top0 {f g:Nat→Rat} (hf:∀ i,0<i→f i=0):∀ q,conv f g q=f 0*g q
 | 0=>rfl
 | q+1=>by
  rw [conv,show conv (fun i=>f (i+1)) g q=0 from (conv_congr (fun i _=>hf (i+1) (by omega)) (fun _ _=>rfl)).trans (conv_zero g q)]
  grind
theorem conv_top {g:Nat→Rat} {q:Nat} (hg:∀ i,q<i→g i=0):∀ (p:Nat) (f:Nat→Rat),(∀ i,p<i→f i=0)→conv f g (p+q)=f p*g q
 | 0,f,hf=>by rw [Nat.zero_add]; exact conv_top0 hf q
 | p+1,f,hf=>by
  rw [show p+1+q=(p+q)+1 by omega,conv,conv_top hg p (fun i=>f (i+1)) (fun i hi=>hf (i+1) (by omega)),hg (p+q+1) (by omega)]
  grind
theorem conv_single {g:Nat→Rat} (x:Rat):∀ (k m:Nat),conv (fun i=>if i=m then x else 0) g k=if m≤k then x*g (k - m) else 0
 | 0,m=>by
  simp only [conv]
  by_cases h:m=0
  ·subst h; simp
  ·rw [if_neg (fun e=>h e.symm),if_neg (by omega)]; grind
 | k+1,0=>by
  rw [conv,show conv (fun i=>if i+1=0 then x else 0) g k=0 from (conv_congr (fun i _=>if_neg (by omega)) (fun _ _=>rfl)).trans (conv_zero g k)]
  simp
  grind
 | k+1,m+1=>by
  have h:=conv_single (g:=g) x k m
  have e:conv (fun i=>if i+1=m+1 then x else 0) g k=conv (fun i=>if i=m then x else 0) g k:=conv_congr (fun i _=>by by_cases h:i=m <;> simp [h]) (fun _ _=>rfl)
  rw [conv,e,h,if_neg (by omega)]
  by_cases h2:m≤k
  ·rw [if_pos h2,if_pos (by omega),show k+1 - (m+1)=k - m by omega]; grind
  ·rw [if_neg h2,if_neg (by omega)]; grind
end Go.Proofs.YtgaehhapjnbieaaGreat
namespace Go.Proofs.YtgaehhapjnbieaaGreat
def cf (l:List Rat) (k:Nat):Rat:=l.getD k 0
def Trimmed (l:List Rat):Prop:=l=[] ∨ cf l (l.length - 1)≠0
theorem cf_out {l:List Rat} {k:Nat} (h:l.length≤k):cf l k=0:=by
 unfold cf
 rw [List.getD_eq_getElem?_getD,List.getElem?_eq_none h]
 rfl
theorem cf_in {l:List Rat} {k:Nat} (h:k<l.length):cf l k=l[k]:=by
 unfold cf
 rw [List.getD_eq_getElem?_getD,List.getElem?_eq_getElem h]
 rfl
theorem Trimmed.ext {l m:List Rat} (hl:Trimmed l) (hm:Trimmed m) (h:∀ k,cf l k=cf m k):l=m:=by
 have key:∀ {l m:List Rat},Trimmed m→(∀ k,cf l k=cf m k)→m.length≤l.length:=fun {l m} hm h=>by
  rcases hm with rfl | hm
  ·exact Nat.zero_le _
  ·rcases Nat.lt_or_ge l.length m.length with hlt | hge
   ·exact absurd ((h (m.length - 1)).symm.trans (cf_out (by omega))) hm
   ·exact hge
 have e:l.length=m.length:=Nat.le_antisymm (key hl fun k=>(h k).symm) (key hm h)
 apply List.ext_getElem e
 intro k h1 h2
 have:=h k
 rwa [cf_in h1,cf_in h2] at this
theorem trim_at (l:List Rat):∀ m,m≤l.length→(∀ i,m≤i→cf l i=0)→∃ n,n≤l.length∧(∀ i,n≤i→cf l i=0)∧(n=0 ∨ cf l (n - 1)≠0)
 | 0,h,hz=>⟨0,h,hz,.inl rfl⟩
 | m+1,h,hz=>by
  by_cases h0:cf l m=0
  ·exact trim_at l m (by omega) fun i hi=>if e:i=m then e ▸ h0 else hz i (by omega)
  ·exact ⟨m+1,h,hz,.inr h0⟩
theorem trimC_cf (l:List Rat):Trimmed (trimC l)∧∀ k,cf (trimC l) k=cf l k:=by
 obtain ⟨n,hn,hz,ht⟩:=trim_at l l.length (Nat.le_refl _) fun i hi=>cf_out hi
 rw [← trimC_take hn hz ht]
 have hc:∀ k,cf (l.take n) k=cf l k:=fun k=>by
  by_cases hk:k<n
  ·rw [cf_in (by rw [List.length_take]; omega),cf_in (by omega),List.getElem_take]
  ·rw [cf_out (by rw [List.length_take]; omega),hz k (by omega)]
 refine ⟨?_,hc⟩
 rcases ht with rfl | ht
 ·exact .inl (by simp)
 ·refine .inr ?_
  rw [hc,List.length_take,Nat.min_eq_left hn]
  exact ht
theorem cf_map {f:Nat→Rat} {n k:Nat} (h:n≤k→f k=0):cf ((List.range n).map f) k=f k:=by
 by_cases hk:k<n
 ·rw [cf_in (by simpa using hk)]
  simp
 ·rw [cf_out (by simpa using hk),h (by omega)]
theorem addC_cf (a b:List Rat):Trimmed (addC a b)∧∀ k,cf (addC a b) k=cf a k+cf b k:=by
 refine ⟨(trimC_cf _).1,fun k=>?_⟩
 unfold addC
 rw [(trimC_cf _).2,cf_map fun h=>?_]
 ·rfl
 ·show cf a k+cf b k=0
  rw [cf_out (by omega),cf_out (by omega)]
  grind
theorem subC_cf (a b:List Rat):Trimmed (subC a b)∧∀ k,cf (subC a b) k=cf a k - cf b k:=by
 refine ⟨(trimC_cf _).1,fun k=>?_⟩
 unfold subC
 rw [(trimC_cf _).2,cf_map fun h=>?_]
 ·rfl
 ·show cf a k - cf b k=0
  rw [cf_out (by omega),cf_out (by omega)]
  grind
theorem scaleC_cf (a:List Rat) (c:Rat):Trimmed (scaleC a c)∧∀ k,cf (scaleC a c) k=c*cf a k:=by
 refine ⟨(trimC_cf _).1,fun k=>?_⟩
 unfold scaleC
 rw [(trimC_cf _).2]
 by_cases hk:k<a.length
 ·rw [cf_in (by simpa using hk),cf_in hk]
  simp
 ·rw [cf_out (by simpa using hk),cf_out (by omega)]
  grind
theorem cf_set {R:List Rat} {p k:Nat} {y:Rat} (hp:p<R.length):cf (R.set p y) k=if k=p then y else cf R k:=by
 unfold cf
 rw [List.getD_eq_getElem?_getD,List.getD_eq_getElem?_getD,List.getElem?_set]
 by_cases h:p=k
 ·subst h
  simp [hp]
 ·rw [if_neg h,if_neg (fun e=>h e.symm)]
theorem innR_cf {R:List Rat} {x:Rat} {b:List Rat} {i:Nat}:∀ {j:Nat},i+j≤R.length→∀ k,cf (innR R x b i j) k=cf R k+(if i≤k∧k<i+j then x*cf b (k - i) else 0)
 | 0,_,k=>by
  rw [if_neg (by omega)]
  show cf R k=_
  grind
 | j+1,h,k=>by
  have ih:=innR_cf (R:=R) (x:=x) (b:=b) (i:=i) (j:=j) (by omega)
  rw [innR,cf_set (by rw [innR_len]; omega)]
  by_cases hk:k=i+j
  ·subst hk
   rw [if_pos rfl,if_pos ⟨by omega,by omega⟩]
   show cf (innR R x b i j) (i+j)+x*cf b j=_
   rw [ih,if_neg (by omega),show i+j - i=j by omega]
   grind
  ·rw [if_neg hk,ih]
   by_cases h2:i≤k∧k<i+j
   ·rw [if_pos h2,if_pos ⟨h2.1,by omega⟩]
   ·rw [if_neg h2,if_neg (by omega)]
theorem outR_cf {a b:List Rat}:∀ {m:Nat},m≤a.length→∀ k,cf (outR a b m) k=conv (fun i=>if i<m then cf a i else 0) (cf b) k
 | 0,_,k=>by
  rw [show conv (fun i=>if i<0 then cf a i else 0) (cf b) k=0 from (conv_congr (fun i _=>if_neg (by omega)) (fun _ _=>rfl)).trans (conv_zero _ k)]
  unfold outR cf
  rw [List.getD_eq_getElem?_getD,List.getElem?_replicate]
  split <;> rfl
 | m+1,h,k=>by
  have hle:m+b.length≤(outR a b m).length:=by rw [outR_len]; omega
  have e:conv (fun i=>if i<m+1 then cf a i else 0) (cf b) k=conv (fun i=>(if i<m then cf a i else 0)+(if i=m then cf a m else 0)) (cf b) k:=conv_congr (fun i _=>by
   by_cases h1:i<m
   ·rw [if_pos (by omega),if_pos h1,if_neg (by omega)]; grind
   ·by_cases h2:i=m
    ·subst h2; rw [if_pos (by omega),if_neg h1,if_pos rfl]; grind
    ·rw [if_neg (by omega),if_neg h1,if_neg h2]; grind) (fun _ _=>rfl)
  rw [e,conv_add,← outR_cf (by omega),conv_single,outR,innR_cf hle]
  congr 1
  show (if m≤k∧k<m+b.length then cf a m*cf b (k - m) else 0)=_
  by_cases h1:m≤k
  ·by_cases h2:k<m+b.length
   ·rw [if_pos ⟨h1,h2⟩,if_pos h1]
   ·rw [if_neg (by omega),if_pos h1,cf_out (l:=b) (k:=k - m) (by omega)]
    grind
  ·rw [if_neg (by omega),if_neg h1]
theorem mulL_cf (a b:List Rat):∀ k,cf (mulL a b) k=conv (cf a) (cf b) k:=by
 intro k
 unfold mulL
 split
 ·rename_i h
  rw [cf_out (l:=[]) (Nat.zero_le _)]
  rcases h with rfl | rfl
  ·exact ((conv_congr (fun i _=>cf_out (Nat.zero_le _)) (fun _ _=>rfl)).trans (conv_zero _ k)).symm
  ·rw [conv_comm]
   exact ((conv_congr (fun i _=>cf_out (Nat.zero_le _)) (fun _ _=>rfl)).trans (conv_zero _ k)).symm
 ·rw [outR_cf (Nat.le_refl _)]
  refine conv_congr (fun i _=>?_) (fun _ _=>rfl)
  by_cases h:i<a.length
  ·rw [if_pos h]
  ·rw [if_neg h,cf_out (by omega)]
theorem mulL_len {a b:List Rat} (ha:a≠[]) (hb:b≠[]):(mulL a b).length=a.length+b.length - 1:=by
 unfold mulL
 rw [if_neg (by rintro (h | h); exact ha h; exact hb h),outR_len]
theorem mulL_trimmed {a b:List Rat} (ha:Trimmed a) (hb:Trimmed b):Trimmed (mulL a b):=by
 rcases ha with rfl | ha
 ·exact .inl (if_pos (.inl rfl))
 rcases hb with rfl | hb
 ·exact .inl (if_pos (.inr rfl))
 have ha0:a≠[]:=fun e=>ha (by rw [e]; rfl)
 have hb0:b≠[]:=fun e=>hb (by rw [e]; rfl)
 refine .inr ?_
 have la:=List.length_pos_iff.2 ha0
 have lb:=List.length_pos_iff.2 hb0
 rw [mulL_len ha0 hb0,mulL_cf,show a.length+b.length - 1 - 1=(a.length - 1)+(b.length - 1) by omega,conv_top (fun i hi=>cf_out (by omega)) _ _ (fun i hi=>cf_out (by omega))]
 intro h
 rcases Rat.mul_eq_zero.1 h with h | h
 ·exact ha h
 ·exact hb h
section
variable {a b c : List Rat} {x : Rat}
theorem addC_comm:addC a b=addC b a:=(addC_cf a b).1.ext (addC_cf b a).1 fun k=>by rw [(addC_cf a b).2,(addC_cf b a).2]; grind
theorem mulL_assoc (ha:Trimmed a) (hb:Trimmed b) (hc:Trimmed c):mulL (mulL a b) c=mulL a (mulL b c):=(mulL_trimmed (mulL_trimmed ha hb) hc).ext (mulL_trimmed ha (mulL_trimmed hb hc)) fun k=>by
 rw [mulL_cf,mulL_cf]
 exact (conv_congr (fun i _=>mulL_cf a b i) (fun _ _=>rfl)).trans ((conv_assoc _ _ _ k).trans (conv_congr (fun _ _=>rfl) (fun i _=>(mulL_cf b c i).symm)))
theorem mulL_add (hc:Trimmed c):mulL (addC a b) c=addC (mulL a c) (mulL b c):=(mulL_trimmed (addC_cf a b).1 hc).ext (addC_cf _ _).1 fun k=>by
 rw [(addC_cf _ _).2,mulL_cf,mulL_cf,mulL_cf,← conv_add]
 exact conv_congr (fun i _=>(addC_cf a b).2 i) (fun _ _=>rfl)
end
end Go.Proofs.YtgaehhapjnbieaaGreat
namespace Go.Proofs.YtgaehhapjnbieaaGreat
open Go.RowKit
theorem RSm_cf {l:List Rat} {p:Nat} (hp:1≤p) (h:∀ x∈l,RSm x p) (k:Nat):RSm (cf l k) p:=by
 unfold cf
 rw [List.getD_eq_getElem?_getD]
 cases hg:l[k]? with
 | none=>exact rsm0.mono hp
 | some x=>exact h x (List.mem_of_getElem? hg)
theorem RSm_of_cf {l:List Rat} {p:Nat} (h:∀ k,RSm (cf l k) p):∀ x∈l,RSm x p:=fun x hx=>by
 obtain ⟨k,hk,rfl⟩:=List.getElem_of_mem hx
 rw [← cf_in hk]
 exact h k
section
variable {a b : List Rat} {p q : Nat}
theorem innR_bd {R:List Rat} {x:Rat} {i j B:Nat} (hq:1≤q) (hR:∀ k,RSm (cf R k) B) (hx:RSm x p) (sb:∀ y∈b,RSm y q) (hj:i+j≤R.length) (k:Nat):RSm (cf (innR R x b i j) k) (B+(p+q)+1):=by
 rw [innR_cf hj]
 refine (hR k).add (j:=p+q) ?_
 split
 ·exact hx.mul (RSm_cf hq sb _)
 ·exact rsm0.mono (by omega)
theorem outR_bd (hp:1≤p) (hq:1≤q) (sa:∀ x∈a,RSm x p) (sb:∀ y∈b,RSm y q):∀ i,i≤a.length→∀ k,RSm (cf (outR a b i) k) (1+i*(p+q+1))
 | 0,_,k=>by
  have e:cf (outR a b 0) k=0:=by
   unfold outR cf
   rw [List.getD_eq_getElem?_getD,List.getElem?_replicate]
   split <;> rfl
  rw [e]
  exact rsm0.mono (by omega)
 | i+1,hi,k=>by
  rw [outR]
  refine (innR_bd hq (outR_bd hp hq sa sb i (by omega)) (RSm_cf hp sa i) sb ?_ k).mono ?_
  ·rw [outR_len]; omega
  ·rw [Nat.add_mul]; omega
theorem mulI_bd (hp:1≤p) (hq:1≤q) (sa:∀ x∈a,RSm x p) (sb:∀ y∈b,RSm y q):∀ i,i<a.length→∀ j,j<b.length→∀ x∈innR (outR a b i) (a.getD i 0) b i j,RSm x (1+a.length*(p+q+1)):=fun i hi j hj=>RSm_of_cf fun k=>by
 refine (innR_bd hq (outR_bd hp hq sa sb i (by omega)) (RSm_cf hp sa i) sb (by rw [outR_len]; omega) k).mono ?_
 have:(i+1)*(p+q+1)≤a.length*(p+q+1):=Nat.mul_le_mul_right _ hi
 rw [Nat.add_mul] at this
 omega
end
end Go.Proofs.YtgaehhapjnbieaaGreat
namespace Go.Proofs.YtgaehhapjnbieaaGreat
open Go.RowKit
theorem trimC_len (l:List Rat):(trimC l).length≤l.length:=by
 obtain ⟨n,hn,hz,ht⟩:=trim_at l l.length (Nat.le_refl _) fun i hi=>cf_out hi
 rw [← trimC_take hn hz ht,List.length_take]
 omega
theorem addC_len (a b:List Rat):(addC a b).length≤max a.length b.length:=by
 have:=trimC_len ((List.range (max a.length b.length)).map fun i=>a.getD i 0+b.getD i 0)
 unfold addC
 simpa using this
theorem mulL_le (a b:List Rat):(mulL a b).length≤a.length+b.length:=by
 unfold mulL
 split
 ·exact Nat.zero_le _
 ·rw [outR_len]; omega
def pd_X:List AV:=[.ext 1 false (.ap 56 (.v 3) (.lit 0)),.ext 1 false (.ap 56 (.v 4) (.lit 0)),.ext 1 false (.ap 56 (.v 5) (.lit 0)),.ext 1 false (.ap 55 (.i 6 0) (.lit 0)),.ext 1 false (.ap 55 (.i 7 0) (.lit 0))]
def pd_P:List (AV × AV):=pd_X.map fun a=>(a,a)
noncomputable def pd_san:PE:=peOf 10 [] [] (.val (.bool true))
noncomputable def pd_made:PE:=peOf 11 pd_P [.agg pd_X] (.tup [aL (.v 0),aL (.v 1),aL (.v 2)])
set_option maxRecDepth 100000
section
variable {a b c A B C : List Rat} {x : Rat} {x0 x1 : Int}
end
end Go.Proofs.YtgaehhapjnbieaaGreat
namespace Go.Proofs.YtgaehhapjnbieaaGreat
section
variable {a b : List Rat} {c z : Rat}
end
end Go.Proofs.YtgaehhapjnbieaaGreat
