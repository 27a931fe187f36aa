/- An abstract machine: contracts of functions, and loops. -/
import Derived.Test.YtgaehhapjnbieaaGreatqVk
import Derived.Test.YtgaehhapjnbieaaGreatqVm
set_option linter.unusedSectionVars false
set_option linter.unusedVariables false
set_option linter.unusedSimpArgs false
namespace Go.Proofs.YtgaehhapjnbieaaGreat
open Go.RowKit
abbrev noR : Rho := fun _ => none
section
variable [Env]
noncomputable def endA (fn : Func) (s : Fm) : Option AV := match resA s fn.results.toList with
  | some l => match outA l with
    | some r => renV (fun _ => none) r
    | none => none
  | none => none
def FS0 (W0 : World) (M0 : Nat → Prop) (s : Fm) (ρ : Rho) (M : Nat → Prop) (a : Act) (w : World) : Prop := FS (fun b => W0.heap.size ≤ b) W0 noR M0 [] 16 s ρ M a w
def OutF (fn : Func) (r : AV) (W0 : World) (M0 : Nat → Prop) (e : Exit) (a : Act) (w : World) : Prop := (e = .normal ∨ e = .ret) ∧ ∃ s ρ M, FS0 W0 M0 s ρ M a w ∧ endA fn s = some r
theorem am_calls {f : Nat} {fn : Func} {c : Code} {xs xs' : List AV} {r : AV} {ρ : Rho} {M : Nat → Prop} {w : World} {vs : List Value} (hf : Tryz.prog.funcs[f]? = some fn) (hb : fn.body = some c) (hx : renL (fun _ => none) xs = some xs') (hlen : xs'.length ≤ fn.ntmps) (hbnd : ∀ b, M b → b < w.heap.size) (hv : RVs ρ M w xs vs)
    (h : ∀ a, FS0 w M ⟨xs' ++ List.replicate (fn.ntmps - xs'.length) (.val undef), [], 16, []⟩ noR M a w → c.wp Tryz.prog (OutF fn r w M) a w) :
    Calls Tryz.prog f vs.toArray w fun e w' => ∃ v, e = .returned v ∧ RV ρ M w' r v ∧ Below w.heap.size w w' := by
  have hv : RVs noR M w xs' vs := ren_rvs (σ := fun _ => none) (fun _ _ _ e => by cases e) (fun _ h => h) hx hv
  refine calls_of_wp hf hb (Code.wp_mono ?_ (h { tmps := vs.toArray ++ Array.replicate (fn.ntmps - vs.toArray.size) undef, defers := [] } ?_))
  · intro e a' w' ⟨he, s, ρ', M', hF, hr⟩
    unfold endA at hr
    split at hr
    · rename_i l hl
      split at hr
      · rename_i r0 hr0
        obtain ⟨v, e1, e2⟩ := results_sound hF (fun _ h => h) hl hr0
        have e3 : RV ρ M w' r v := ren_rv (σ := fun _ => none) (fun _ _ _ e => by cases e) hF.sup hr e2
        have hfin : a'.defers = [] ∧ ∃ v, (results fn a'.tmps).run Tryz.prog w' = .ok v w' ∧ ∃ u, Ending.returned v = .returned u ∧ RV ρ M w' r u ∧ Below w.heap.size w w' := ⟨hF.defers, v, e1, v, rfl, e3, ⟨hF.fr.os, hF.fr.tape, hF.fr.output, hF.fr.size, fun b hb => hF.fr.keep b hb (by omega)⟩⟩
        rcases he with rfl | rfl
        · exact hfin
        · exact hfin
      · cases hr
    · cases hr
  · have hvl : vs.length = xs'.length := hv.len
    refine ⟨by simp [hvl], rfl, fun t x hx => ?_, ⟨fun o b e => (by cases e), fun o o' b b' g c c' e => (by cases e)⟩, fun o p e => (by cases e), Nat.le_refl _, hbnd, FrA.refl _ _, Tr.refl _ _ _, fun _ h => h, fun _ h => .inl h, fun o p e => .inl e, fun o _ _ => ⟨rfl, fun _ _ _ e => (by cases e)⟩⟩
    have hx : (xs' ++ List.replicate (fn.ntmps - xs'.length) (.val undef))[t]? = some x := hx
    show ∃ v, (vs.toArray ++ Array.replicate (fn.ntmps - vs.toArray.size) undef)[t]? = some v ∧ _
    rw [List.getElem?_append] at hx
    split at hx
    · rename_i hlt
      obtain ⟨v, e, k⟩ := hv.get hx
      exact ⟨v, by rw [Array.getElem?_append_left (by simp [hvl, hlt])]; simpa using e, k.rv⟩
    · rename_i hge
      rw [List.getElem?_replicate] at hx
      split at hx
      · cases hx
        refine ⟨undef, ?_, rfl⟩
        rw [Array.getElem?_append_right (by simp [hvl]; omega), Array.getElem?_replicate, if_pos]
        simp [hvl]
        omega
      · cases hx
end
section
variable {E : Env} {T : Tb} {pl : List Nat} {n : Nat} {c : Code} {s : Fm} {W0 : World} {M0 : Nat → Prop} {ρ : Rho} {M : Nat → Prop} {a : Act} {w : World} {Q : Exit → Act → World → Prop}
theorem am_loop {γ : Type} (μ : γ → Nat) (V : γ → VL) (I : γ → Prop) (sI : Fm) (round : ∀ g, I g → ∀ ρ M a w, @FS0 (envD (V g)) W0 M0 sI ρ M a w → c.wp Tryz.prog (Exit.then (fun a' w' => ∃ g' ρ' M', I g' ∧ μ g' < μ g ∧ @FS0 (envD (V g')) W0 M0 sI ρ' M' a' w') Q) a w)
    (g : γ) (hI : I g) (hF : @FS0 (envD (V g)) W0 M0 sI ρ M a w) : (Code.loop c).wp Tryz.prog Q a w := by
  refine loop_ghost (fun g a w => I g ∧ ∃ ρ M, @FS0 (envD (V g)) W0 M0 sI ρ M a w) μ ?_ g ⟨hI, ρ, M, hF⟩
  intro g a w ⟨hI, ρ, M, hF⟩
  refine Code.wp_mono ?_ (round g hI ρ M a w hF)
  intro e a' w' he
  cases e <;> first | exact he | skip
  obtain ⟨g', ρ', M', h1, h2, h3⟩ := he
  exact ⟨g', ⟨h1, ρ', M', h3⟩, h2⟩
theorem am_move {E E' : Env} {s s' : Fm} (d : Rd) (hd : RdOK E E' d) (hm0 : ∀ b, M0 b → b < W0.heap.size) (h : wkF d 16 s s' = true) (hb : below 16 s'.H = below 16 s.H) (hF : @FS0 E W0 M0 s ρ M a w) : ∃ ρ' M', @FS0 E' W0 M0 s' ρ' M' a w :=
  ⟨_, _, FS.move hd (fun o p e => by cases e) hm0 (.inr fun b h => .inl h) h hb hF⟩
end
end Go.Proofs.YtgaehhapjnbieaaGreat
namespace Go.Proofs.YtgaehhapjnbieaaGreat
open Go.RowKit
def q2 (k lim : Nat) (bnd : Nat → Nat → Nat) : List AV → Option AV
  | [x, y] => match numA x, numA y with
    | some p, some q => if Nat.ble p.2 lim && Nat.ble q.2 lim then some (aQ (.ap k p.1 q.1) (bnd p.2 q.2)) else none
    | _, _ => none
  | _ => none
def q1 (k lim : Nat) (bnd : Nat → Nat) : List AV → Option AV
  | [x] => match numA x with
    | some p => if Nat.ble p.2 lim then some (aQ (.ap k p.1 (.lit 0)) (bnd p.2)) else none
    | none => none
  | _ => none
def qs1 (lim : Nat) : List AV → Option AV
  | [x] => match numA x with
    | some p => if Nat.ble p.2 lim then some (aS p.1) else none
    | none => none
  | _ => none
def qs2 (lim : Nat) : List AV → Option AV
  | [x, y] => match numA x, numA y with
    | some p, some q => if Nat.ble p.2 lim && Nat.ble q.2 lim then some (aS (.ap 32 p.1 q.1)) else none
    | _, _ => none
  | _ => none
def orG (g h : List AV → Option AV) : List AV → Option AV := fun xs => match g xs with
  | some r => some r
  | none => h xs
def qw (F : Fa) : List AV → Option AV
  | [x] => match intA x with
    | some i => if smI i.2 then some (aQ (.ap 37 (.i i.1 i.2) (.lit 0)) 2) else none
    | none => none
  | _ => none
theorem cmpR_sub0 (x y : Rat) : cmpR (x - y) 0 = cmpR x y := by
  unfold cmpR
  by_cases h1 : x < y
  · have : x - y < 0 := by grind
    simp [h1, this]
  · by_cases h2 : x = y
    · subst h2
      have : x - x = 0 := by grind
      simp [this]
    · have h3 : ¬ x - y < 0 := by grind
      have h4 : ¬ x - y = 0 := by grind
      simp [h1, h2, h3, h4]
section
variable {V : VL} {F : Fa} {f k lim : Nat}
theorem orG_ok {E : Env} {g h : List AV → Option AV} (hg : @PE.ok E ⟨f, g⟩) (hh : @PE.ok E ⟨f, h⟩) : @PE.ok E ⟨f, orG g h⟩ := by
  intro xs r e
  have e : orG g h xs = some r := e
  unfold orG at e
  split at e
  · rename_i r' hr
    cases e
    exact hg xs r hr
  · exact hh xs r e
theorem q2_ok {bnd : Nat → Nat → Nat} (pl : Plainly f) (h : ∀ a b i j va vb w, (ratF (qD V a)).p va w → (ratF (qD V b)).p vb w → RSm (qD V a) i → RSm (qD V b) j → i ≤ lim → j ≤ lim → Calls Tryz.prog f #[va, vb] w (GivesP (ratF (qD V (.ap k a b))) w) ∧ RSm (qD V (.ap k a b)) (bnd i j)) : @PE.ok (envD V) ⟨f, q2 k lim bnd⟩ := by
  intro xs r e
  change q2 k lim bnd xs = some r at e
  refine ⟨pl, fun ρ M w vs _ hv => ?_⟩
  unfold q2 at e
  split at e
  · rename_i x y
    split at e
    · rename_i p q hp hq
      split at e
      · rename_i hc
        rw [Bool.and_eq_true] at hc
        cases e
        obtain ⟨va, _, rfl, h1, vb, _, rfl, h2, h3⟩ := hv
        have h3 : _ = [] := h3
        subst h3
        obtain ⟨a1, a2⟩ := numA_sound hp (@RV1.rv (envD V) ρ M w _ _ h1)
        obtain ⟨b1, b2⟩ := numA_sound hq (@RV1.rv (envD V) ρ M w _ _ h2)
        obtain ⟨hc, hs⟩ := h p.1 q.1 p.2 q.2 va vb w a1 b1 a2 b2 (Nat.le_of_ble_eq_true hc.1) (Nat.le_of_ble_eq_true hc.2)
        exact Calls.mono hc fun e w' ⟨v, e1, e2, e3⟩ => ⟨v, e1, @RV1.rv (envD V) ρ M w' _ _ (aQ_in e2 hs), e3⟩
      · cases e
    · cases e
  · cases e
theorem q1_ok {bnd : Nat → Nat} (pl : Plainly f) (h : ∀ a i va w, (ratF (qD V a)).p va w → RSm (qD V a) i → i ≤ lim → Calls Tryz.prog f #[va] w (GivesP (ratF (qD V (.ap k a (.lit 0)))) w) ∧ RSm (qD V (.ap k a (.lit 0))) (bnd i)) : @PE.ok (envD V) ⟨f, q1 k lim bnd⟩ := by
  intro xs r e
  change q1 k lim bnd xs = some r at e
  refine ⟨pl, fun ρ M w vs _ hv => ?_⟩
  unfold q1 at e
  split at e
  · rename_i x
    split at e
    · rename_i p hp
      split at e
      · rename_i hc
        cases e
        obtain ⟨va, _, rfl, h1, h3⟩ := hv
        have h3 : _ = [] := h3
        subst h3
        obtain ⟨a1, a2⟩ := numA_sound hp (@RV1.rv (envD V) ρ M w _ _ h1)
        obtain ⟨hc, hs⟩ := h p.1 p.2 va w a1 a2 (Nat.le_of_ble_eq_true hc)
        exact Calls.mono hc fun e w' ⟨v, e1, e2, e3⟩ => ⟨v, e1, @RV1.rv (envD V) ρ M w' _ _ (aQ_in e2 hs), e3⟩
      · cases e
    · cases e
  · cases e
theorem aS_in {ρ : Rho} {M : Nat → Prop} {w : World} {q : CE} {v : Value} (h : (eqF (.int .i64 (cmpR (qD V q) 0))).p v w) : @RV (envD V) ρ M w (aS q) v := by
  have h : v = .int .i64 (cmpR (qD V q) 0) := h
  show @Rp (envD V) ρ M w (aS q) [v]
  unfold Rp
  exact ⟨rfl, by rw [h]; rfl⟩
theorem qs1_ok (pl : Plainly f) (h : ∀ a i va w, (ratF (qD V a)).p va w → RSm (qD V a) i → i ≤ lim → Calls Tryz.prog f #[va] w (GivesP (eqF (.int .i64 (cmpR (qD V a) 0))) w)) : @PE.ok (envD V) ⟨f, qs1 lim⟩ := by
  intro xs r e
  change qs1 lim xs = some r at e
  refine ⟨pl, fun ρ M w vs _ hv => ?_⟩
  unfold qs1 at e
  split at e
  · rename_i x
    split at e
    · rename_i p hp
      split at e
      · rename_i hc
        cases e
        obtain ⟨va, _, rfl, h1, h3⟩ := hv
        have h3 : _ = [] := h3
        subst h3
        obtain ⟨a1, a2⟩ := numA_sound hp (@RV1.rv (envD V) ρ M w _ _ h1)
        exact Calls.mono (h p.1 p.2 va w a1 a2 (Nat.le_of_ble_eq_true hc)) fun e w' ⟨v, e1, e2, e3⟩ => ⟨v, e1, aS_in e2, e3⟩
      · cases e
    · cases e
  · cases e
theorem qs2_ok (pl : Plainly f) (h : ∀ a b i j va vb w, (ratF (qD V a)).p va w → (ratF (qD V b)).p vb w → RSm (qD V a) i → RSm (qD V b) j → i ≤ lim → j ≤ lim → Calls Tryz.prog f #[va, vb] w (GivesP (eqF (.int .i64 (cmpR (qD V a) (qD V b)))) w)) : @PE.ok (envD V) ⟨f, qs2 lim⟩ := by
  intro xs r e
  change qs2 lim xs = some r at e
  refine ⟨pl, fun ρ M w vs _ hv => ?_⟩
  unfold qs2 at e
  split at e
  · rename_i x y
    split at e
    · rename_i p q hp hq
      split at e
      · rename_i hc
        rw [Bool.and_eq_true] at hc
        cases e
        obtain ⟨va, _, rfl, h1, vb, _, rfl, h2, h3⟩ := hv
        have h3 : _ = [] := h3
        subst h3
        obtain ⟨a1, a2⟩ := numA_sound hp (@RV1.rv (envD V) ρ M w _ _ h1)
        obtain ⟨b1, b2⟩ := numA_sound hq (@RV1.rv (envD V) ρ M w _ _ h2)
        refine Calls.mono (h p.1 q.1 p.2 q.2 va vb w a1 b1 a2 b2 (Nat.le_of_ble_eq_true hc.1) (Nat.le_of_ble_eq_true hc.2)) fun e w' ⟨v, e1, e2, e3⟩ => ⟨v, e1, aS_in ?_, e3⟩
        have hq : qD V (.ap 32 p.1 q.1) = qD V p.1 - qD V q.1 := by simp only [qD]
        rw [hq, cmpR_sub0]
        exact e2
      · cases e
    · cases e
  · cases e
end
noncomputable def zAddQ : PE := ⟨72, orG pAddQ.g (q2 31 100000000 fun i j => i + j + 1)⟩
noncomputable def zSubQ : PE := ⟨57, orG pSubQ.g (q2 32 100000000 fun i j => i + j + 1)⟩
noncomputable def zMulQ : PE := ⟨58, orG pMulQ.g (q2 33 200000000 fun i j => i + j)⟩
noncomputable def zNegQ : PE := ⟨102, orG pNegQ.g (q1 34 200000000 fun i => i)⟩
noncomputable def zSignQ : PE := ⟨100, orG pSignQ.g (qs1 200000000)⟩
noncomputable def zCmpQ : PE := ⟨84, orG pCmpQ.g (qs2 200000000)⟩
noncomputable def zAddP : PE := ⟨40, orG pAddP.g (q2 31 100000000 fun i j => i + j + 1)⟩
noncomputable def zMulP : PE := ⟨42, orG pMulP.g (q2 33 100000000 fun i j => i + j)⟩
noncomputable def zNegP : PE := ⟨41, orG pNegP.g (q1 34 100000000 fun i => i)⟩
noncomputable def zSignP : PE := ⟨48, orG pSignP.g (qs1 100000000)⟩
noncomputable def zCmpP : PE := ⟨32, orG pCmpP.g (qs2 140000000)⟩
noncomputable def zWholeQ (F : Fa) : PE := ⟨63, orG pWholeQ.g (qw F)⟩
section
variable {V : VL} {F : Fa}
theorem zAddQ_ok : @PE.ok (envD V) zAddQ := orG_ok (@pAddQ_ok (envD V)) (q2_ok (fun _ _ => by simp [go_sem]) fun a b i j va vb w ha hb sa sb hi hj => by simp only [qD]; exact ⟨kQAdd ha hb sa sb hi hj, sa.add sb⟩)
theorem zSubQ_ok : @PE.ok (envD V) zSubQ := orG_ok (@pSubQ_ok (envD V)) (q2_ok (fun _ _ => by simp [go_sem]) fun a b i j va vb w ha hb sa sb hi hj => by simp only [qD]; exact ⟨kQSub ha hb sa sb hi hj, sa.sub sb⟩)
theorem zMulQ_ok : @PE.ok (envD V) zMulQ := orG_ok (@pMulQ_ok (envD V)) (q2_ok (fun _ _ => by simp [go_sem]) fun a b i j va vb w ha hb sa sb hi hj => by simp only [qD]; exact ⟨kQMul ha hb sa sb hi hj, sa.mul sb⟩)
theorem zNegQ_ok : @PE.ok (envD V) zNegQ := orG_ok (@pNegQ_ok (envD V)) (q1_ok (fun _ _ => by simp [go_sem]) fun a i va w ha sa hi => by simp only [qD]; exact ⟨kQNeg ha sa hi, sa.neg⟩)
theorem zSignQ_ok : @PE.ok (envD V) zSignQ := orG_ok (@pSignQ_ok (envD V)) (qs1_ok (fun _ _ => by simp [go_sem]) fun a i va w ha sa hi => kQSign ha sa hi)
theorem zCmpQ_ok : @PE.ok (envD V) zCmpQ := orG_ok (@pCmpQ_ok (envD V)) (qs2_ok (fun _ _ => by simp [go_sem]) fun a b i j va vb w ha hb sa sb hi hj => kQCmp ha hb sa sb hi hj)
theorem zAddP_ok : @PE.ok (envD V) zAddP := orG_ok (@pAddP_ok (envD V)) (q2_ok (fun _ _ => by simp [go_sem]) fun a b i j va vb w ha hb sa sb hi hj => by simp only [qD]; exact ⟨kPAdd ha hb sa sb (by omega) (by omega), sa.add sb⟩)
theorem zMulP_ok : @PE.ok (envD V) zMulP := orG_ok (@pMulP_ok (envD V)) (q2_ok (fun _ _ => by simp [go_sem]) fun a b i j va vb w ha hb sa sb hi hj => by simp only [qD]; exact ⟨kPMul ha hb sa sb (by omega) (by omega), sa.mul sb⟩)
theorem zNegP_ok : @PE.ok (envD V) zNegP := orG_ok (@pNegP_ok (envD V)) (q1_ok (fun _ _ => by simp [go_sem]) fun a i va w ha sa hi => by simp only [qD]; exact ⟨kPNeg ha sa (by omega), sa.neg⟩)
theorem zSignP_ok : @PE.ok (envD V) zSignP := orG_ok (@pSignP_ok (envD V)) (qs1_ok (fun _ _ => by simp [go_sem]) fun a i va w ha sa hi => kPSign ha sa (by omega))
theorem zCmpP_ok : @PE.ok (envD V) zCmpP := orG_ok (@pCmpP_ok (envD V)) (qs2_ok (fun _ _ => by simp [go_sem]) fun a b i j va vb w ha hb sa sb hi hj => kPCmp ha hb sa sb hi hj)
theorem zWholeQ_ok (hF : FaOK V F) : @PE.ok (envD V) (zWholeQ F) := orG_ok (@pWholeQ_ok (envD V)) (by
  intro xs r e
  change qw F xs = some r at e
  refine ⟨fun _ _ => by simp [go_sem], fun ρ M w vs _ hv => ?_⟩
  unfold qw at e
  split at e
  · rename_i x
    split at e
    · rename_i i hi
      split at e
      · rename_i hc
        cases e
        obtain ⟨va, _, rfl, h1, h3⟩ := hv
        have h3 : _ = [] := h3
        subst h3
        have hva := intA_sound hF hi h1
        subst hva
        unfold smI at hc
        rw [Bool.and_eq_true] at hc
        have c1 := of_decide_eq_true hc.1
        have c2 := of_decide_eq_true hc.2
        have b := hF.sm i.1
        have hz : iD V i = V.z i.1 + i.2 := rfl
        have hq : qD V (.ap 37 (.i i.1 i.2) (.lit 0)) = ((iD V i : Int) : Rat) := by simp only [qD]; rfl
        refine Calls.mono (kQWhole (iD V i) (by omega) (by omega) rfl) fun e w' ⟨v, e1, e2, e3⟩ => ⟨v, e1, @RV1.rv (envD V) ρ M w' _ _ (aQ_in (by rw [hq]; exact e2) ?_), e3⟩
        rw [hq]
        exact RSm.whole (i := 1) (by unfold Sm; omega)
      · cases e
    · cases e
  · cases e)
end
noncomputable def primC (F : Fa) : List PE := [zAddQ, zMulQ, zSubQ, zCmpP, zSignQ, zSignP, zAddP, zMulP, zWholeQ F, zCmpQ, zNegQ, zNegP] ++ primL
theorem primC_ok {V : VL} {F : Fa} (hF : FaOK V F) {l : List PE} (hl : ∀ e ∈ l, @PE.ok (envD V) e) : @PrimOK (envD V) (primOf (l ++ primC F)) := @primOf_ok (envD V) _ fun e he => by
  rcases List.mem_append.1 he with he | he
  · exact hl e he
  · rcases List.mem_append.1 he with he | he
    · simp only [List.mem_cons, List.not_mem_nil, or_false] at he
      rcases he with rfl | rfl | rfl | rfl | rfl | rfl | rfl | rfl | rfl | rfl | rfl | rfl
      · exact zAddQ_ok
      · exact zMulQ_ok
      · exact zSubQ_ok
      · exact zCmpP_ok
      · exact zSignQ_ok
      · exact zSignP_ok
      · exact zAddP_ok
      · exact zMulP_ok
      · exact zWholeQ_ok hF
      · exact zCmpQ_ok
      · exact zNegQ_ok
      · exact zNegP_ok
    · exact @primL_mem (envD V) e he
end Go.Proofs.YtgaehhapjnbieaaGreat
namespace Go.Proofs.YtgaehhapjnbieaaGreat
open Go.RowKit
inductive KFr where
  | sq (c : Code)
  | bk (i : Nat)
inductive Ex where
  | nor
  | ret
  | ext (m : Nat)
def Ex.e : Ex → Exit
  | .nor => .normal
  | .ret => .ret
  | .ext m => .exit m
inductive Stop where
  | loop (b : Code) (k : List KFr) (s : Fm)
  | done (e : Ex) (s : Fm)
def unw : List KFr → (Exit → Act → World → Prop) → Exit → Act → World → Prop
  | [], Q => Q
  | .sq c :: k, Q => Exit.then (c.wp Tryz.prog (unw k Q)) (unw k Q)
  | .bk i :: k, Q => Exit.inBlock i (unw k Q)
inductive Cf where
  | run (c : Code)
  | at_ (e : Ex)
noncomputable def runF (T : Tb) (pl : List Nat) (m : Nat) : Nat → Cf → List KFr → Fm → Option Stop
  | 0, _, _, _ => none
  | n + 1, cf, k, s => match cf with
    | .run c => (match c with
      | .skip => runF T pl m n (.at_ .nor) k s
      | .region _ ops dr => (match regionA T (orC T.call (callW pl (runA T pl m))) dr ops s with
        | some s' => runF T pl m n (.at_ .nor) k s'
        | none => none)
      | .seq x y => runF T pl m n (.run x) (.sq y :: k) s
      | .cond (.tmp t) x y => (match s.tm[t]? with
        | some (.val (.bool true)) => runF T pl m n (.run x) k s
        | some (.val (.bool false)) => runF T pl m n (.run y) k s
        | _ => none)
      | .block i x => runF T pl m n (.run x) (.bk i :: k) s
      | .loop b => some (.loop b k s)
      | .exit i => runF T pl m n (.at_ (.ext i)) k s
      | .ret => runF T pl m n (.at_ .ret) k s
      | _ => none)
    | .at_ e => match k with
      | [] => some (.done e s)
      | .sq c :: k => (match e with
        | .nor => runF T pl m n (.run c) k s
        | e => runF T pl m n (.at_ e) k s)
      | .bk i :: k => (match e with
        | .ext j => if Nat.beq j i then runF T pl m n (.at_ .nor) k s else runF T pl m n (.at_ (.ext j)) k s
        | e => runF T pl m n (.at_ e) k s)
section
variable {E : Env} {T : Tb} {pl : List Nat} {W0 : World} {M0 : Nat → Prop} {Q : Exit → Act → World → Prop}
def holds (Q : Exit → Act → World → Prop) (k : List KFr) (a : Act) (w : World) : Cf → Prop
  | .run c => c.wp Tryz.prog (unw k Q) a w
  | .at_ e => unw k Q e.e a w
def StopOK (E : Env) (W0 : World) (M0 : Nat → Prop) (Q : Exit → Act → World → Prop) : Stop → Prop
  | .loop b k s => ∀ ρ M a w, @FS0 E W0 M0 s ρ M a w → (Code.loop b).wp Tryz.prog (unw k Q) a w
  | .done e s => ∀ ρ M a w, @FS0 E W0 M0 s ρ M a w → Q e.e a w
theorem runF_ok (hT : @TbOK E T) (hpl : ∀ f ∈ pl, Plainly f) {m : Nat} : ∀ (n : Nat) (cf : Cf) (k : List KFr) (s : Fm) (o : Stop), runF T pl m n cf k s = some o → StopOK E W0 M0 Q o → ∀ ρ M a w, @FS0 E W0 M0 s ρ M a w → holds Q k a w cf
  | 0, _, _, _, _, h, _, _, _, _, _, _ => by unfold runF at h; cases h
  | n + 1, cf, k, s, o, h, hQ, ρ, M, a, w, hF => by
    have ih := runF_ok (m := m) hT hpl n
    unfold runF at h
    cases cf with
    | run c =>
      simp only [] at h
      show c.wp Tryz.prog (unw k Q) a w
      cases c with
      | skip => exact wp_skip (ih _ _ _ _ h hQ ρ M a w hF)
      | region i ops dr =>
        simp only [] at h
        split at h
        · rename_i s' hs'
          exact @region_sound E T _ _ W0 noR M0 [] 16 s s' ρ M a w ops dr (unw k Q) hT (@orC_ok E _ _ (@TbOK.call E T hT) (@callW_ok E T pl hpl m (@run_ok E T pl hT hpl m).1)) i hs' (fun _ h => h) hF fun ρ' M' a' w' hF' => ih (.at_ .nor) _ _ _ h hQ ρ' M' a' w' hF'
        · cases h
      | seq x y => exact wp_seq (ih (.run x) (.sq y :: k) _ _ h hQ ρ M a w hF)
      | cond t x y =>
        cases t with
        | tmp t =>
          simp only [] at h
          obtain ⟨Fsize, Fdef, Fslots, _⟩ := id hF
          split at h
          · rename_i ht
            obtain ⟨v, e1, e2⟩ := Fslots t _ ht
            have e2 : v = .bool true := e2
            exact wp_cond_true (by rw [eval_of e1, e2]) (ih (.run x) _ _ _ h hQ ρ M a w hF)
          · rename_i ht
            obtain ⟨v, e1, e2⟩ := Fslots t _ ht
            have e2 : v = .bool false := e2
            exact wp_cond_false (by rw [eval_of e1, e2]) (ih (.run y) _ _ _ h hQ ρ M a w hF)
          · cases h
        | _ => cases h
      | block i x => exact wp_block (ih (.run x) (.bk i :: k) _ _ h hQ ρ M a w hF)
      | loop b => cases h; exact hQ ρ M a w hF
      | exit i => exact wp_exit (ih (.at_ (.ext i)) _ _ _ h hQ ρ M a w hF)
      | ret => exact wp_ret (ih (.at_ .ret) _ _ _ h hQ ρ M a w hF)
      | _ => cases h
    | at_ e =>
      simp only [] at h
      show unw k Q e.e a w
      cases k with
      | nil => cases h; exact hQ ρ M a w hF
      | cons f k =>
        cases f with
        | sq c =>
          cases e with
          | nor => exact ih (.run c) k s o h hQ ρ M a w hF
          | ret => exact ih (.at_ .ret) k s o h hQ ρ M a w hF
          | ext m => exact ih (.at_ (.ext m)) k s o h hQ ρ M a w hF
        | bk i =>
          cases e with
          | nor => exact ih (.at_ .nor) k s o h hQ ρ M a w hF
          | ret => exact ih (.at_ .ret) k s o h hQ ρ M a w hF
          | ext m =>
            simp only [] at h
            show (if m = i then unw k Q .normal a w else unw k Q (.exit m) a w)
            split at h
            · rename_i hm
              rw [if_pos (Nat.eq_of_beq_eq_true hm)]
              exact ih (.at_ .nor) k s o h hQ ρ M a w hF
            · rename_i hm
              rw [if_neg fun e => hm (by rw [e]; exact Nat.beq_refl i)]
              exact ih (.at_ (.ext m)) k s o h hQ ρ M a w hF
end
def findL : Code → List KFr → Option (Code × List KFr)
  | .loop b, k => some (b, k)
  | .seq x y, k => match findL x (.sq y :: k) with
    | some r => some r
    | none => findL y k
  | .block i x, k => findL x (.bk i :: k)
  | _, _ => none
def lpB (c : Code) (k : List KFr) : Code := match findL c k with | some r => r.1 | none => .skip
def lpK (c : Code) (k : List KFr) : List KFr := match findL c k with | some r => r.2 | none => []
def stopS : Option Stop → Fm
  | some (.loop _ _ s) => s
  | some (.done _ s) => s
  | none => ⟨[], [], 0, []⟩
def lkN : List (Nat × AV) → Nat → AV
  | [], _ => .any
  | x :: l, i => if Nat.beq x.1 i then x.2 else lkN l i
def slotsA (l : List (Nat × AV)) : Nat → Nat → List AV
  | 0, _ => []
  | n + 1, i => lkN l i :: slotsA l n (i + 1)
def mkS (n : Nat) (l : List (Nat × AV)) (H : HP) (nx : Nat) : Fm := ⟨slotsA l n 0, H, nx, []⟩
def begS (n : Nat) (xs : List AV) : Fm := ⟨xs ++ List.replicate (n - xs.length) (.val undef), [], 16, []⟩
section
variable {V V' : VL} {ρ ρ' : Rho} {M : Nat → Prop} {w : World} {cs : List Value}
def Le (V V' : VL) (p : AV × AV) : Prop := ∀ (ρ ρ' : Rho) (M : Nat → Prop) (w : World) (cs : List Value), @Rp (envD V) ρ M w p.1 cs → @Rp (envD V') ρ' M w p.2 cs
theorem rd_I {k k' : Nat} {c c' : Int} (h : iD V (k, c) = iD V' (k', c')) : Le V V' (aI k c, aI k' c') := fun ρ ρ' M w cs r => by
  unfold Rp at r ⊢
  refine ⟨r.1, ?_⟩
  have h2 := r.2
  show (XP.int (zD V' (.i k' c'))).p M w cs
  rw [zD_i, ← h]
  exact h2
theorem rd_Ic {k' : Nat} {c c' : Int} (h : c = iD V' (k', c')) : Le V V' (.val (.int .i64 c), aI k' c') := fun ρ ρ' M w cs r => by
  unfold Rp at r ⊢
  obtain ⟨rfl, _⟩ := r
  refine ⟨rfl, ?_⟩
  show (XP.int (zD V' (.i k' c'))).p M w _
  rw [zD_i, ← h]
  rfl
theorem rd_L {e e' : CE} (h : lD V e = lD V' e') : Le V V' (aL e, aL e') := fun ρ ρ' M w cs r => by
  unfold Rp at r ⊢
  refine ⟨r.1, ?_⟩
  have h2 := r.2
  show (XP.rats (lD V' e')).p M w cs
  rw [← h]
  exact h2
theorem rd_Q {q q' : CE} {n : Nat} (h : qD V q = qD V' q') : Le V V' (aQ q n, aQ q' n) := fun ρ ρ' M w cs r => by
  unfold Rp at r ⊢
  refine ⟨r.1, ?_⟩
  have h2 := r.2
  show (XP.num (qD V' q') _).p M w cs
  rw [← h]
  exact h2
theorem rd_ok {d : Rd} (h1 : ∀ p ∈ d.vs, Le V V' p) (h2 : d.ns = []) (h3 : d.bs = []) (h4 : d.rest = []) : RdOK (envD V) (envD V') d :=
  ⟨h1, fun p hp => (by rw [h2] at hp; cases hp), fun p hp => (by rw [h3] at hp; cases hp), fun p hp => (by rw [h4] at hp; cases hp)⟩
end
noncomputable def tbF (F : Fa) (l : List PE) : Tb := ⟨primOf (l ++ primC F), stdX F, noC⟩
theorem tbF_ok {V : VL} {F : Fa} (hF : FaOK V F) {l : List PE} (hl : ∀ e ∈ l, @PE.ok (envD V) e) : @TbOK (envD V) (tbF F l) := @TbOK.mk (envD V) _ (primC_ok hF hl) (stdX_ok hF) (@noC_ok (envD V))
theorem am_go {V : VL} {F : Fa} {l : List PE} {m n : Nat} {cf : Cf} {k : List KFr} {s : Fm} {W0 : World} {M0 : Nat → Prop} {Q : Exit → Act → World → Prop} {ρ : Rho} {M : Nat → Prop} {a : Act} {w : World} (hF : FaOK V F) (hl : ∀ e ∈ l, @PE.ok (envD V) e) (o : Stop) (h : runF (tbF F l) plainL m n cf k s = some o) (hS : @FS0 (envD V) W0 M0 s ρ M a w) (hQ : StopOK (envD V) W0 M0 Q o) : holds Q k a w cf :=
  runF_ok (tbF_ok hF hl) plainL_ok n cf k s o h hQ ρ M a w hS
end Go.Proofs.YtgaehhapjnbieaaGreat
namespace Go.Proofs.YtgaehhapjnbieaaGreat
open Go.RowKit
theorem trimC_take {l : List Rat} {n : Nat} (hn : n ≤ l.length) (h : ∀ i, n ≤ i → l.getD i 0 = 0) (ht : n = 0 ∨ l.getD (n - 1) 0 ≠ 0) : l.take n = trimC l := by
  have hd : l = l.take n ++ l.drop n := (List.take_append_drop n l).symm
  have hz : ∀ x ∈ (l.drop n).reverse, decide (x = 0) = true := fun x hx => by
    obtain ⟨i, hi, e⟩ := List.getElem_of_mem (List.mem_reverse.1 hx)
    have := h (n + i) (by omega)
    rw [List.getElem_drop] at e
    rw [List.getD_eq_getElem?_getD, List.getElem?_eq_getElem (by rw [List.length_drop] at hi; omega)] at this
    have e2 : l[n + i]'(by rw [List.length_drop] at hi; omega) = x := e
    simp only [Option.getD_some] at this
    rw [e2] at this
    simp [this]
  unfold trimC
  have key : l.reverse.dropWhile (fun x => decide (x = 0)) = (l.take n).reverse := by
    conv => lhs; rw [hd, List.reverse_append]
    rw [List.dropWhile_append_of_pos hz]
    rcases ht with rfl | ht
    · simp
    · have hn0 : 0 < n := by
        rcases Nat.eq_zero_or_pos n with rfl | h0
        · exact absurd (h 0 (Nat.le_refl _)) (by simpa using ht)
        · exact h0
      have hne : l.take n ≠ [] := fun e => by
        have := congrArg List.length e
        rw [List.length_take] at this
        have : min n l.length = 0 := this
        omega
      cases hr : (l.take n).reverse with
      | nil => rw [List.reverse_eq_nil_iff] at hr; exact absurd hr hne
      | cons x r =>
        have hx : x = l.getD (n - 1) 0 := by
          have h1 : (l.take n).reverse[0]? = some x := by rw [hr]; rfl
          rw [List.getElem?_reverse (by rw [List.length_take]; omega), List.length_take, List.getElem?_take] at h1
          rw [show min n l.length - 1 - 0 = n - 1 by omega, if_pos (by omega)] at h1
          rw [List.getD_eq_getElem?_getD, h1]
          rfl
        rw [List.dropWhile_cons_of_neg]
        rw [hx]
        simpa using ht
  rw [key, List.reverse_reverse]
noncomputable def tr_f : Func := Tryz.f52
noncomputable def tr_c : Code := bodyOf tr_f
noncomputable def tr_b : Code := lpB tr_c []
noncomputable def tr_k : List KFr := lpK tr_c []
def tr_V (l : List Rat) (n : Nat) : VL := ⟨fun k => match k with | 1 => (n : Int) | 2 => (l.length : Int) | _ => 0, fun k => match k with | 0 => l | 1 => trimC l | _ => [], fun _ => 0, fun _ => []⟩
def tr_top : CE := .ap 30 (.v 0) (.i 1 (-1))
def tr_F0 (i : Nat) (b : Bool) : Fa := ⟨[(0, 1, -1), (1, 2, 0)], [(.v 0, 2, 0)], [(.v 0, i)], [(tr_top, b)], [], [], []⟩
def tr_F1 (i : Nat) : Fa := ⟨[(1, 0, 0), (0, 1, 0), (1, 2, 0)], [(.v 0, 2, 0)], [(.v 0, i)], [], [], [], []⟩
def tr_F2 : Fa := ⟨[(0, 1, 0), (1, 2, 0)], [(.v 0, 2, 0)], [], [], [], [], []⟩
def tr_s : Fm := mkS 22 [(0, aL (.v 0)), (3, aI 1 0)] [] 200000000
noncomputable def tr_r0 := runF (tbF tr_F2 []) plainL 100 100 (.run tr_c) [] (begS 22 [aL (.v 0)])
noncomputable def tr_rz := runF (tbF (tr_F0 200000000 true) []) plainL 100 100 (.run tr_b) [] tr_s
noncomputable def tr_rn := runF (tbF (tr_F0 200000000 false) []) plainL 100 100 (.run tr_b) [] tr_s
noncomputable def tr_r1 := runF (tbF (tr_F1 200000000) []) plainL 100 100 (.run tr_b) [] tr_s
noncomputable def tr_rx (s : Fm) := runF (tbF tr_F2 []) plainL 100 100 (.at_ (.ext 0)) tr_k s
set_option maxRecDepth 100000
theorem tr_e0 : tr_r0 = some (.loop tr_b tr_k (stopS tr_r0)) := by kernel_rfl
theorem tr_ez : tr_rz = some (.done .nor (stopS tr_rz)) := by kernel_rfl
theorem tr_en : tr_rn = some (.done (.ext 0) (stopS tr_rn)) := by kernel_rfl
theorem tr_e1 : tr_r1 = some (.done (.ext 0) (stopS tr_r1)) := by kernel_rfl
theorem tr_xn : tr_rx (stopS tr_rn) = some (.done .ret (stopS (tr_rx (stopS tr_rn)))) := by kernel_rfl
theorem tr_x1 : tr_rx (stopS tr_r1) = some (.done .ret (stopS (tr_rx (stopS tr_r1)))) := by kernel_rfl
def tr_I (l : List Rat) (n : Nat) : Prop := n ≤ l.length ∧ ∀ i, n ≤ i → l.getD i 0 = 0
section
variable {l : List Rat} {n : Nat}
theorem tr_sm (hl : l.length ≤ 1000000) (hn : n ≤ l.length) (k : Nat) : -1152921504606846976 ≤ (tr_V l n).z k ∧ (tr_V l n).z k ≤ 1152921504606846976 := by
  show -1152921504606846976 ≤ (match k with | 1 => (n : Int) | 2 => (l.length : Int) | _ => 0) ∧ (match k with | 1 => (n : Int) | 2 => (l.length : Int) | _ => 0) ≤ (1152921504606846976 : Int)
  split <;> omega
theorem tr_F2_ok (hl : l.length ≤ 1000000) (hn : n ≤ l.length) : FaOK (tr_V l n) tr_F2 where
  z0 := rfl
  sm := tr_sm hl hn
  le := by simp [tr_F2, tr_V]; omega
  len := by simp [tr_F2, tr_V, lD]
  bd := by simp [tr_F2]
  zr := by simp [tr_F2]
  rlen := by simp [tr_F2]
  full := by simp [tr_F2]
  sum := by simp [tr_F2]
theorem tr_F1_ok (hs : ∀ x ∈ l, RSm x 200000000) (hl : l.length ≤ 1000000) : FaOK (tr_V l 0) (tr_F1 200000000) where
  z0 := rfl
  sm := tr_sm hl (Nat.zero_le _)
  le := by simp [tr_F1, tr_V]
  len := by simp [tr_F1, tr_V, lD]
  bd := by simpa [tr_F1, tr_V, lD] using hs
  zr := by simp [tr_F1]
  rlen := by simp [tr_F1]
  full := by simp [tr_F1]
  sum := by simp [tr_F1]
theorem tr_top_is (h0 : 0 < n) : qD (tr_V l n) tr_top = l.getD (n - 1) 0 := by
  have : ((n : Int) + -1).toNat = n - 1 := by omega
  simp [tr_top, qD, lD, zD, tr_V, this]
theorem tr_F0_ok (hs : ∀ x ∈ l, RSm x 200000000) (hl : l.length ≤ 1000000) (hn : n ≤ l.length) (h0 : 0 < n) {b : Bool} (hb : decide (l.getD (n - 1) 0 = 0) = b) : FaOK (tr_V l n) (tr_F0 200000000 b) where
  z0 := rfl
  sm := tr_sm hl hn
  le := by simp [tr_F0, tr_V]; omega
  len := by simp [tr_F0, tr_V, lD]
  bd := by simpa [tr_F0, tr_V, lD] using hs
  zr := by
    intro x hx
    simp only [tr_F0, List.mem_singleton] at hx
    subst hx
    rw [tr_top_is h0]
    exact hb
  rlen := by simp [tr_F0]
  full := by simp [tr_F0]
  sum := by simp [tr_F0]
end
def tr_d0 : Rd := ⟨[(aL (.v 0), aL (.v 0)), (aI 2 0, aI 1 0)], [], [], [], [], 200000000⟩
def tr_d1 : Rd := ⟨[(aL (.v 0), aL (.v 0)), (aI 1 (-1), aI 1 0)], [], [], [], [], 200000000⟩
def tr_d2 : Rd := ⟨[(aL (.ap 20 (.v 0) (.i 1 0)), aL (.v 1))], [], [], [], [], 400⟩
def tr_fin : Fm := mkS 22 [(2, aL (.v 1))] [] 400
theorem tr_m0 : wkF tr_d0 16 (stopS tr_r0) tr_s = true := by kernel_rfl
theorem tr_m1 : wkF tr_d1 16 (stopS tr_rz) tr_s = true := by kernel_rfl
theorem tr_m2 : wkF tr_d2 16 (stopS (tr_rx (stopS tr_rn))) tr_fin = true := by kernel_rfl
theorem tr_m3 : wkF tr_d2 16 (stopS (tr_rx (stopS tr_r1))) tr_fin = true := by kernel_rfl
theorem tr_h0 : below 16 tr_s.H = below 16 (stopS tr_r0).H := by kernel_rfl
theorem tr_h1 : below 16 tr_s.H = below 16 (stopS tr_rz).H := by kernel_rfl
theorem tr_h2 : below 16 tr_fin.H = below 16 (stopS (tr_rx (stopS tr_rn))).H := by kernel_rfl
theorem tr_h3 : below 16 tr_fin.H = below 16 (stopS (tr_rx (stopS tr_r1))).H := by kernel_rfl
theorem tr_end : endA tr_f tr_fin = some (aL (.v 1)) := by kernel_rfl
theorem tr_out {l : List Rat} {n : Nat} {W0 : World} {M0 : Nat → Prop} {ρ : Rho} {M : Nat → Prop} {a : Act} {w : World} {s : Fm} (hm0 : ∀ b, M0 b → b < W0.heap.size) (h : l.take n = trimC l) (h1 : wkF tr_d2 16 s tr_fin = true) (h2 : below 16 tr_fin.H = below 16 s.H) (hF : @FS0 (envD (tr_V l n)) W0 M0 s ρ M a w) : @OutF (envD (tr_V l l.length)) tr_f (aL (.v 1)) W0 M0 .ret a w := by
  obtain ⟨ρ, M, hF⟩ := am_move (E' := envD (tr_V l l.length)) tr_d2 (rd_ok (fun p hp => by
    simp only [tr_d2, List.mem_singleton] at hp
    subst hp
    exact rd_L (by simpa [lD, zD, tr_V] using h)) rfl rfl rfl) hm0 h1 h2 hF
  exact ⟨.inr rfl, _, ρ, M, hF, tr_end⟩
theorem kTrimQ {l : List Rat} (hs : ∀ x ∈ l, RSm x 200000000) (hl : l.length ≤ 1000000) {M : Nat → Prop} {w : World} {v : Value} (hm0 : ∀ b, M b → b < w.heap.size) (hv : (XP.rats l).p M w [v]) :
    Calls Tryz.prog 52 #[v] w fun e w' => ∃ u, e = .returned u ∧ (XP.rats (trimC l)).p M w' [u] ∧ Below w.heap.size w w' := by
  refine Calls.mono (@am_calls (envD (tr_V l l.length)) _ tr_f tr_c [aL (.v 0)] [aL (.v 0)] (aL (.v 1)) noR M w [v] Tryz.func52 (by rfl) rfl (by show 1 ≤ 22; omega) hm0 ⟨v, [], rfl, aL_in hv, rfl⟩ fun a hF => ?_) fun e w' ⟨u, e1, e2, e3⟩ => ⟨u, e1, aL_out (V := tr_V l l.length) (e := .v 1) (ρ := noR) e2, e3⟩
  show holds _ [] a w (.run tr_c)
  refine am_go (V := tr_V l l.length) (F := tr_F2) (tr_F2_ok hl (Nat.le_refl _)) (fun _ h => by cases h) _ tr_e0 hF fun ρ M' a w' hF => ?_
  obtain ⟨ρ, M', hF⟩ := am_move (E' := envD (tr_V l l.length)) tr_d0 (rd_ok (fun p hp => by
    simp only [tr_d0, List.mem_cons, List.not_mem_nil, or_false] at hp
    rcases hp with rfl | rfl
    · exact rd_L rfl
    · exact rd_I rfl) rfl rfl rfl) hm0 tr_m0 tr_h0 hF
  refine am_loop (fun n => n) (tr_V l) (tr_I l) tr_s ?_ l.length ⟨Nat.le_refl _, fun i hi => by rw [List.getD_eq_getElem?_getD, List.getElem?_eq_none hi]; rfl⟩ hF
  intro n ⟨hn, hz⟩ ρ M' a w' hF
  show holds _ [] a w' (.run tr_b)
  by_cases h0 : n = 0
  · subst h0
    refine am_go (V := tr_V l 0) (tr_F1_ok hs hl) (fun _ h => by cases h) _ tr_e1 hF fun ρ M' a w' hF => ?_
    show holds _ tr_k a w' (.at_ (.ext 0))
    exact am_go (V := tr_V l 0) (tr_F2_ok hl hn) (fun _ h => by cases h) _ tr_x1 hF fun ρ M' a w' hF => tr_out hm0 (trimC_take hn hz (.inl rfl)) tr_m3 tr_h3 hF
  · have h0 : 0 < n := by omega
    by_cases hb : l.getD (n - 1) 0 = 0
    · refine am_go (V := tr_V l n) (tr_F0_ok hs hl hn h0 (decide_eq_true hb)) (fun _ h => by cases h) _ tr_ez hF fun ρ M' a w' hF => ?_
      obtain ⟨ρ, M', hF⟩ := am_move (E' := envD (tr_V l (n - 1))) tr_d1 (rd_ok (fun p hp => by
        simp only [tr_d1, List.mem_cons, List.not_mem_nil, or_false] at hp
        rcases hp with rfl | rfl
        · exact rd_L rfl
        · exact rd_I (by show (n : Int) + -1 = ((n - 1 : Nat) : Int) + 0; omega)) rfl rfl rfl) hm0 tr_m1 tr_h1 hF
      exact ⟨n - 1, ρ, M', ⟨by omega, fun i hi => if e : i = n - 1 then e ▸ hb else hz i (by omega)⟩, by omega, hF⟩
    · refine am_go (V := tr_V l n) (tr_F0_ok hs hl hn h0 (decide_eq_false hb)) (fun _ h => by cases h) _ tr_en hF fun ρ M' a w' hF => ?_
      show holds _ tr_k a w' (.at_ (.ext 0))
      exact am_go (V := tr_V l n) (tr_F2_ok hl hn) (fun _ h => by cases h) _ tr_xn hF fun ρ M' a w' hF => tr_out hm0 (trimC_take hn hz (.inr hb)) tr_m2 tr_h2 hF
end Go.Proofs.YtgaehhapjnbieaaGreat
namespace Go.Proofs.YtgaehhapjnbieaaGreat
open Go.RowKit
noncomputable def co_f : Func := Tryz.f76
noncomputable def co_c : Code := bodyOf co_f
noncomputable def co_b : Code := lpB co_c []
noncomputable def co_k : List KFr := lpK co_c []
def co_row (f : Nat → Rat) (n j : Nat) : List (Option Rat) := (List.range n).map fun i => if i < j then some (f i) else none
def co_V (W : VL) (f : Nat → Rat) (n j : Nat) : VL := ⟨fun k => match k with | 3 => (j : Int) | 4 => (n : Int) | k => W.z k, fun k => match k with | 9 => (List.range n).map f | k => W.l k, W.q, fun k => match k with | 0 => co_row f n j | k => W.r k⟩
def co_n : CE := .ap 61 (.i 4 0) (.lit 0)
def co_o : CE := .ap 60 (.v 0) (.lit 0)
def co_F2 : Fa := ⟨[(0, 4, 0), (4, 0, 1000000)], [], [], [], [], [], []⟩
def co_FX : Fa := ⟨[(0, 4, 0), (0, 3, 0), (4, 3, 0)], [], [], [], [], [], []⟩
noncomputable def co_H : HP := [(48, some ⟨36, 0, [], false, some co_o⟩)]
noncomputable def co_s (c : AV) : Fm := mkS 22 [(1, c), (5, .slx 48 co_n), (10, aI 4 0), (11, aI 3 0)] co_H 400
def co_fin : Fm := mkS 22 [(4, aL (.v 9))] [] 600
noncomputable def co_r0 (c : AV) := runF (tbF co_F2 []) plainL 100 100 (.run co_c) [] (begS 22 [aI 4 0, c])
noncomputable def co_rr (F : Fa) (L : List PE) (c : AV) := runF (tbF F L) plainL 200 100 (.run co_b) [] (co_s c)
noncomputable def co_rx (c : AV) := runF (tbF co_FX []) plainL 100 100 (.run co_b) [] (co_s c)
noncomputable def co_re (c : AV) := runF (tbF co_FX []) plainL 100 100 (.at_ (.ext 0)) co_k (stopS (co_rx c))
def co_d0 (P : List (AV × AV)) : Rd := ⟨(aI 4 0, aI 4 0) :: (.val (.int .i64 0), aI 3 0) :: P, [(co_n, co_n)], [(.ap 60 (.ap 40 (.i 4 0) (.lit 0)) (.lit 0), co_o)], [], [], 400⟩
def co_dr (P : List (AV × AV)) (q : CE) (b : Nat) : Rd := ⟨(aI 4 0, aI 4 0) :: (aI 3 1, aI 3 0) :: P, [(co_n, co_n)], [(.ap 60 (.ap 41 (.v 0) (.ap 0 (.i 3 0) (.ap 52 q (.lit (b : Int))))) (.lit 0), co_o)], [], [], 400⟩
def co_dx : Rd := ⟨[], [], [], [(48, co_n, co_o, .ap 51 (.v 9) (.lit 0))], [], 600⟩
structure CoRuns (F : Fa) (L : List PE) (P : List (AV × AV)) (c : AV) (q : CE) (b : Nat) : Prop where
  id_ : renL (fun _ => none) [aI 4 0, c] = some [aI 4 0, c]
  e0 : co_r0 c = some (.loop co_b co_k (stopS (co_r0 c)))
  er : co_rr F L c = some (.done .nor (stopS (co_rr F L c)))
  ex : co_rx c = some (.done (.ext 0) (stopS (co_rx c)))
  ee : co_re c = some (.done .ret (stopS (co_re c)))
  m0 : wkF (co_d0 P) 16 (stopS (co_r0 c)) (co_s c) = true
  mr : wkF (co_dr P q b) 16 (stopS (co_rr F L c)) (co_s c) = true
  mx : wkF co_dx 16 (stopS (co_re c)) co_fin = true
  b0 : below 16 (co_s c).H = below 16 (stopS (co_r0 c)).H
  br : below 16 (co_s c).H = below 16 (stopS (co_rr F L c)).H
  bx : below 16 co_fin.H = below 16 (stopS (co_re c)).H
theorem co_end : endA co_f co_fin = some (aL (.v 9)) := by kernel_rfl
theorem optCells_rat {w : World} : ∀ {l : List Rat} {cs : List Value}, OptCells w (l.map some) cs → RatCells w l cs
  | [], _, h => h
  | _ :: _, _, ⟨a, b, c, d, r, e, h1, h2, h3⟩ => ⟨a, b, c, d, r, e, h1, h2, optCells_rat h3⟩
theorem co_row0 (f : Nat → Rat) (n : Nat) : co_row f n 0 = List.replicate n none := by
  apply List.ext_getElem
  · simp [co_row]
  · intro i h1 h2
    simp [co_row]
theorem co_rowS (f : Nat → Rat) (n j : Nat) : (co_row f n j).set j (some (f j)) = co_row f n (j + 1) := by
  apply List.ext_getElem
  · simp [co_row]
  · intro i h1 h2
    rw [List.getElem_set]
    simp only [co_row, List.getElem_map, List.getElem_range]
    by_cases h : j = i
    · subst h
      simp
    · by_cases h3 : i < j
      · simp [h, h3, show i < j + 1 by omega]
      · simp [h, h3, show ¬ i < j + 1 by omega]
theorem co_rowN (f : Nat → Rat) (n : Nat) : co_row f n n = ((List.range n).map f).map some := by
  apply List.ext_getElem
  · simp [co_row]
  · intro i h1 h2
    have : i < n := by simpa [co_row] using h1
    simp [co_row, this]
section
variable {W : VL} {f : Nat → Rat} {n : Nat}
theorem co_sm (hs : ∀ k, -1152921504606846976 ≤ W.z k ∧ W.z k ≤ 1152921504606846976) (hn : n ≤ 1000000) {j : Nat} (hj : j ≤ n) (k : Nat) : -1152921504606846976 ≤ (co_V W f n j).z k ∧ (co_V W f n j).z k ≤ 1152921504606846976 := by
  show -1152921504606846976 ≤ (match k with | 3 => (j : Int) | 4 => (n : Int) | k => W.z k) ∧ (match k with | 3 => (j : Int) | 4 => (n : Int) | k => W.z k) ≤ (1152921504606846976 : Int)
  split
  · omega
  · omega
  · exact hs _
theorem co_F2_ok (h0 : W.z 0 = 0) (hs : ∀ k, -1152921504606846976 ≤ W.z k ∧ W.z k ≤ 1152921504606846976) (hn : n ≤ 1000000) {j : Nat} (hj : j ≤ n) : FaOK (co_V W f n j) co_F2 where
  z0 := h0
  sm := co_sm hs hn hj
  le := by simp [co_F2, co_V, h0]; omega
  len := by simp [co_F2]
  bd := by simp [co_F2]
  zr := by simp [co_F2]
  rlen := by simp [co_F2]
  full := by simp [co_F2]
  sum := by simp [co_F2]
theorem co_FX_ok (h0 : W.z 0 = 0) (hs : ∀ k, -1152921504606846976 ≤ W.z k ∧ W.z k ≤ 1152921504606846976) (hn : n ≤ 1000000) : FaOK (co_V W f n n) co_FX where
  z0 := h0
  sm := co_sm hs hn (Nat.le_refl _)
  le := by simp [co_FX, co_V, h0]
  len := by simp [co_FX]
  bd := by simp [co_FX]
  zr := by simp [co_FX]
  rlen := by simp [co_FX]
  full := by simp [co_FX]
  sum := by simp [co_FX]
theorem kCollect {F : Fa} {L : List PE} {P : List (AV × AV)} {c : AV} {q : CE} {b : Nat} (R : CoRuns F L P c q b) (h0 : W.z 0 = 0) (hs : ∀ k, -1152921504606846976 ≤ W.z k ∧ W.z k ≤ 1152921504606846976) (hn : n ≤ 1000000)
    (hP : ∀ p ∈ P, ∀ j j', Le (co_V W f n j) (co_V W f n j') p) (hF : ∀ j, j < n → FaOK (co_V W f n j) F) (hL : ∀ j, j < n → ∀ e ∈ L, @PE.ok (envD (co_V W f n j)) e) (hq : ∀ j, j < n → qD (co_V W f n j) q = f j)
    {M : Nat → Prop} {w : World} {vs : List Value} (hm0 : ∀ b, M b → b < w.heap.size) (hv : @RVs (envD (co_V W f n 0)) noR M w [aI 4 0, c] vs) :
    Calls Tryz.prog 76 vs.toArray w fun e w' => ∃ u, e = .returned u ∧ (XP.rats ((List.range n).map f)).p M w' [u] ∧ Below w.heap.size w w' := by
  refine Calls.mono (@am_calls (envD (co_V W f n 0)) _ co_f co_c [aI 4 0, c] [aI 4 0, c] (aL (.v 9)) noR M w vs Tryz.func76 (by rfl) R.id_ (by show 2 ≤ 22; omega) hm0 hv fun a hS => ?_) fun e w' ⟨u, e1, e2, e3⟩ => ⟨u, e1, aL_out (V := co_V W f n 0) (e := .v 9) (ρ := noR) e2, e3⟩
  show holds _ [] a w (.run co_c)
  refine am_go (V := co_V W f n 0) (co_F2_ok h0 hs hn (Nat.zero_le _)) (fun _ h => by cases h) _ R.e0 hS fun ρ M' a w' hS => ?_
  obtain ⟨ρ, M', hS⟩ := am_move (E' := envD (co_V W f n 0)) (co_d0 P) ⟨fun p hp => by
    simp only [co_d0, List.mem_cons] at hp
    rcases hp with rfl | rfl | hp
    · exact rd_I rfl
    · exact rd_Ic rfl
    · exact hP p hp 0 0, fun p hp => by
    simp only [co_d0, List.mem_singleton] at hp
    subst hp
    rfl, fun p hp M w cs r => by
    simp only [co_d0, List.mem_singleton] at hp
    subst hp
    change OptCells w (rD (co_V W f n 0) (.ap 40 (.i 4 0) (.lit 0))) cs at r
    show OptCells w (co_row f n 0) cs
    rw [co_row0]
    simpa [rD, zD, co_V] using r, fun p hp => (by cases hp)⟩ hm0 R.m0 R.b0 hS
  refine am_loop (fun j => n - j) (co_V W f n) (fun j => j ≤ n) (co_s c) ?_ 0 (Nat.zero_le _) hS
  intro j hj ρ M' a w' hS
  show holds _ [] a w' (.run co_b)
  by_cases hjn : j < n
  · refine am_go (V := co_V W f n j) (hF j hjn) (hL j hjn) _ R.er hS fun ρ M' a w' hS => ?_
    obtain ⟨ρ, M', hS⟩ := am_move (E' := envD (co_V W f n (j + 1))) (co_dr P q b) ⟨fun p hp => by
      simp only [co_dr, List.mem_cons] at hp
      rcases hp with rfl | rfl | hp
      · exact rd_I rfl
      · exact rd_I (by show (j : Int) + 1 = ((j + 1 : Nat) : Int) + 0; omega)
      · exact hP p hp j (j + 1), fun p hp => by
      simp only [co_dr, List.mem_singleton] at hp
      subst hp
      rfl, fun p hp M w cs r => by
      simp only [co_dr, List.mem_singleton] at hp
      subst hp
      change OptCells w (rD (co_V W f n j) (.ap 41 (.v 0) (.ap 0 (.i 3 0) (.ap 52 q (.lit (b : Int)))))) cs at r
      show OptCells w (co_row f n (j + 1)) cs
      rw [← co_rowS]
      simp only [rD] at r
      rw [hq j hjn] at r
      have hz : (zD (co_V W f n j) (.i 3 0)).toNat = j := by simp [zD, co_V]
      rw [hz] at r
      exact r, fun p hp => (by cases hp)⟩ hm0 R.mr R.br hS
    exact ⟨j + 1, ρ, M', hjn, by show n - (j + 1) < n - j; omega, hS⟩
  · have hjn : j = n := by omega
    subst hjn
    refine am_go (V := co_V W f j j) (co_FX_ok h0 hs hn) (fun _ h => by cases h) _ R.ex hS fun ρ M' a w' hS => ?_
    show holds _ co_k a w' (.at_ (.ext 0))
    refine am_go (V := co_V W f j j) (co_FX_ok h0 hs hn) (fun _ h => by cases h) _ R.ee hS fun ρ M' a w' hS => ?_
    obtain ⟨ρ, M', hS⟩ := am_move (E' := envD (co_V W f j 0)) co_dx ⟨fun p hp => (by cases hp), fun p hp => (by cases hp), fun p hp => (by cases hp), fun p hp M w g k cs hm hg hr hB hN => by
      simp only [co_dx, List.mem_singleton] at hp
      subst hp
      have hNj : (envD (co_V W f j j)).N co_n = j := by show (zD (co_V W f j j) (.i 4 0)).toNat = j; simp [zD, co_V]
      rw [hNj] at hN
      show (XP.rats ((List.range j).map f)).p M w [.slice (some ⟨g, 0, none⟩) ((envD (co_V W f j j)).N co_n) k]
      rw [hNj]
      change OptCells w (co_row f j j) cs at hB
      rw [co_rowN] at hB
      exact ⟨_, k, by simp, by simpa using hN, fun _ => ⟨g, 0, cs, rfl, hm, hg, hr, optCells_rat hB⟩⟩⟩ hm0 R.mx R.bx hS
    exact ⟨.inr rfl, _, ρ, M', hS, co_end⟩
end
end Go.Proofs.YtgaehhapjnbieaaGreat
namespace Go.Proofs.YtgaehhapjnbieaaGreat
open Go.RowKit
theorem am_flat {V : VL} {F : Fa} {L : List PE} {f : Nat} {fn : Func} {c : Code} {xs : List AV} {r : AV} {m n N : Nat} (e : Ex) (he : e = .nor ∨ e = .ret) (hF : FaOK V F) (hL : ∀ e ∈ L, @PE.ok (envD V) e) (hf : Tryz.prog.funcs[f]? = some fn) (hb : fn.body = some c) (hx : renL (fun _ => none) xs = some xs) (hN : fn.ntmps = N) (hlen : xs.length ≤ N)
    (h1 : runF (tbF F L) plainL m n (.run c) [] (begS N xs) = some (.done e (stopS (runF (tbF F L) plainL m n (.run c) [] (begS N xs))))) (h2 : endA fn (stopS (runF (tbF F L) plainL m n (.run c) [] (begS N xs))) = some r)
    {ρ : Rho} {M : Nat → Prop} {w : World} {vs : List Value} (hm0 : ∀ b, M b → b < w.heap.size) (hv : @RVs (envD V) ρ M w xs vs) :
    Calls Tryz.prog f vs.toArray w fun e w' => ∃ u, e = .returned u ∧ @RV (envD V) ρ M w' r u ∧ Below w.heap.size w w' := by
  subst hN
  refine @am_calls (envD V) f fn c xs xs r ρ M w vs hf hb hx hlen hm0 hv fun a hS => ?_
  show holds _ [] a w (.run c)
  refine am_go (V := V) hF hL _ h1 hS fun ρ M' a w' hS => ?_
  refine ⟨?_, _, ρ, M', hS, h2⟩
  rcases he with rfl | rfl
  · exact .inl rfl
  · exact .inr rfl
def idD (P : List (AV × AV)) : Rd := ⟨P, [], [], [], [], 0⟩
def peOf (f : Nat) (P : List (AV × AV)) (ex : List AV) (r : AV) : PE := ⟨f, fun xs => if wkVs (idD P) [] xs ex then some r else none⟩
theorem wkVs_rvs {E E' : Env} {d : Rd} {H : HP} {ρ : Rho} {M : Nat → Prop} {w : World} (hd : RdOK E E' d) (hr : RestOK E d H ρ M w) : ∀ {l m : List AV} {vs : List Value}, wkVs d H l m = true → @RVs E ρ M w l vs → m.all AV.one = true → @RVs E' (rhoK d ρ) (resM d ρ M) w m vs
  | [], [], _, _, h, _ => h
  | a :: l, b :: m, vs, h, ⟨v, r, e, h1, h2⟩, o2 => by
    unfold wkVs at h
    rw [Bool.and_eq_true] at h
    rw [List.all_cons, Bool.and_eq_true] at o2
    exact ⟨v, r, e, @RV.one E' _ _ w b v (wkV_rv hd hr h.1 (@RV1.rv E _ _ _ _ _ h1)) o2.1, wkVs_rvs hd hr h.2 h2 o2.2⟩
  | [], _ :: _, _, h, _, _ => by unfold wkVs at h; cases h
  | _ :: _, [], _, h, _, _ => by unfold wkVs at h; cases h
theorem peOf_ok {V : VL} {f : Nat} {P : List (AV × AV)} {ex : List AV} {r : AV} (pl : Plainly f) (ho : ex.all AV.one = true) (hr : renV (fun _ => none) r = some r) (hP : ∀ p ∈ P, Le V V p)
    (hc : ∀ (M : Nat → Prop) (w : World) (vs : List Value), (∀ b, M b → b < w.heap.size) → @RVs (envD V) noR M w ex vs → Calls Tryz.prog f vs.toArray w fun e w' => ∃ u, e = .returned u ∧ @RV (envD V) noR M w' r u ∧ Below w.heap.size w w') : @PE.ok (envD V) (peOf f P ex r) := by
  intro xs r' e
  have e : (if wkVs (idD P) [] xs ex then some r else none) = some r' := e
  split at e
  · rename_i h
    cases e
    refine ⟨pl, fun ρ M w vs hm0 hv => ?_⟩
    have h1 : @RVs (envD V) (rhoK (idD P) ρ) (resM (idD P) ρ M) w ex vs := wkVs_rvs (rd_ok hP rfl rfl rfl) ⟨fun p hp => (by cases hp), fun o b g c hm => (by cases hm)⟩ h hv ho
    have e1 : rhoK (idD P) ρ = noR := by
      funext o
      unfold rhoK
      rw [if_neg]
      intro hk
      unfold Rd.keep at hk
      rw [Bool.and_eq_true] at hk
      exact absurd (Nat.le_of_ble_eq_true hk.1) (by show ¬ o + 1 ≤ 0; omega)
    have e2 : resM (idD P) ρ M = M := by
      funext b
      exact propext ⟨fun h => h.1, fun h => ⟨h, fun o c hm => (by cases hm)⟩⟩
    rw [e1, e2] at h1
    refine Calls.mono (hc M w vs hm0 h1) fun e w' ⟨u, q1, q2, q3⟩ => ⟨u, q1, ?_, q3⟩
    exact @ren_rv (envD V) (fun _ => none) noR ρ M M w' (fun _ _ _ e => by cases e) (fun _ h => h) r r u hr q2
  · cases e
noncomputable def cf_f : Func := Tryz.f109
noncomputable def cf_c : Code := bodyOf cf_f
def cf_V (l : List Rat) (i : Nat) : VL := ⟨fun k => match k with | 1 => (i : Int) | 2 => (l.length : Int) | _ => 0, fun k => match k with | 0 => l | _ => [], fun _ => 0, fun _ => []⟩
def cf_F0 : Fa := ⟨[(0, 1, 0), (1, 2, -1)], [(.v 0, 2, 0)], [(.v 0, 200000000)], [], [], [], []⟩
def cf_F1 : Fa := ⟨[(0, 1, 0), (2, 1, 0)], [(.v 0, 2, 0)], [(.v 0, 200000000)], [], [], [], []⟩
def cf_xs : List AV := [aL (.v 0), aI 1 0]
noncomputable def cf_r0 := runF (tbF cf_F0 []) plainL 100 100 (.run cf_c) [] (begS 14 cf_xs)
noncomputable def cf_r1 := runF (tbF cf_F1 []) plainL 100 100 (.run cf_c) [] (begS 14 cf_xs)
set_option maxRecDepth 100000
theorem cf_e0 : cf_r0 = some (.done .ret (stopS cf_r0)) := by kernel_rfl
theorem cf_e1 : cf_r1 = some (.done .ret (stopS cf_r1)) := by kernel_rfl
theorem cf_x0 : endA cf_f (stopS cf_r0) = some (aQ (.ap 30 (.v 0) (.i 1 0)) 200000000) := by kernel_rfl
theorem cf_x1 : endA cf_f (stopS cf_r1) = some (.rat 0) := by kernel_rfl
theorem kCoef {l : List Rat} {i : Nat} (hs : ∀ x ∈ l, RSm x 200000000) (hl : l.length ≤ 1000000) (hi : i ≤ 1000000) {ρ : Rho} {M : Nat → Prop} {w : World} {v : Value} (hm0 : ∀ b, M b → b < w.heap.size) (hv : (XP.rats l).p M w [v]) :
    Calls Tryz.prog 109 #[v, .int .i64 (i : Int)] w fun e w' => ∃ u, e = .returned u ∧ (ratF (l.getD i 0)).p u w' ∧ Below w.heap.size w w' := by
  have sm : ∀ k, -1152921504606846976 ≤ (cf_V l i).z k ∧ (cf_V l i).z k ≤ 1152921504606846976 := fun k => by
    show -1152921504606846976 ≤ (match k with | 1 => (i : Int) | 2 => (l.length : Int) | _ => 0) ∧ (match k with | 1 => (i : Int) | 2 => (l.length : Int) | _ => 0) ≤ (1152921504606846976 : Int)
    split <;> omega
  have hv : @RVs (envD (cf_V l i)) ρ M w cf_xs [v, .int .i64 (i : Int)] := ⟨v, _, rfl, aL_in (V := cf_V l i) (e := .v 0) hv, _, _, rfl, aI_in (V := cf_V l i) (by show Value.int .i64 (i : Int) = .int .i64 ((i : Int) + 0); rw [Int.add_zero]), rfl⟩
  by_cases h : i < l.length
  · have hF : FaOK (cf_V l i) cf_F0 := ⟨rfl, sm, by simp [cf_F0, cf_V]; omega, by simp [cf_F0, cf_V, lD], by simpa [cf_F0, cf_V, lD] using hs, by simp [cf_F0], by simp [cf_F0], by simp [cf_F0], by simp [cf_F0]⟩
    refine Calls.mono (am_flat .ret (.inr rfl) hF (fun _ h => by cases h) Tryz.func109 (fn := cf_f) (c := cf_c) (by rfl) (by rfl) (by rfl) (by decide) cf_e0 cf_x0 hm0 hv) fun e w' ⟨u, e1, e2, e3⟩ => ⟨u, e1, ?_, e3⟩
    have := (aQ_out e2).1
    simpa [qD, lD, zD, cf_V] using this
  · have hF : FaOK (cf_V l i) cf_F1 := ⟨rfl, sm, by simp [cf_F1, cf_V]; omega, by simp [cf_F1, cf_V, lD], by simpa [cf_F1, cf_V, lD] using hs, by simp [cf_F1], by simp [cf_F1], by simp [cf_F1], by simp [cf_F1]⟩
    refine Calls.mono (am_flat .ret (.inr rfl) hF (fun _ h => by cases h) Tryz.func109 (fn := cf_f) (c := cf_c) (by rfl) (by rfl) (by rfl) (by decide) cf_e1 cf_x1 hm0 hv) fun e w' ⟨u, e1, e2, e3⟩ => ⟨u, e1, ?_, e3⟩
    rw [List.getD_eq_getElem?_getD, List.getElem?_eq_none (by omega)]
    exact @asRat_sound (envD (cf_V l i)) ρ M w' u (.rat 0) 0 rfl e2
end Go.Proofs.YtgaehhapjnbieaaGreat
namespace Go.Proofs.YtgaehhapjnbieaaGreat
open Go.RowKit
noncomputable def pCoef (F : Fa) : PE := ⟨109, fun xs => match xs with
  | [.ext 1 false (.ap 51 e _), i] => match lkC F.bd e, lkC F.len e, intA i with
    | some b, some n, some k => if Nat.ble b 200000000 && Nat.ble 1 b && leI F (0, 0) k && leI F k (0, 1000000) && leI F n (0, 1000000) then some (aQ (.ap 30 e (.i k.1 k.2)) b) else none
    | _, _, _ => none
  | _ => none⟩
noncomputable def pTrim (F : Fa) : PE := ⟨52, fun xs => match xs with
  | [.ext 1 false (.ap 51 e _)] => match lkC F.bd e, lkC F.len e with
    | some b, some n => if Nat.ble b 200000000 && leI F n (0, 1000000) then some (aL (.ap 70 e (.lit 0))) else none
    | _, _ => none
  | _ => none⟩
theorem rsm0 : RSm 0 1 := ⟨by show (0 : Int).natAbs < 4294967296 ^ 1; decide, by show ((1 : Nat) : Int).natAbs < 4294967296 ^ 1; decide⟩
section
variable {V : VL} {F : Fa}
theorem z0M (hF : FaOK V F) : iD V (0, 1000000) = 1000000 := by unfold iD; simp [hF.z0]
theorem pCoef_ok (hF : FaOK V F) : @PE.ok (envD V) (pCoef F) := by
  intro xs r e
  refine ⟨fun _ _ => by simp [pCoef, go_sem], fun ρ M w vs hm0 hv => ?_⟩
  simp only [pCoef] at e
  split at e
  · rename_i e0 d i
    split at e
    · rename_i b n k hb hn hk
      split at e
      · rename_i hc
        simp only [Bool.and_eq_true] at hc
        obtain ⟨⟨⟨⟨c1, c2⟩, c3⟩, c4⟩, c5⟩ := hc
        cases e
        have c1 := Nat.le_of_ble_eq_true c1
        have c2 := Nat.le_of_ble_eq_true c2
        have c3 := leI_sound hF c3
        have c4 := leI_sound hF c4
        have c5 := leI_sound hF c5
        rw [z00 hF] at c3
        rw [z0M hF] at c4 c5
        obtain ⟨va, _, rfl, h1, vb, _, rfl, h2, h3⟩ := hv
        have h3 : _ = [] := h3
        subst h3
        have hvb := intA_sound hF hk h2
        subst hvb
        have hlen := hF.len _ (lkC_mem hn)
        have e2 : iD V n = V.z n.1 + n.2 := rfl
        simp only [] at hlen
        have hbd := hF.bd _ (lkC_mem hb)
        have hi : ((iD V k).toNat : Int) = iD V k := Int.toNat_of_nonneg c3
        have h := kCoef (ρ := ρ) (l := lD V e0) (i := (iD V k).toNat) (fun x hx => (hbd x hx).mono c1) (by omega) (by omega) hm0 (aL_out h1)
        rw [hi] at h
        refine Calls.mono h fun e w' ⟨u, q1, q2, q3⟩ => ⟨u, q1, @RV1.rv (envD V) ρ M w' _ _ (aQ_in ?_ ?_), q3⟩
        · simp only [qD]
          rw [zD_i]
          exact q2
        · simp only [qD]
          rw [zD_i]
          rw [List.getD_eq_getElem?_getD]
          cases hg : (lD V e0)[(iD V (k.1, k.2)).toNat]? with
          | none => exact rsm0.mono c2
          | some x => exact hbd x (List.mem_of_getElem? hg)
      · cases e
    · cases e
  · cases e
theorem pTrim_ok (hF : FaOK V F) : @PE.ok (envD V) (pTrim F) := by
  intro xs r e
  refine ⟨fun _ _ => by simp [pTrim, go_sem], fun ρ M w vs hm0 hv => ?_⟩
  simp only [pTrim] at e
  split at e
  · rename_i e0 d
    split at e
    · rename_i b n hb hn
      split at e
      · rename_i hc
        rw [Bool.and_eq_true] at hc
        cases e
        have c1 := Nat.le_of_ble_eq_true hc.1
        have c5 := leI_sound hF hc.2
        rw [z0M hF] at c5
        obtain ⟨va, _, rfl, h1, h3⟩ := hv
        have h3 : _ = [] := h3
        subst h3
        have hlen := hF.len _ (lkC_mem hn)
        have e2 : iD V n = V.z n.1 + n.2 := rfl
        simp only [] at hlen
        have hbd := hF.bd _ (lkC_mem hb)
        refine Calls.mono (kTrimQ (l := lD V e0) (fun x hx => (hbd x hx).mono c1) (by omega) hm0 (aL_out h1)) fun e w' ⟨u, q1, q2, q3⟩ => ⟨u, q1, @RV1.rv (envD V) ρ M w' _ _ (aL_in ?_), q3⟩
        simp only [lD]
        exact q2
      · cases e
    · cases e
  · cases e
end
noncomputable def cb_f : Func := Tryz.f71
noncomputable def cb_c : Code := bodyOf cb_f
theorem cb_b : cb_f.body = some cb_c := by kernel_rfl
theorem cb_e : cb_c = .seq (cl cb_c) (cr cb_c) := by kernel_rfl
def cb_W (a b : List Rat) : VL := ⟨fun k => match k with | 1 => (a.length : Int) | 2 => (b.length : Int) | _ => 0, fun k => match k with | 0 => a | 1 => b | _ => [], fun _ => 0, fun _ => []⟩
def cb_P : List (AV × AV) := [(aL (.v 0), aL (.v 0)), (aL (.v 1), aL (.v 1))]
def cb_FR : Fa := ⟨[(0, 3, 0), (3, 4, -1), (3, 0, 1000000), (1, 0, 1000000), (2, 0, 1000000)], [(.v 0, 1, 0), (.v 1, 2, 0)], [(.v 0, 99000000), (.v 1, 99000000)], [], [(.v 0, 4, 0)], [], []⟩
def cb_x : Bool → Nat × Nat
  | true => (1, 2)
  | false => (2, 1)
def cb_F (t : Bool) : Fa := ⟨[((cb_x t).1, (cb_x t).2, 0), (0, 1, 0), (0, 2, 0), (4, 0, 1000000)], [(.v 0, 1, 0), (.v 1, 2, 0), (.v 9, 4, 0)], [(.v 0, 99000000), (.v 1, 99000000), (.v 9, 198000001)], [], [], [], []⟩
def cb_P2 (t : Bool) : List (AV × AV) := [(aL (.v 0), aL (.v 0)), (aL (.v 1), aL (.v 1)), (aI (cb_x t).2 0, aI 4 0)]
theorem cb_Le (a b : List Rat) (f : Nat → Rat) (n : Nat) : ∀ p ∈ cb_P, ∀ j j', Le (co_V (cb_W a b) f n j) (co_V (cb_W a b) f n j') p := by
  intro p hp j j'
  simp only [cb_P, List.mem_cons, List.not_mem_nil, or_false] at hp
  rcases hp with rfl | rfl
  · exact rd_L rfl
  · exact rd_L rfl
section
variable {a b : List Rat} {f : Nat → Rat} {n : Nat}
theorem cb_sm (ha : a.length ≤ 1000000) (hb : b.length ≤ 1000000) (k : Nat) : -1152921504606846976 ≤ (cb_W a b).z k ∧ (cb_W a b).z k ≤ 1152921504606846976 := by
  show -1152921504606846976 ≤ (match k with | 1 => (a.length : Int) | 2 => (b.length : Int) | _ => 0) ∧ (match k with | 1 => (a.length : Int) | 2 => (b.length : Int) | _ => 0) ≤ (1152921504606846976 : Int)
  split <;> omega
theorem cb_FR_ok (sa : ∀ x ∈ a, RSm x 99000000) (sb : ∀ x ∈ b, RSm x 99000000) (ha : a.length ≤ 1000000) (hb : b.length ≤ 1000000) (hn : n ≤ 1000000) {j : Nat} (hj : j < n) : FaOK (co_V (cb_W a b) f n j) cb_FR where
  z0 := rfl
  sm := co_sm (cb_sm ha hb) hn (by omega)
  le := by simp [cb_FR, co_V, cb_W]; omega
  len := by simp [cb_FR, co_V, cb_W, lD]
  bd := by simpa [cb_FR, co_V, cb_W, lD] using ⟨sa, sb⟩
  zr := by simp [cb_FR]
  rlen := by simp [cb_FR, co_V, cb_W, rD, co_row]
  full := by simp [cb_FR]
  sum := by simp [cb_FR]
theorem cb_F_ok (sa : ∀ x ∈ a, RSm x 99000000) (sb : ∀ x ∈ b, RSm x 99000000) (ha : a.length ≤ 1000000) (hb : b.length ≤ 1000000) (sf : ∀ i, i < max a.length b.length → RSm (f i) 198000001) {t : Bool} (ht : decide (a.length ≤ b.length) = t) : FaOK (co_V (cb_W a b) f (max a.length b.length) 0) (cb_F t) where
  z0 := rfl
  sm := co_sm (cb_sm ha hb) (by omega) (by omega)
  le := by
    cases t
    · have : ¬ a.length ≤ b.length := of_decide_eq_false ht
      simp [cb_F, cb_x, co_V, cb_W]; omega
    · have : a.length ≤ b.length := of_decide_eq_true ht
      simp [cb_F, cb_x, co_V, cb_W]; omega
  len := by simp [cb_F, co_V, cb_W, lD]
  bd := by
    intro x hx
    simp only [cb_F, List.mem_cons, List.not_mem_nil, or_false] at hx
    rcases hx with rfl | rfl | rfl
    · exact sa
    · exact sb
    · intro y hy
      change y ∈ (List.range (max a.length b.length)).map f at hy
      obtain ⟨i, hi, rfl⟩ := List.mem_map.1 hy
      exact sf i (by simpa using hi)
  zr := by simp [cb_F]
  rlen := by simp [cb_F]
  full := by simp [cb_F]
  sum := by simp [cb_F]
theorem cb_Le2 {t : Bool} (ht : decide (a.length ≤ b.length) = t) : ∀ p ∈ cb_P2 t, Le (co_V (cb_W a b) f (max a.length b.length) 0) (co_V (cb_W a b) f (max a.length b.length) 0) p := by
  intro p hp
  cases t
  · have : ¬ a.length ≤ b.length := of_decide_eq_false ht
    simp only [cb_P2, cb_x, List.mem_cons, List.not_mem_nil, or_false] at hp
    rcases hp with rfl | rfl | rfl
    · exact rd_L rfl
    · exact rd_L rfl
    · exact rd_I (by show (a.length : Int) + 0 = ((max a.length b.length : Nat) : Int) + 0; omega)
  · have : a.length ≤ b.length := of_decide_eq_true ht
    simp only [cb_P2, cb_x, List.mem_cons, List.not_mem_nil, or_false] at hp
    rcases hp with rfl | rfl | rfl
    · exact rd_L rfl
    · exact rd_L rfl
    · exact rd_I (by show (b.length : Int) + 0 = ((max a.length b.length : Nat) : Int) + 0; omega)
end
set_option maxRecDepth 100000
noncomputable def ad_g : AV := .fn 72 [] []
noncomputable def ad_cl : AV := .fn 108 [] [.rptr [ad_g], .rptr [aL (.v 0)], .rptr [aL (.v 1)]]
def ad_q : CE := .ap 31 (.ap 30 (.v 0) (.i 3 0)) (.ap 30 (.v 1) (.i 3 0))
theorem ad_runs : CoRuns cb_FR [pCoef cb_FR] cb_P ad_cl ad_q 198000001 := ⟨by kernel_rfl, by kernel_rfl, by kernel_rfl, by kernel_rfl, by kernel_rfl, by kernel_rfl, by kernel_rfl, by kernel_rfl, by kernel_rfl, by kernel_rfl, by kernel_rfl⟩
noncomputable def ad_xs : List AV := [aL (.v 0), aL (.v 1), ad_g]
noncomputable def ad_pe (t : Bool) : PE := peOf 76 (cb_P2 t) [aI 4 0, ad_cl] (aL (.v 9))
noncomputable def ad_s : Fm := mkS 15 [(3, .rptr [aL (.v 0)]), (4, .rptr [aL (.v 1)]), (5, .rptr [ad_g])] [] 400
noncomputable def ad_r0 (t : Bool) := runF (tbF (cb_F t) []) plainL 100 100 (.run (cl cb_c)) [] (begS 15 ad_xs)
noncomputable def ad_r1 (t : Bool) := runF (tbF (cb_F t) [ad_pe t, pTrim (cb_F t)]) plainL 100 100 (.run (cr cb_c)) [] ad_s
def ad_d : Rd := ⟨cb_P, [], [], [], [16, 32, 48], 400⟩
theorem ad_e0 : ∀ t, ad_r0 t = some (.done .nor (stopS (ad_r0 t)))
  | true => by kernel_rfl
  | false => by kernel_rfl
theorem ad_m0 : ∀ t, wkF ad_d 16 (stopS (ad_r0 t)) ad_s = true
  | true => by kernel_rfl
  | false => by kernel_rfl
theorem ad_b0 : ∀ t, below 16 ad_s.H = below 16 (stopS (ad_r0 t)).H
  | true => by kernel_rfl
  | false => by kernel_rfl
theorem ad_e1 : ∀ t, ad_r1 t = some (.done .ret (stopS (ad_r1 t)))
  | true => by kernel_rfl
  | false => by kernel_rfl
theorem ad_x1 : ∀ t, endA cb_f (stopS (ad_r1 t)) = some (aL (.ap 70 (.v 9) (.lit 0)))
  | true => by kernel_rfl
  | false => by kernel_rfl
theorem ad_id : renL (fun _ => none) ad_xs = some ad_xs := by kernel_rfl
theorem ad_ln : Nat.ble ad_xs.length cb_f.ntmps = true := by kernel_rfl
theorem ad_bg : (⟨ad_xs ++ List.replicate (cb_f.ntmps - ad_xs.length) (.val undef), [], 16, []⟩ : Fm) = begS 15 ad_xs := by kernel_rfl
theorem kAddC {a b : List Rat} (sa : ∀ x ∈ a, RSm x 99000000) (sb : ∀ x ∈ b, RSm x 99000000) (ha : a.length ≤ 1000000) (hb : b.length ≤ 1000000) {ρ : Rho} {M : Nat → Prop} {w : World} {vs : List Value} (hm0 : ∀ b, M b → b < w.heap.size)
    (hv : @RVs (envD (co_V (cb_W a b) (fun i => a.getD i 0 + b.getD i 0) (max a.length b.length) 0)) ρ M w ad_xs vs) :
    Calls Tryz.prog 71 vs.toArray w fun e w' => ∃ u, e = .returned u ∧ (XP.rats (addC a b)).p M w' [u] ∧ Below w.heap.size w w' := by
  generalize hf : (fun i => a.getD i 0 + b.getD i 0) = f at hv
  generalize ht : decide (a.length ≤ b.length) = t
  have s0 : ∀ {l : List Rat}, (∀ x ∈ l, RSm x 99000000) → ∀ i, RSm (l.getD i 0) 99000000 := fun {l} h i => by
    rw [List.getD_eq_getElem?_getD]
    cases hg : l[i]? with
    | none => exact rsm0.mono (by decide)
    | some x => exact h x (List.mem_of_getElem? hg)
  have sf : ∀ i, i < max a.length b.length → RSm (f i) 198000001 := fun i _ => by rw [← hf]; exact ((s0 sa i).add (s0 sb i)).mono (j := 198000001) (by decide)
  have hF := cb_F_ok sa sb ha hb sf ht
  refine Calls.mono (@am_calls (envD (co_V (cb_W a b) f (max a.length b.length) 0)) _ cb_f cb_c ad_xs ad_xs (aL (.ap 70 (.v 9) (.lit 0))) ρ M w vs Tryz.func71 cb_b ad_id (Nat.le_of_ble_eq_true ad_ln) hm0 hv fun a' hS => ?_) fun e w' ⟨u, e1, e2, e3⟩ => ⟨u, e1, ?_, e3⟩
  · rw [ad_bg] at hS
    rw [cb_e]
    refine wp_seq ?_
    show holds _ [] a' w (.run (cl cb_c))
    refine am_go hF (fun _ h => by cases h) _ (ad_e0 t) hS fun ρ M' a' w' hS => ?_
    obtain ⟨ρ, M', hS⟩ := am_move (E' := envD (co_V (cb_W a b) f (max a.length b.length) 0)) ad_d (rd_ok (fun p hp => cb_Le a b f _ p hp 0 0) rfl rfl rfl) hm0 (ad_m0 t) (ad_b0 t) hS
    show holds _ [] a' w' (.run (cr cb_c))
    refine am_go hF (fun e he => ?_) _ (ad_e1 t) hS fun ρ M' a' w' hS => ⟨.inr rfl, _, ρ, M', hS, ad_x1 t⟩
    simp only [List.mem_cons, List.not_mem_nil, or_false] at he
    rcases he with rfl | rfl
    · refine peOf_ok (fun _ _ => by simp [go_sem]) rfl rfl (cb_Le2 ht) fun M w vs hm0 hv => ?_
      refine Calls.mono (kCollect (W := cb_W a b) (f := f) ad_runs rfl (cb_sm ha hb) (by omega) (cb_Le a b f _) (fun j hj => cb_FR_ok sa sb ha hb (by omega) hj) (fun j hj e he => ?_) (fun j hj => ?_) hm0 hv) fun e w' ⟨u, q1, q2, q3⟩ => ⟨u, q1, @RV1.rv (envD (co_V (cb_W a b) f (max a.length b.length) 0)) noR M w' _ _ (aL_in q2), q3⟩
      · rw [List.mem_singleton] at he
        subst he
        exact pCoef_ok (cb_FR_ok sa sb ha hb (by omega) hj)
      · rw [← hf]
        simp [ad_q, qD, lD, zD, co_V, cb_W]
    · exact pTrim_ok hF
  · have := aL_out (ρ := ρ) e2
    simp only [lD] at this
    rw [← hf] at this
    exact this
end Go.Proofs.YtgaehhapjnbieaaGreat
namespace Go.Proofs.YtgaehhapjnbieaaGreat
open Go.RowKit
theorem rvs_to {V V' : VL} (P : List (AV × AV)) (hP : ∀ p ∈ P, Le V V' p) {xs ys : List AV} (h : wkVs (idD P) [] xs ys = true) (ho : ys.all AV.one = true) {ρ : Rho} {M : Nat → Prop} {w : World} {vs : List Value} (hv : @RVs (envD V) ρ M w xs vs) : @RVs (envD V') noR M w ys vs := by
  have h1 : @RVs (envD V') (rhoK (idD P) ρ) (resM (idD P) ρ M) w ys vs := wkVs_rvs (rd_ok hP rfl rfl rfl) ⟨fun p hp => (by cases hp), fun o b g c hm => (by cases hm)⟩ h hv ho
  have e1 : rhoK (idD P) ρ = noR := by
    funext o
    unfold rhoK
    rw [if_neg]
    intro hk
    unfold Rd.keep at hk
    rw [Bool.and_eq_true] at hk
    exact absurd (Nat.le_of_ble_eq_true hk.1) (by show ¬ o + 1 ≤ 0; omega)
  have e2 : resM (idD P) ρ M = M := by
    funext b
    exact propext ⟨fun h => h.1, fun h => ⟨h, fun o c hm => (by cases hm)⟩⟩
  rw [e1, e2] at h1
  exact h1
def LCall (f : Nat) (M : Nat → Prop) (w : World) (vs : List Value) (l : List Rat) : Prop := Calls Tryz.prog f vs.toArray w fun e w' => ∃ u, e = .returned u ∧ (XP.rats l).p M w' [u] ∧ Below w.heap.size w w'
theorem LCall.rv {f : Nat} {M : Nat → Prop} {w : World} {vs : List Value} {l : List Rat} (h : LCall f M w vs l) {V : VL} {e : CE} {ρ : Rho} (he : lD V e = l) : Calls Tryz.prog f vs.toArray w fun e' w' => ∃ u, e' = .returned u ∧ @RV (envD V) ρ M w' (aL e) u ∧ Below w.heap.size w w' :=
  Calls.mono h fun _ w' ⟨u, q1, q2, q3⟩ => ⟨u, q1, @RV1.rv (envD V) ρ M w' _ _ (aL_in (by rw [he]; exact q2)), q3⟩
theorem LCall.of {f : Nat} {V : VL} {e : CE} {ρ : Rho} {M : Nat → Prop} {w : World} {vs : List Value} {l : List Rat} (he : lD V e = l) (h : Calls Tryz.prog f vs.toArray w fun e' w' => ∃ u, e' = .returned u ∧ @RV (envD V) ρ M w' (aL e) u ∧ Below w.heap.size w w') : LCall f M w vs l :=
  Calls.mono h fun _ w' ⟨u, q1, q2, q3⟩ => ⟨u, q1, by have := aL_out (ρ := ρ) q2; rw [he] at this; exact this, q3⟩
def ab_V (a b r : List Rat) : VL := ⟨fun k => match k with | 1 => (a.length : Int) | 2 => (b.length : Int) | _ => 0, fun k => match k with | 0 => a | 1 => b | 10 => r | _ => [], fun _ => 0, fun _ => []⟩
def fa0 : Fa := ⟨[], [], [], [], [], [], []⟩
theorem fa0_ok {V : VL} (h0 : V.z 0 = 0) (sm : ∀ k, -1152921504606846976 ≤ V.z k ∧ V.z k ≤ 1152921504606846976) : FaOK V fa0 := ⟨h0, sm, fun _ h => (by cases h), fun _ h => (by cases h), fun _ h => (by cases h), fun _ h => (by cases h), fun _ h => (by cases h), fun _ h => (by cases h), fun _ h => (by cases h)⟩
theorem ab_sm {a b r : List Rat} (ha : a.length ≤ 1000000) (hb : b.length ≤ 1000000) (k : Nat) : -1152921504606846976 ≤ (ab_V a b r).z k ∧ (ab_V a b r).z k ≤ 1152921504606846976 := cb_sm ha hb k
theorem ab_Le {a b r : List Rat} {f : Nat → Rat} {n : Nat} : ∀ p ∈ cb_P, Le (ab_V a b r) (co_V (cb_W a b) f n 0) p := by
  intro p hp
  simp only [cb_P, List.mem_cons, List.not_mem_nil, or_false] at hp
  rcases hp with rfl | rfl
  · exact rd_L rfl
  · exact rd_L rfl
theorem ab_Le0 {a b r : List Rat} : ∀ p ∈ cb_P, Le (ab_V a b r) (ab_V a b r) p := by
  intro p hp
  simp only [cb_P, List.mem_cons, List.not_mem_nil, or_false] at hp
  rcases hp with rfl | rfl
  · exact rd_L rfl
  · exact rd_L rfl
def ab_xs : List AV := [aL (.v 0), aL (.v 1)]
theorem ab_in {a b r : List Rat} {ρ : Rho} {M : Nat → Prop} {w : World} {va vb : Value} (ha : (XP.rats a).p M w [va]) (hb : (XP.rats b).p M w [vb]) : @RVs (envD (ab_V a b r)) ρ M w ab_xs [va, vb] := ⟨va, _, rfl, aL_in (V := ab_V a b r) (e := .v 0) ha, vb, _, rfl, aL_in (V := ab_V a b r) (e := .v 1) hb, rfl⟩
set_option maxRecDepth 100000
noncomputable def ad2_f : Func := Tryz.f20
noncomputable def ad2_c : Code := bodyOf ad2_f
noncomputable def ad2_pe : PE := peOf 71 cb_P ad_xs (aL (.v 10))
theorem ad2_e : runF (tbF fa0 [ad2_pe]) plainL 100 100 (.run ad2_c) [] (begS 8 ab_xs) = some (.done .ret (stopS (runF (tbF fa0 [ad2_pe]) plainL 100 100 (.run ad2_c) [] (begS 8 ab_xs)))) := by kernel_rfl
theorem ad2_x : endA ad2_f (stopS (runF (tbF fa0 [ad2_pe]) plainL 100 100 (.run ad2_c) [] (begS 8 ab_xs))) = some (aL (.v 10)) := by kernel_rfl
theorem ad2_w : wkVs (idD cb_P) [] ad_xs ad_xs = true := by kernel_rfl
theorem ad2_o : ad_xs.all AV.one = true := by kernel_rfl
theorem ad2_b : ad2_f.body = some ad2_c := by kernel_rfl
theorem ad2_n : ad2_f.ntmps = 8 := by kernel_rfl
theorem kAddL {a b : List Rat} (sa : ∀ x ∈ a, RSm x 99000000) (sb : ∀ x ∈ b, RSm x 99000000) (ha : a.length ≤ 1000000) (hb : b.length ≤ 1000000) {M : Nat → Prop} {w : World} {va vb : Value} (hm0 : ∀ b, M b → b < w.heap.size) (hva : (XP.rats a).p M w [va]) (hvb : (XP.rats b).p M w [vb]) : LCall 20 M w [va, vb] (addC a b) := by
  refine LCall.of (V := ab_V a b (addC a b)) (e := .v 10) (ρ := noR) rfl (am_flat .ret (.inr rfl) (fa0_ok rfl (ab_sm ha hb)) (fun e he => ?_) Tryz.func20 ad2_b (by rfl) ad2_n (by decide) ad2_e ad2_x hm0 (ab_in hva hvb))
  rw [List.mem_singleton] at he
  subst he
  refine peOf_ok (fun _ _ => by simp [go_sem]) ad2_o rfl ab_Le0 fun M w vs hm0 hv => ?_
  exact LCall.rv (show LCall _ M w vs _ from kAddC sa sb ha hb hm0 (rvs_to cb_P ab_Le ad2_w ad2_o hv)) rfl
noncomputable def pAddL (F : Fa) : PE := ⟨20, fun xs => match xs with
  | [.ext 1 false (.ap 51 x _), .ext 1 false (.ap 51 y _)] => match lkC F.bd x, lkC F.len x, lkC F.bd y, lkC F.len y with
    | some b, some n, some c, some m => if Nat.ble b 99000000 && Nat.ble c 99000000 && leI F n (0, 1000000) && leI F m (0, 1000000) then some (aL (.ap 71 x y)) else none
    | _, _, _, _ => none
  | _ => none⟩
theorem pAddL_ok {V : VL} {F : Fa} (hF : FaOK V F) : @PE.ok (envD V) (pAddL F) := by
  intro xs r e
  refine ⟨fun _ _ => by simp [pAddL, go_sem], fun ρ M w vs hm0 hv => ?_⟩
  simp only [pAddL] at e
  split at e
  · rename_i x dx y dy
    split at e
    · rename_i b n c m hb hn hc hm
      split at e
      · rename_i hh
        simp only [Bool.and_eq_true] at hh
        obtain ⟨⟨⟨c1, c2⟩, c3⟩, c4⟩ := hh
        cases e
        have c1 := Nat.le_of_ble_eq_true c1
        have c2 := Nat.le_of_ble_eq_true c2
        have c3 := leI_sound hF c3
        have c4 := leI_sound hF c4
        rw [z0M hF] at c3 c4
        obtain ⟨va, _, rfl, h1, vb, _, rfl, h2, h3⟩ := hv
        have h3 : _ = [] := h3
        subst h3
        have l1 := hF.len _ (lkC_mem hn)
        have l2 := hF.len _ (lkC_mem hm)
        have e1 : iD V n = V.z n.1 + n.2 := rfl
        have e2 : iD V m = V.z m.1 + m.2 := rfl
        simp only [] at l1 l2
        have s1 := hF.bd _ (lkC_mem hb)
        have s2 := hF.bd _ (lkC_mem hc)
        exact (kAddL (a := lD V x) (b := lD V y) (fun z hz => (s1 z hz).mono c1) (fun z hz => (s2 z hz).mono c2) (by omega) (by omega) hm0 (aL_out h1) (aL_out h2)).rv (by simp only [lD])
      · cases e
    · cases e
  · cases e
end Go.Proofs.YtgaehhapjnbieaaGreat
namespace Go.Proofs.YtgaehhapjnbieaaGreat
open Go.RowKit
noncomputable def eq_f : Func := Tryz.f17
noncomputable def eq_c : Code := bodyOf eq_f
noncomputable def eq_b : Code := lpB eq_c []
noncomputable def eq_k : List KFr := lpK eq_c []
def eq_V (a b : List Rat) (i : Nat) : VL := ⟨fun k => match k with | 1 => (a.length : Int) | 2 => (b.length : Int) | 3 => (i : Int) | _ => 0, fun k => match k with | 0 => a | 1 => b | _ => [], fun _ => 0, fun _ => []⟩
def eq_top : CE := .ap 32 (.ap 30 (.v 0) (.i 3 0)) (.ap 30 (.v 1) (.i 3 0))
def eq_L : List (CE × Nat × Int) := [(.v 0, 1, 0), (.v 1, 2, 0)]
def eq_F1 : Fa := ⟨[(1, 2, -1)], eq_L, [], [], [], [], []⟩
def eq_F2 : Fa := ⟨[(2, 1, -1)], eq_L, [], [], [], [], []⟩
def eq_F0 : Fa := ⟨[(1, 2, 0), (2, 1, 0)], eq_L, [], [], [], [], []⟩
def eq_FR (t : Bool) : Fa := ⟨[(0, 3, 0), (3, 1, -1), (3, 2, -1)], eq_L, [(.v 0, 140000000), (.v 1, 140000000)], [(eq_top, t)], [], [], []⟩
def eq_FX : Fa := ⟨[(1, 3, 0)], eq_L, [], [], [], [], []⟩
def eq_s : Fm := mkS 27 [(0, aL (.v 0)), (1, aL (.v 1)), (5, aI 3 0)] [] 600
noncomputable def eq_r1 := runF (tbF eq_F1 []) plainL 100 100 (.run eq_c) [] (begS 27 ab_xs)
noncomputable def eq_r2 := runF (tbF eq_F2 []) plainL 100 100 (.run eq_c) [] (begS 27 ab_xs)
noncomputable def eq_r0 := runF (tbF eq_F0 []) plainL 100 100 (.run eq_c) [] (begS 27 ab_xs)
noncomputable def eq_rt := runF (tbF (eq_FR true) []) plainL 100 100 (.run eq_b) [] eq_s
noncomputable def eq_rf := runF (tbF (eq_FR false) []) plainL 100 100 (.run eq_b) [] eq_s
noncomputable def eq_rx := runF (tbF eq_FX []) plainL 100 100 (.run eq_b) [] eq_s
noncomputable def eq_y1 := runF (tbF fa0 []) plainL 100 100 (.at_ .ret) eq_k (stopS eq_rf)
noncomputable def eq_y2 := runF (tbF fa0 []) plainL 100 100 (.at_ (.ext 0)) eq_k (stopS eq_rx)
def eq_d0 : Rd := ⟨(.val (.int .i64 0), aI 3 0) :: cb_P, [], [], [], [], 600⟩
def eq_dr : Rd := ⟨(aI 3 1, aI 3 0) :: cb_P, [], [], [], [], 600⟩
set_option maxRecDepth 100000
theorem eq_e1 : eq_r1 = some (.done .ret (stopS eq_r1)) := by kernel_rfl
theorem eq_e2 : eq_r2 = some (.done .ret (stopS eq_r2)) := by kernel_rfl
theorem eq_e0 : eq_r0 = some (.loop eq_b eq_k (stopS eq_r0)) := by kernel_rfl
theorem eq_et : eq_rt = some (.done .nor (stopS eq_rt)) := by kernel_rfl
theorem eq_ef : eq_rf = some (.done .ret (stopS eq_rf)) := by kernel_rfl
theorem eq_ex : eq_rx = some (.done (.ext 0) (stopS eq_rx)) := by kernel_rfl
theorem eq_u1 : eq_y1 = some (.done .ret (stopS eq_y1)) := by kernel_rfl
theorem eq_u2 : eq_y2 = some (.done .ret (stopS eq_y2)) := by kernel_rfl
theorem eq_x1 : endA eq_f (stopS eq_r1) = some (.val (.bool false)) := by kernel_rfl
theorem eq_x2 : endA eq_f (stopS eq_r2) = some (.val (.bool false)) := by kernel_rfl
theorem eq_m0 : wkF eq_d0 16 (stopS eq_r0) eq_s = true := by kernel_rfl
theorem eq_mr : wkF eq_dr 16 (stopS eq_rt) eq_s = true := by kernel_rfl
theorem eq_b0 : below 16 eq_s.H = below 16 (stopS eq_r0).H := by kernel_rfl
theorem eq_br : below 16 eq_s.H = below 16 (stopS eq_rt).H := by kernel_rfl
def eq_fin (t : Bool) : Fm := mkS 27 [(4, .val (.bool t))] [] 900
def eq_dx (t : Bool) : Rd := ⟨[(.val (.bool t), .val (.bool t))], [], [], [], [], 900⟩
theorem eq_lx {V V' : VL} (t : Bool) : ∀ p ∈ (eq_dx t).vs, Le V V' p := by
  intro p hp
  simp only [eq_dx, List.mem_singleton] at hp
  subst hp
  intro ρ ρ' M w cs r
  unfold Rp at r ⊢
  exact r
theorem eq_mf : wkF (eq_dx false) 16 (stopS eq_y1) (eq_fin false) = true := by kernel_rfl
theorem eq_mt : wkF (eq_dx true) 16 (stopS eq_y2) (eq_fin true) = true := by kernel_rfl
theorem eq_bf : below 16 (eq_fin false).H = below 16 (stopS eq_y1).H := by kernel_rfl
theorem eq_bt : below 16 (eq_fin true).H = below 16 (stopS eq_y2).H := by kernel_rfl
theorem eq_xf : endA eq_f (eq_fin false) = some (.val (.bool false)) := by kernel_rfl
theorem eq_xt : endA eq_f (eq_fin true) = some (.val (.bool true)) := by kernel_rfl
theorem eq_bo : eq_f.body = some eq_c := by kernel_rfl
theorem eq_bg : (⟨ab_xs ++ List.replicate (eq_f.ntmps - ab_xs.length) (.val undef), [], 16, []⟩ : Fm) = begS 27 ab_xs := by kernel_rfl
theorem eq_ln : Nat.ble ab_xs.length eq_f.ntmps = true := by kernel_rfl
section
variable {a b : List Rat}
theorem eq_sm (ha : a.length ≤ 1000000) (hb : b.length ≤ 1000000) {i : Nat} (hi : i ≤ 1000000) (k : Nat) : -1152921504606846976 ≤ (eq_V a b i).z k ∧ (eq_V a b i).z k ≤ 1152921504606846976 := by
  show -1152921504606846976 ≤ (match k with | 1 => (a.length : Int) | 2 => (b.length : Int) | 3 => (i : Int) | _ => 0) ∧ (match k with | 1 => (a.length : Int) | 2 => (b.length : Int) | 3 => (i : Int) | _ => 0) ≤ (1152921504606846976 : Int)
  split <;> omega
theorem eq_le {i j : Nat} : ∀ p ∈ cb_P, Le (eq_V a b i) (eq_V a b j) p := by
  intro p hp
  simp only [cb_P, List.mem_cons, List.not_mem_nil, or_false] at hp
  rcases hp with rfl | rfl
  · exact rd_L rfl
  · exact rd_L rfl
theorem eq_len {i : Nat} : ∀ x ∈ eq_L, ((lD (eq_V a b i) x.1).length : Int) = (eq_V a b i).z x.2.1 + x.2.2 := by
  simp [eq_L, eq_V, lD]
theorem kEqualL (sa : ∀ x ∈ a, RSm x 140000000) (sb : ∀ x ∈ b, RSm x 140000000) (ha : a.length ≤ 1000000) (hb : b.length ≤ 1000000) {M : Nat → Prop} {w : World} {va vb : Value} (hm0 : ∀ b, M b → b < w.heap.size) (hva : (XP.rats a).p M w [va]) (hvb : (XP.rats b).p M w [vb]) :
    Calls Tryz.prog 17 #[va, vb] w fun e w' => e = .returned (.bool (decide (a = b))) ∧ Below w.heap.size w w' := by
  have hv : @RVs (envD (eq_V a b 0)) noR M w ab_xs [va, vb] := ⟨va, _, rfl, aL_in (V := eq_V a b 0) (e := .v 0) hva, vb, _, rfl, aL_in (V := eq_V a b 0) (e := .v 1) hvb, rfl⟩
  have F0 : ∀ {i}, i ≤ 1000000 → FaOK (eq_V a b i) fa0 := fun h => fa0_ok rfl (eq_sm ha hb h)
  refine Calls.mono (@am_calls (envD (eq_V a b 0)) _ eq_f eq_c ab_xs ab_xs (.val (.bool (decide (a = b)))) noR M w [va, vb] Tryz.func17 eq_bo (by rfl) (Nat.le_of_ble_eq_true eq_ln) hm0 hv fun a' hS => ?_) fun e w' ⟨u, e1, e2, e3⟩ => ⟨by rw [e1, show u = _ from e2], e3⟩
  rw [eq_bg] at hS
  show holds _ [] a' w (.run eq_c)
  by_cases hl : a.length = b.length
  · have F1 : FaOK (eq_V a b 0) eq_F0 := ⟨rfl, eq_sm ha hb (by omega), by simp [eq_F0, eq_V, hl], eq_len, by simp [eq_F0], by simp [eq_F0], by simp [eq_F0], by simp [eq_F0], by simp [eq_F0]⟩
    refine am_go F1 (fun _ h => by cases h) _ eq_e0 hS fun ρ M' a' w' hS => ?_
    obtain ⟨ρ, M', hS⟩ := am_move (E' := envD (eq_V a b 0)) eq_d0 (rd_ok (fun p hp => by
      rcases List.mem_cons.1 hp with rfl | hp
      · exact rd_Ic rfl
      · exact eq_le p hp) rfl rfl rfl) hm0 eq_m0 eq_b0 hS
    refine am_loop (fun i => a.length - i) (eq_V a b) (fun i => i ≤ a.length ∧ ∀ j, j < i → a.getD j 0 = b.getD j 0) eq_s ?_ 0 ⟨Nat.zero_le _, fun j hj => by omega⟩ hS
    intro i ⟨hi, hE⟩ ρ M' a' w' hS
    show holds _ [] a' w' (.run eq_b)
    by_cases hil : i < a.length
    · have FR : ∀ t, decide (a.getD i 0 = b.getD i 0) = t → FaOK (eq_V a b i) (eq_FR t) := fun t ht => ⟨rfl, eq_sm ha hb (by omega), by simp [eq_FR, eq_V]; omega, eq_len, by simpa [eq_FR, eq_V, lD] using ⟨sa, sb⟩, by
        intro x hx
        simp only [eq_FR, List.mem_singleton] at hx
        subst hx
        rw [← ht]
        show decide (qD (eq_V a b i) eq_top = 0) = decide (a.getD i 0 = b.getD i 0)
        have : qD (eq_V a b i) eq_top = a.getD i 0 - b.getD i 0 := by simp [eq_top, qD, lD, zD, eq_V]
        rw [this]
        exact decide_eq_decide.2 ⟨fun h => by grind, fun h => by grind⟩, by simp [eq_FR], by simp [eq_FR], by simp [eq_FR]⟩
      by_cases ht : a.getD i 0 = b.getD i 0
      · refine am_go (FR true (decide_eq_true ht)) (fun _ h => by cases h) _ eq_et hS fun ρ M' a' w' hS => ?_
        obtain ⟨ρ, M', hS⟩ := am_move (E' := envD (eq_V a b (i + 1))) eq_dr (rd_ok (fun p hp => by
          rcases List.mem_cons.1 hp with rfl | hp
          · exact rd_I (by show (i : Int) + 1 = ((i + 1 : Nat) : Int) + 0; omega)
          · exact eq_le p hp) rfl rfl rfl) hm0 eq_mr eq_br hS
        exact ⟨i + 1, ρ, M', ⟨hil, fun j hj => if e : j = i then e ▸ ht else hE j (by omega)⟩, by omega, hS⟩
      · refine am_go (FR false (decide_eq_false ht)) (fun _ h => by cases h) _ eq_ef hS fun ρ M' a' w' hS => ?_
        show holds _ eq_k a' w' (.at_ .ret)
        refine am_go (F0 (by omega)) (fun _ h => by cases h) _ eq_u1 hS fun ρ M' a' w' hS => ?_
        obtain ⟨ρ, M', hS⟩ := am_move (E' := envD (eq_V a b 0)) (eq_dx false) (rd_ok (eq_lx false) rfl rfl rfl) hm0 eq_mf eq_bf hS
        refine ⟨.inr rfl, _, ρ, M', hS, ?_⟩
        rw [eq_xf, decide_eq_false fun e => ht (by rw [e])]
    · have hil : i = a.length := by omega
      have FX : FaOK (eq_V a b i) eq_FX := ⟨rfl, eq_sm ha hb (by omega), by simp [eq_FX, eq_V]; omega, eq_len, by simp [eq_FX], by simp [eq_FX], by simp [eq_FX], by simp [eq_FX], by simp [eq_FX]⟩
      refine am_go FX (fun _ h => by cases h) _ eq_ex hS fun ρ M' a' w' hS => ?_
      show holds _ eq_k a' w' (.at_ (.ext 0))
      refine am_go (F0 (by omega)) (fun _ h => by cases h) _ eq_u2 hS fun ρ M' a' w' hS => ?_
      obtain ⟨ρ, M', hS⟩ := am_move (E' := envD (eq_V a b 0)) (eq_dx true) (rd_ok (eq_lx true) rfl rfl rfl) hm0 eq_mt eq_bt hS
      refine ⟨.inr rfl, _, ρ, M', hS, ?_⟩
      have hab : a = b := by
        apply List.ext_getElem hl
        intro j h1 h2
        have := hE j (by omega)
        simpa [List.getD_eq_getElem?_getD, List.getElem?_eq_getElem h1, List.getElem?_eq_getElem h2] using this
      rw [eq_xt, decide_eq_true hab]
  · have hne : ¬ a = b := fun e => hl (by rw [e])
    rw [decide_eq_false hne]
    by_cases h : a.length < b.length
    · have F1 : FaOK (eq_V a b 0) eq_F1 := ⟨rfl, eq_sm ha hb (by omega), by simp [eq_F1, eq_V]; omega, eq_len, by simp [eq_F1], by simp [eq_F1], by simp [eq_F1], by simp [eq_F1], by simp [eq_F1]⟩
      exact am_go F1 (fun _ h => by cases h) _ eq_e1 hS fun ρ M' a' w' hS => ⟨.inr rfl, _, ρ, M', hS, eq_x1⟩
    · have F2 : FaOK (eq_V a b 0) eq_F2 := ⟨rfl, eq_sm ha hb (by omega), by simp [eq_F2, eq_V]; omega, eq_len, by simp [eq_F2], by simp [eq_F2], by simp [eq_F2], by simp [eq_F2], by simp [eq_F2]⟩
      exact am_go F2 (fun _ h => by cases h) _ eq_e2 hS fun ρ M' a' w' hS => ⟨.inr rfl, _, ρ, M', hS, eq_x2⟩
end
noncomputable def pEqualL (F : Fa) (K : List (CE × CE × Bool)) : PE := ⟨17, fun xs => match xs with
  | [.ext 1 false (.ap 51 x _), .ext 1 false (.ap 51 y _)] => match lkC F.bd x, lkC F.len x, lkC F.bd y, lkC F.len y with
    | some b, some n, some c, some m => if Nat.ble b 140000000 && Nat.ble c 140000000 && leI F n (0, 1000000) && leI F m (0, 1000000) then (K.find? fun k => CE.beq k.1 x && CE.beq k.2.1 y).map fun k => .val (.bool k.2.2) else none
    | _, _, _, _ => none
  | _ => none⟩
theorem pEqualL_ok {V : VL} {F : Fa} {K : List (CE × CE × Bool)} (hF : FaOK V F) (hK : ∀ k ∈ K, decide (lD V k.1 = lD V k.2.1) = k.2.2) : @PE.ok (envD V) (pEqualL F K) := by
  intro xs r e
  refine ⟨fun _ _ => by simp [pEqualL, go_sem], fun ρ M w vs hm0 hv => ?_⟩
  simp only [pEqualL] at e
  split at e
  · rename_i x dx y dy
    split at e
    · rename_i b n c m hb hn hc hm
      split at e
      · rename_i hh
        simp only [Bool.and_eq_true] at hh
        obtain ⟨⟨⟨c1, c2⟩, c3⟩, c4⟩ := hh
        obtain ⟨k, hk, rfl⟩ := Option.map_eq_some_iff.1 e
        have hk1 := List.find?_some hk
        have hk2 := List.mem_of_find?_eq_some hk
        rw [Bool.and_eq_true] at hk1
        have e1 := CE.beq_eq hk1.1
        have e2 := CE.beq_eq hk1.2
        have hkk := hK k hk2
        rw [e1, e2] at hkk
        have c1 := Nat.le_of_ble_eq_true c1
        have c2 := Nat.le_of_ble_eq_true c2
        have c3 := leI_sound hF c3
        have c4 := leI_sound hF c4
        rw [z0M hF] at c3 c4
        obtain ⟨va, _, rfl, h1, vb, _, rfl, h2, h3⟩ := hv
        have h3 : _ = [] := h3
        subst h3
        have l1 := hF.len _ (lkC_mem hn)
        have l2 := hF.len _ (lkC_mem hm)
        have e1 : iD V n = V.z n.1 + n.2 := rfl
        have e2 : iD V m = V.z m.1 + m.2 := rfl
        simp only [] at l1 l2
        have s1 := hF.bd _ (lkC_mem hb)
        have s2 := hF.bd _ (lkC_mem hc)
        refine Calls.mono (kEqualL (a := lD V x) (b := lD V y) (fun z hz => (s1 z hz).mono c1) (fun z hz => (s2 z hz).mono c2) (by omega) (by omega) hm0 (aL_out h1) (aL_out h2)) fun e w' ⟨q1, q2⟩ => ⟨_, q1, ?_, q2⟩
        rw [hkk]
        rfl
      · cases e
    · cases e
  · cases e
end Go.Proofs.YtgaehhapjnbieaaGreat
namespace Go.Proofs.YtgaehhapjnbieaaGreat
open Go.RowKit
def sc_W (a : List Rat) (c : Rat) : VL := ⟨fun k => match k with | 1 => (a.length : Int) | _ => 0, fun k => match k with | 0 => a | _ => [], fun k => match k with | 0 => c | _ => 0, fun _ => []⟩
def sc_P : List (AV × AV) := [(aL (.v 0), aL (.v 0)), (aQ (.v 0) 99000000, aQ (.v 0) 99000000)]
def sc_FR : Fa := ⟨[(0, 3, 0), (3, 4, -1), (3, 1, -1)], [(.v 0, 1, 0)], [(.v 0, 99000000)], [], [(.v 0, 4, 0)], [], []⟩
def sc_F : Fa := ⟨[(0, 1, 0), (4, 0, 1000000)], [(.v 0, 1, 0), (.v 9, 4, 0)], [(.v 0, 99000000), (.v 9, 198000000)], [], [], [], []⟩
def sc_q : CE := .ap 33 (.v 0) (.ap 30 (.v 0) (.i 3 0))
noncomputable def sc_cl : AV := .fn 79 [] [.rptr [aQ (.v 0) 99000000], .rptr [aL (.v 0)]]
noncomputable def sc_f : Func := Tryz.f26
noncomputable def sc_c : Code := bodyOf sc_f
def sc_xs : List AV := [aL (.v 0), aQ (.v 0) 99000000]
def sc_P2 : List (AV × AV) := (aI 1 0, aI 4 0) :: sc_P
noncomputable def sc_pe : PE := peOf 76 sc_P2 [aI 4 0, sc_cl] (aL (.v 9))
def sc_s : Fm := mkS 10 [(2, .rptr [aL (.v 0)]), (3, .rptr [aQ (.v 0) 99000000])] [] 400
noncomputable def sc_r0 := runF (tbF sc_F []) plainL 100 100 (.run (cl sc_c)) [] (begS 10 sc_xs)
noncomputable def sc_r1 := runF (tbF sc_F [sc_pe, pTrim sc_F]) plainL 100 100 (.run (cr sc_c)) [] sc_s
def sc_d : Rd := ⟨sc_P, [], [], [], [16, 32], 400⟩
def di_P : List (AV × AV) := [(aL (.v 0), aL (.v 0))]
def di_FR : Fa := ⟨[(0, 3, 0), (3, 4, -1), (3, 1, -2)], [(.v 0, 1, 0)], [(.v 0, 99000000)], [], [(.v 0, 4, 0)], [], []⟩
def di_F : Fa := ⟨[(0, 1, -1), (4, 0, 1000000)], [(.v 0, 1, 0), (.v 9, 4, 0)], [(.v 0, 99000000), (.v 9, 99000002)], [], [], [], []⟩
def di_F0 : Fa := ⟨[(0, 1, 0), (1, 0, 0)], [(.v 0, 1, 0)], [], [], [], [], []⟩
def di_q : CE := .ap 33 (.ap 37 (.i 3 1) (.lit 0)) (.ap 30 (.v 0) (.i 3 1))
noncomputable def di_cl : AV := .fn 80 [] [.rptr [aL (.v 0)]]
noncomputable def di_f : Func := Tryz.f30
noncomputable def di_c : Code := bodyOf di_f
def di_xs : List AV := [aL (.v 0)]
def di_P2 : List (AV × AV) := (aI 1 (-1), aI 4 0) :: di_P
noncomputable def di_pe : PE := peOf 76 di_P2 [aI 4 0, di_cl] (aL (.v 9))
def di_s : Fm := mkS 12 [(1, .rptr [aL (.v 0)])] [] 400
noncomputable def di_r0 := runF (tbF fa0 []) plainL 100 100 (.run (cl di_c)) [] (begS 12 di_xs)
noncomputable def di_r1 := runF (tbF di_F [di_pe, pTrim di_F]) plainL 100 100 (.run (cr di_c)) [] di_s
noncomputable def di_r2 := runF (tbF di_F0 []) plainL 100 100 (.run (cr di_c)) [] di_s
def di_d : Rd := ⟨di_P, [], [], [], [16], 400⟩
set_option maxRecDepth 100000
theorem sc_e : sc_c = .seq (cl sc_c) (cr sc_c) := by kernel_rfl
theorem sc_b : sc_f.body = some sc_c := by kernel_rfl
theorem sc_runs : CoRuns sc_FR [] sc_P sc_cl sc_q 198000000 := ⟨by kernel_rfl, by kernel_rfl, by kernel_rfl, by kernel_rfl, by kernel_rfl, by kernel_rfl, by kernel_rfl, by kernel_rfl, by kernel_rfl, by kernel_rfl, by kernel_rfl⟩
theorem sc_e0 : sc_r0 = some (.done .nor (stopS sc_r0)) := by kernel_rfl
theorem sc_m0 : wkF sc_d 16 (stopS sc_r0) sc_s = true := by kernel_rfl
theorem sc_b0 : below 16 sc_s.H = below 16 (stopS sc_r0).H := by kernel_rfl
theorem sc_e1 : sc_r1 = some (.done .ret (stopS sc_r1)) := by kernel_rfl
theorem sc_x1 : endA sc_f (stopS sc_r1) = some (aL (.ap 70 (.v 9) (.lit 0))) := by kernel_rfl
theorem sc_bg : (⟨sc_xs ++ List.replicate (sc_f.ntmps - sc_xs.length) (.val undef), [], 16, []⟩ : Fm) = begS 10 sc_xs := by kernel_rfl
theorem sc_ln : Nat.ble sc_xs.length sc_f.ntmps = true := by kernel_rfl
theorem di_e : di_c = .seq (cl di_c) (cr di_c) := by kernel_rfl
theorem di_b : di_f.body = some di_c := by kernel_rfl
theorem di_runs : CoRuns di_FR [] di_P di_cl di_q 99000002 := ⟨by kernel_rfl, by kernel_rfl, by kernel_rfl, by kernel_rfl, by kernel_rfl, by kernel_rfl, by kernel_rfl, by kernel_rfl, by kernel_rfl, by kernel_rfl, by kernel_rfl⟩
theorem di_e0 : di_r0 = some (.done .nor (stopS di_r0)) := by kernel_rfl
theorem di_m0 : wkF di_d 16 (stopS di_r0) di_s = true := by kernel_rfl
theorem di_b0 : below 16 di_s.H = below 16 (stopS di_r0).H := by kernel_rfl
theorem di_e1 : di_r1 = some (.done .ret (stopS di_r1)) := by kernel_rfl
theorem di_x1 : endA di_f (stopS di_r1) = some (aL (.ap 70 (.v 9) (.lit 0))) := by kernel_rfl
theorem di_e2 : di_r2 = some (.done .ret (stopS di_r2)) := by kernel_rfl
theorem di_x2 : endA di_f (stopS di_r2) = some (.val (.slice none 0 0)) := by kernel_rfl
theorem di_bg : (⟨di_xs ++ List.replicate (di_f.ntmps - di_xs.length) (.val undef), [], 16, []⟩ : Fm) = begS 12 di_xs := by kernel_rfl
theorem di_ln : Nat.ble di_xs.length di_f.ntmps = true := by kernel_rfl
section
variable {a : List Rat} {c : Rat} {f : Nat → Rat} {n : Nat}
theorem sc_sm (ha : a.length ≤ 1000000) (k : Nat) : -1152921504606846976 ≤ (sc_W a c).z k ∧ (sc_W a c).z k ≤ 1152921504606846976 := by
  show -1152921504606846976 ≤ (match k with | 1 => (a.length : Int) | _ => 0) ∧ (match k with | 1 => (a.length : Int) | _ => 0) ≤ (1152921504606846976 : Int)
  split <;> omega
theorem at99 {l : List Rat} (h : ∀ x ∈ l, RSm x 99000000) (i : Nat) : RSm (l.getD i 0) 99000000 := by
  rw [List.getD_eq_getElem?_getD]
  cases hg : l[i]? with
  | none => exact rsm0.mono (by decide)
  | some x => exact h x (List.mem_of_getElem? hg)
theorem sc_Le : ∀ p ∈ sc_P, ∀ j j', Le (co_V (sc_W a c) f n j) (co_V (sc_W a c) f n j') p := by
  intro p hp j j'
  simp only [sc_P, List.mem_cons, List.not_mem_nil, or_false] at hp
  rcases hp with rfl | rfl
  · exact rd_L rfl
  · exact rd_Q rfl
theorem kScaleL (sa : ∀ x ∈ a, RSm x 99000000) (sc : RSm c 99000000) (ha : a.length ≤ 1000000) {M : Nat → Prop} {w : World} {va vc : Value} (hm0 : ∀ b, M b → b < w.heap.size) (hva : (XP.rats a).p M w [va]) (hvc : (ratF c).p vc w) : LCall 26 M w [va, vc] (scaleC a c) := by
  generalize hf : (fun i => c * a.getD i 0) = f
  have hv : @RVs (envD (co_V (sc_W a c) f a.length 0)) noR M w sc_xs [va, vc] := ⟨va, _, rfl, aL_in (V := co_V (sc_W a c) f a.length 0) (e := .v 0) hva, vc, _, rfl, aQ_in (V := co_V (sc_W a c) f a.length 0) (q := .v 0) hvc sc, rfl⟩
  have hF : FaOK (co_V (sc_W a c) f a.length 0) sc_F := ⟨rfl, co_sm (sc_sm ha) ha (Nat.zero_le _), by simp [sc_F, co_V, sc_W]; omega, by simp [sc_F, co_V, sc_W, lD], by
    intro x hx
    simp only [sc_F, List.mem_cons, List.not_mem_nil, or_false] at hx
    rcases hx with rfl | rfl
    · exact sa
    · intro y hy
      change y ∈ (List.range a.length).map f at hy
      obtain ⟨i, hi, rfl⟩ := List.mem_map.1 hy
      rw [← hf]
      exact (sc.mul (at99 sa i)).mono (j := 198000000) (by decide), by simp [sc_F], by simp [sc_F], by simp [sc_F], by simp [sc_F]⟩
  have hFR : ∀ j, j < a.length → FaOK (co_V (sc_W a c) f a.length j) sc_FR := fun j hj => ⟨rfl, co_sm (sc_sm ha) ha (by omega), by simp [sc_FR, co_V, sc_W]; omega, by simp [sc_FR, co_V, sc_W, lD], by simpa [sc_FR, co_V, sc_W, lD] using sa, by simp [sc_FR], by simp [sc_FR, co_V, sc_W, rD, co_row], by simp [sc_FR], by simp [sc_FR]⟩
  refine LCall.of (V := co_V (sc_W a c) f a.length 0) (e := .ap 70 (.v 9) (.lit 0)) (ρ := noR) ?_ (@am_calls (envD (co_V (sc_W a c) f a.length 0)) _ sc_f sc_c sc_xs sc_xs _ noR M w [va, vc] Tryz.func26 sc_b (by rfl) (Nat.le_of_ble_eq_true sc_ln) hm0 hv fun a' hS => ?_)
  · simp only [lD]
    unfold scaleC
    congr 1
    show (List.range a.length).map f = a.map fun x => c * x
    rw [← hf]
    apply List.ext_getElem
    · simp
    · intro i h1 h2
      have : i < a.length := by simpa using h1
      simp [this]
  · rw [sc_bg] at hS
    rw [sc_e]
    refine wp_seq ?_
    show holds _ [] a' w (.run (cl sc_c))
    refine am_go hF (fun _ h => by cases h) _ sc_e0 hS fun ρ M' a' w' hS => ?_
    obtain ⟨ρ, M', hS⟩ := am_move (E' := envD (co_V (sc_W a c) f a.length 0)) sc_d (rd_ok (fun p hp => sc_Le p hp 0 0) rfl rfl rfl) hm0 sc_m0 sc_b0 hS
    show holds _ [] a' w' (.run (cr sc_c))
    refine am_go hF (fun e he => ?_) _ sc_e1 hS fun ρ M' a' w' hS => ⟨.inr rfl, _, ρ, M', hS, sc_x1⟩
    simp only [List.mem_cons, List.not_mem_nil, or_false] at he
    rcases he with rfl | rfl
    · refine peOf_ok (fun _ _ => by simp [go_sem]) rfl rfl (fun p hp => ?_) fun M w vs hm0 hv => ?_
      · rcases List.mem_cons.1 hp with rfl | hp
        · exact rd_I rfl
        · exact sc_Le p hp 0 0
      · refine LCall.rv (show LCall _ M w vs _ from kCollect (W := sc_W a c) (f := f) sc_runs rfl (sc_sm ha) ha sc_Le hFR (fun j hj e he => by cases he) (fun j hj => ?_) hm0 hv) rfl
        rw [← hf]
        simp [sc_q, qD, lD, zD, co_V, sc_W]
    · exact pTrim_ok hF
theorem di_Le : ∀ p ∈ di_P, ∀ j j', Le (co_V (sc_W a c) f n j) (co_V (sc_W a c) f n j') p := by
  intro p hp j j'
  simp only [di_P, List.mem_cons, List.not_mem_nil, or_false] at hp
  subst hp
  exact rd_L rfl
theorem kDiffL (sa : ∀ x ∈ a, RSm x 99000000) (ha : a.length ≤ 1000000) {M : Nat → Prop} {w : World} {va : Value} (hm0 : ∀ b, M b → b < w.heap.size) (hva : (XP.rats a).p M w [va]) : LCall 30 M w [va] (diffC a) := by
  generalize hf : (fun i => (((i + 1 : Nat) : Int) : Rat) * a.getD (i + 1) 0) = f
  have hn : a.length - 1 ≤ 1000000 := by omega
  have hv : @RVs (envD (co_V (sc_W a 0) f (a.length - 1) 0)) noR M w di_xs [va] := ⟨va, _, rfl, aL_in (V := co_V (sc_W a 0) f (a.length - 1) 0) (e := .v 0) hva, rfl⟩
  have sm := co_sm (W := sc_W a 0) (f := f) (sc_sm ha) hn (Nat.zero_le (a.length - 1))
  have body : ∀ r, (∀ M0 W0 a' w' ρ M', (∀ b, M0 b → b < W0.heap.size) → @FS0 (envD (co_V (sc_W a 0) f (a.length - 1) 0)) W0 M0 di_s ρ M' a' w' → holds (@OutF (envD (co_V (sc_W a 0) f (a.length - 1) 0)) di_f r W0 M0) [] a' w' (.run (cr di_c))) →
      Calls Tryz.prog 30 [va].toArray w fun e w' => ∃ v, e = .returned v ∧ @RV (envD (co_V (sc_W a 0) f (a.length - 1) 0)) noR M w' r v ∧ Below w.heap.size w w' := fun r h => by
    refine @am_calls (envD (co_V (sc_W a 0) f (a.length - 1) 0)) _ di_f di_c di_xs di_xs _ noR M w [va] Tryz.func30 di_b (by rfl) (Nat.le_of_ble_eq_true di_ln) hm0 hv fun a' hS => ?_
    rw [di_bg] at hS
    rw [di_e]
    refine wp_seq ?_
    show holds _ [] a' w (.run (cl di_c))
    refine am_go (fa0_ok rfl sm) (fun _ h => by cases h) _ di_e0 hS fun ρ M' a' w' hS => ?_
    obtain ⟨ρ, M', hS⟩ := am_move (E' := envD (co_V (sc_W a 0) f (a.length - 1) 0)) di_d (rd_ok (fun p hp => di_Le p hp 0 0) rfl rfl rfl) hm0 di_m0 di_b0 hS
    exact h M w a' w' ρ M' hm0 hS
  by_cases h0 : a.length = 0
  · have hF : FaOK (co_V (sc_W a 0) f (a.length - 1) 0) di_F0 := ⟨rfl, sm, by simp [di_F0, co_V, sc_W, h0], by simp [di_F0, co_V, sc_W, lD], by simp [di_F0], by simp [di_F0], by simp [di_F0], by simp [di_F0], by simp [di_F0]⟩
    refine Calls.mono (body (.val (.slice none 0 0)) fun M0 W0 a' w' ρ M' hm0 hS => am_go hF (fun _ h => by cases h) _ di_e2 hS fun ρ M' a' w' hS => ⟨.inr rfl, _, ρ, M', hS, di_x2⟩) fun e w' ⟨u, e1, e2, e3⟩ => ⟨u, e1, ?_, e3⟩
    have e2 : u = .slice none 0 0 := e2
    have ha0 : a = [] := List.length_eq_zero_iff.1 h0
    subst ha0
    rw [e2]
    exact ⟨none, 0, rfl, Nat.le_refl _, fun h => absurd rfl h⟩
  · have hF : FaOK (co_V (sc_W a 0) f (a.length - 1) 0) di_F := ⟨rfl, sm, by simp [di_F, co_V, sc_W]; omega, by simp [di_F, co_V, sc_W, lD], by
      intro x hx
      simp only [di_F, List.mem_cons, List.not_mem_nil, or_false] at hx
      rcases hx with rfl | rfl
      · exact sa
      · intro y hy
        change y ∈ (List.range (a.length - 1)).map f at hy
        obtain ⟨i, hi, rfl⟩ := List.mem_map.1 hy
        have hi : i < a.length - 1 := by simpa using hi
        rw [← hf]
        exact ((RSm.whole (i := 1) (show Sm (((i + 1 : Nat) : Int)) 2 by unfold Sm; omega)).mul (at99 sa (i + 1))).mono (j := 99000002) (by decide), by simp [di_F], by simp [di_F], by simp [di_F], by simp [di_F]⟩
    have hFR : ∀ j, j < a.length - 1 → FaOK (co_V (sc_W a 0) f (a.length - 1) j) di_FR := fun j hj => ⟨rfl, co_sm (sc_sm ha) hn (by omega), by simp [di_FR, co_V, sc_W]; omega, by simp [di_FR, co_V, sc_W, lD], by simpa [di_FR, co_V, sc_W, lD] using sa, by simp [di_FR], by simp [di_FR, co_V, sc_W, rD, co_row], by simp [di_FR], by simp [di_FR]⟩
    refine LCall.of (V := co_V (sc_W a 0) f (a.length - 1) 0) (e := .ap 70 (.v 9) (.lit 0)) (ρ := noR) ?_ (body _ fun M0 W0 a' w' ρ M' hm0 hS => am_go hF (fun e he => ?_) _ di_e1 hS fun ρ M' a' w' hS => ⟨.inr rfl, _, ρ, M', hS, di_x1⟩)
    · simp only [lD]
      rw [← hf]
      rfl
    · simp only [List.mem_cons, List.not_mem_nil, or_false] at he
      rcases he with rfl | rfl
      · refine peOf_ok (fun _ _ => by simp [go_sem]) rfl rfl (fun p hp => ?_) fun M w vs hm0 hv => ?_
        · rcases List.mem_cons.1 hp with rfl | hp
          · exact rd_I (by show (a.length : Int) + -1 = ((a.length - 1 : Nat) : Int) + 0; omega)
          · exact di_Le p hp 0 0
        · refine LCall.rv (show LCall _ M w vs _ from kCollect (W := sc_W a 0) (f := f) di_runs rfl (sc_sm ha) hn di_Le hFR (fun j hj e he => by cases he) (fun j hj => ?_) hm0 hv) rfl
          rw [← hf]
          have : ((j : Int) + 1).toNat = j + 1 := by omega
          simp [di_q, qD, lD, zD, co_V, sc_W, this]
      · exact pTrim_ok hF
end
end Go.Proofs.YtgaehhapjnbieaaGreat
