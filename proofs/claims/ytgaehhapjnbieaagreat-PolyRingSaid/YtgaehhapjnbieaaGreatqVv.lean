/- An abstract machine: contracts of functions, and loops. -/
import Derived.Test.YtgaehhapjnbieaaGreatqVk
import Derived.Test.YtgaehhapjnbieaaGreatqVm
set_option linter.unusedSectionVars false
set_option linter.unusedVariables false
set_option linter.unusedSimpArgs false
namespace Go.Proofs.YtgaehhapjnbieaaGreat
open Go.RowKit
abbrev noR : Rho := fun _ => none
section
variable [Env]
noncomputable def endA (fn : Func) (s : Fm) : Option AV := match resA s fn.results.toList with
  | some l => match outA l with
    | some r => renV (fun _ => none) r
    | none => none
  | none => none
def FS0 (W0 : World) (M0 : Nat → Prop) (s : Fm) (ρ : Rho) (M : Nat → Prop) (a : Act) (w : World) : Prop := FS (fun b => W0.heap.size ≤ b) W0 noR M0 [] 16 s ρ M a w
def OutF (fn : Func) (r : AV) (W0 : World) (M0 : Nat → Prop) (e : Exit) (a : Act) (w : World) : Prop := (e = .normal ∨ e = .ret) ∧ ∃ s ρ M, FS0 W0 M0 s ρ M a w ∧ endA fn s = some r
theorem am_calls {f : Nat} {fn : Func} {c : Code} {xs xs' : List AV} {r : AV} {ρ : Rho} {M : Nat → Prop} {w : World} {vs : List Value} (hf : Tryz.prog.funcs[f]? = some fn) (hb : fn.body = some c) (hx : renL (fun _ => none) xs = some xs') (hlen : xs'.length ≤ fn.ntmps) (hbnd : ∀ b, M b → b < w.heap.size) (hv : RVs ρ M w xs vs)
    (h : ∀ a, FS0 w M ⟨xs' ++ List.replicate (fn.ntmps - xs'.length) (.val undef), [], 16, []⟩ noR M a w → c.wp Tryz.prog (OutF fn r w M) a w) :
    Calls Tryz.prog f vs.toArray w fun e w' => ∃ v, e = .returned v ∧ RV ρ M w' r v ∧ Below w.heap.size w w' := by
  have hv : RVs noR M w xs' vs := ren_rvs (σ := fun _ => none) (fun _ _ _ e => by cases e) (fun _ h => h) hx hv
  refine calls_of_wp hf hb (Code.wp_mono ?_ (h { tmps := vs.toArray ++ Array.replicate (fn.ntmps - vs.toArray.size) undef, defers := [] } ?_))
  · intro e a' w' ⟨he, s, ρ', M', hF, hr⟩
    unfold endA at hr
    split at hr
    · rename_i l hl
      split at hr
      · rename_i r0 hr0
        obtain ⟨v, e1, e2⟩ := results_sound hF (fun _ h => h) hl hr0
        have e3 : RV ρ M w' r v := ren_rv (σ := fun _ => none) (fun _ _ _ e => by cases e) hF.sup hr e2
        have hfin : a'.defers = [] ∧ ∃ v, (results fn a'.tmps).run Tryz.prog w' = .ok v w' ∧ ∃ u, Ending.returned v = .returned u ∧ RV ρ M w' r u ∧ Below w.heap.size w w' := ⟨hF.defers, v, e1, v, rfl, e3, ⟨hF.fr.os, hF.fr.tape, hF.fr.output, hF.fr.size, fun b hb => hF.fr.keep b hb (by omega)⟩⟩
        rcases he with rfl | rfl
        · exact hfin
        · exact hfin
      · cases hr
    · cases hr
  · have hvl : vs.length = xs'.length := hv.len
    refine ⟨by simp [hvl], rfl, fun t x hx => ?_, ⟨fun o b e => (by cases e), fun o o' b b' g c c' e => (by cases e)⟩, fun o p e => (by cases e), Nat.le_refl _, hbnd, FrA.refl _ _, Tr.refl _ _ _, fun _ h => h, fun _ h => .inl h, fun o p e => .inl e, fun o _ _ => ⟨rfl, fun _ _ _ e => (by cases e)⟩⟩
    have hx : (xs' ++ List.replicate (fn.ntmps - xs'.length) (.val undef))[t]? = some x := hx
    show ∃ v, (vs.toArray ++ Array.replicate (fn.ntmps - vs.toArray.size) undef)[t]? = some v ∧ _
    rw [List.getElem?_append] at hx
    split at hx
    · rename_i hlt
      obtain ⟨v, e, k⟩ := hv.get hx
      exact ⟨v, by rw [Array.getElem?_append_left (by simp [hvl, hlt])]; simpa using e, k.rv⟩
    · rename_i hge
      rw [List.getElem?_replicate] at hx
      split at hx
      · cases hx
        refine ⟨undef, ?_, rfl⟩
        rw [Array.getElem?_append_right (by simp [hvl]; omega), Array.getElem?_replicate, if_pos]
        simp [hvl]
        omega
      · cases hx
end
section
variable {E : Env} {T : Tb} {pl : List Nat} {n : Nat} {c : Code} {s : Fm} {W0 : World} {M0 : Nat → Prop} {ρ : Rho} {M : Nat → Prop} {a : Act} {w : World} {Q : Exit → Act → World → Prop}
theorem am_loop {γ : Type} (μ : γ → Nat) (V : γ → VL) (I : γ → Prop) (sI : Fm) (round : ∀ g, I g → ∀ ρ M a w, @FS0 (envD (V g)) W0 M0 sI ρ M a w → c.wp Tryz.prog (Exit.then (fun a' w' => ∃ g' ρ' M', I g' ∧ μ g' < μ g ∧ @FS0 (envD (V g')) W0 M0 sI ρ' M' a' w') Q) a w)
    (g : γ) (hI : I g) (hF : @FS0 (envD (V g)) W0 M0 sI ρ M a w) : (Code.loop c).wp Tryz.prog Q a w := by
  refine loop_ghost (fun g a w => I g ∧ ∃ ρ M, @FS0 (envD (V g)) W0 M0 sI ρ M a w) μ ?_ g ⟨hI, ρ, M, hF⟩
  intro g a w ⟨hI, ρ, M, hF⟩
  refine Code.wp_mono ?_ (round g hI ρ M a w hF)
  intro e a' w' he
  cases e <;> first | exact he | skip
  obtain ⟨g', ρ', M', h1, h2, h3⟩ := he
  exact ⟨g', ⟨h1, ρ', M', h3⟩, h2⟩
theorem am_move {E E' : Env} {s s' : Fm} (d : Rd) (hd : RdOK E E' d) (hm0 : ∀ b, M0 b → b < W0.heap.size) (h : wkF d 16 s s' = true) (hb : below 16 s'.H = below 16 s.H) (hF : @FS0 E W0 M0 s ρ M a w) : ∃ ρ' M', @FS0 E' W0 M0 s' ρ' M' a w :=
  ⟨_, _, FS.move hd (fun o p e => by cases e) hm0 (.inr fun b h => .inl h) h hb hF⟩
end
end Go.Proofs.YtgaehhapjnbieaaGreat
namespace Go.Proofs.YtgaehhapjnbieaaGreat
open Go.RowKit
def q2 (k lim : Nat) (bnd : Nat → Nat → Nat) : List AV → Option AV
  | [x, y] => match numA x, numA y with
    | some p, some q => if Nat.ble p.2 lim && Nat.ble q.2 lim then some (aQ (.ap k p.1 q.1) (bnd p.2 q.2)) else none
    | _, _ => none
  | _ => none
def q1 (k lim : Nat) (bnd : Nat → Nat) : List AV → Option AV
  | [x] => match numA x with
    | some p => if Nat.ble p.2 lim then some (aQ (.ap k p.1 (.lit 0)) (bnd p.2)) else none
    | none => none
  | _ => none
def qs1 (lim : Nat) : List AV → Option AV
  | [x] => match numA x with
    | some p => if Nat.ble p.2 lim then some (aS p.1) else none
    | none => none
  | _ => none
def qs2 (lim : Nat) : List AV → Option AV
  | [x, y] => match numA x, numA y with
    | some p, some q => if Nat.ble p.2 lim && Nat.ble q.2 lim then some (aS (.ap 32 p.1 q.1)) else none
    | _, _ => none
  | _ => none
def orG (g h : List AV → Option AV) : List AV → Option AV := fun xs => match g xs with
  | some r => some r
  | none => h xs
def qw (F : Fa) : List AV → Option AV
  | [x] => match intA x with
    | some i => if smI i.2 then some (aQ (.ap 37 (.i i.1 i.2) (.lit 0)) 2) else none
    | none => none
  | _ => none
theorem cmpR_sub0 (x y : Rat) : cmpR (x - y) 0 = cmpR x y := by
  unfold cmpR
  by_cases h1 : x < y
  · have : x - y < 0 := by grind
    simp [h1, this]
  · by_cases h2 : x = y
    · subst h2
      have : x - x = 0 := by grind
      simp [this]
    · have h3 : ¬ x - y < 0 := by grind
      have h4 : ¬ x - y = 0 := by grind
      simp [h1, h2, h3, h4]
section
variable {V : VL} {F : Fa} {f k lim : Nat}
theorem orG_ok {E : Env} {g h : List AV → Option AV} (hg : @PE.ok E ⟨f, g⟩) (hh : @PE.ok E ⟨f, h⟩) : @PE.ok E ⟨f, orG g h⟩ := by
  intro xs r e
  have e : orG g h xs = some r := e
  unfold orG at e
  split at e
  · rename_i r' hr
    cases e
    exact hg xs r hr
  · exact hh xs r e
theorem q2_ok {bnd : Nat → Nat → Nat} (pl : Plainly f) (h : ∀ a b i j va vb w, (ratF (qD V a)).p va w → (ratF (qD V b)).p vb w → RSm (qD V a) i → RSm (qD V b) j → i ≤ lim → j ≤ lim → Calls Tryz.prog f #[va, vb] w (GivesP (ratF (qD V (.ap k a b))) w) ∧ RSm (qD V (.ap k a b)) (bnd i j)) : @PE.ok (envD V) ⟨f, q2 k lim bnd⟩ := by
  intro xs r e
  change q2 k lim bnd xs = some r at e
  refine ⟨pl, fun ρ M w vs _ hv => ?_⟩
  unfold q2 at e
  split at e
  · rename_i x y
    split at e
    · rename_i p q hp hq
      split at e
      · rename_i hc
        rw [Bool.and_eq_true] at hc
        cases e
        obtain ⟨va, _, rfl, h1, vb, _, rfl, h2, h3⟩ := hv
        have h3 : _ = [] := h3
        subst h3
        obtain ⟨a1, a2⟩ := numA_sound hp (@RV1.rv (envD V) ρ M w _ _ h1)
        obtain ⟨b1, b2⟩ := numA_sound hq (@RV1.rv (envD V) ρ M w _ _ h2)
        obtain ⟨hc, hs⟩ := h p.1 q.1 p.2 q.2 va vb w a1 b1 a2 b2 (Nat.le_of_ble_eq_true hc.1) (Nat.le_of_ble_eq_true hc.2)
        exact Calls.mono hc fun e w' ⟨v, e1, e2, e3⟩ => ⟨v, e1, @RV1.rv (envD V) ρ M w' _ _ (aQ_in e2 hs), e3⟩
      · cases e
    · cases e
  · cases e
theorem q1_ok {bnd : Nat → Nat} (pl : Plainly f) (h : ∀ a i va w, (ratF (qD V a)).p va w → RSm (qD V a) i → i ≤ lim → Calls Tryz.prog f #[va] w (GivesP (ratF (qD V (.ap k a (.lit 0)))) w) ∧ RSm (qD V (.ap k a (.lit 0))) (bnd i)) : @PE.ok (envD V) ⟨f, q1 k lim bnd⟩ := by
  intro xs r e
  change q1 k lim bnd xs = some r at e
  refine ⟨pl, fun ρ M w vs _ hv => ?_⟩
  unfold q1 at e
  split at e
  · rename_i x
    split at e
    · rename_i p hp
      split at e
      · rename_i hc
        cases e
        obtain ⟨va, _, rfl, h1, h3⟩ := hv
        have h3 : _ = [] := h3
        subst h3
        obtain ⟨a1, a2⟩ := numA_sound hp (@RV1.rv (envD V) ρ M w _ _ h1)
        obtain ⟨hc, hs⟩ := h p.1 p.2 va w a1 a2 (Nat.le_of_ble_eq_true hc)
        exact Calls.mono hc fun e w' ⟨v, e1, e2, e3⟩ => ⟨v, e1, @RV1.rv (envD V) ρ M w' _ _ (aQ_in e2 hs), e3⟩
      · cases e
    · cases e
  · cases e
theorem aS_in {ρ : Rho} {M : Nat → Prop} {w : World} {q : CE} {v : Value} (h : (eqF (.int .i64 (cmpR (qD V q) 0))).p v w) : @RV (envD V) ρ M w (aS q) v := by
  have h : v = .int .i64 (cmpR (qD V q) 0) := h
  show @Rp (envD V) ρ M w (aS q) [v]
  unfold Rp
  exact ⟨rfl, by rw [h]; rfl⟩
theorem qs1_ok (pl : Plainly f) (h : ∀ a i va w, (ratF (qD V a)).p va w → RSm (qD V a) i → i ≤ lim → Calls Tryz.prog f #[va] w (GivesP (eqF (.int .i64 (cmpR (qD V a) 0))) w)) : @PE.ok (envD V) ⟨f, qs1 lim⟩ := by
  intro xs r e
  change qs1 lim xs = some r at e
  refine ⟨pl, fun ρ M w vs _ hv => ?_⟩
  unfold qs1 at e
  split at e
  · rename_i x
    split at e
    · rename_i p hp
      split at e
      · rename_i hc
        cases e
        obtain ⟨va, _, rfl, h1, h3⟩ := hv
        have h3 : _ = [] := h3
        subst h3
        obtain ⟨a1, a2⟩ := numA_sound hp (@RV1.rv (envD V) ρ M w _ _ h1)
        exact Calls.mono (h p.1 p.2 va w a1 a2 (Nat.le_of_ble_eq_true hc)) fun e w' ⟨v, e1, e2, e3⟩ => ⟨v, e1, aS_in e2, e3⟩
      · cases e
    · cases e
  · cases e
theorem qs2_ok (pl : Plainly f) (h : ∀ a b i j va vb w, (ratF (qD V a)).p va w → (ratF (qD V b)).p vb w → RSm (qD V a) i → RSm (qD V b) j → i ≤ lim → j ≤ lim → Calls Tryz.prog f #[va, vb] w (GivesP (eqF (.int .i64 (cmpR (qD V a) (qD V b)))) w)) : @PE.ok (envD V) ⟨f, qs2 lim⟩ := by
  intro xs r e
  change qs2 lim xs = some r at e
  refine ⟨pl, fun ρ M w vs _ hv => ?_⟩
  unfold qs2 at e
  split at e
  · rename_i x y
    split at e
    · rename_i p q hp hq
      split at e
      · rename_i hc
        rw [Bool.and_eq_true] at hc
        cases e
        obtain ⟨va, _, rfl, h1, vb, _, rfl, h2, h3⟩ := hv
        have h3 : _ = [] := h3
        subst h3
        obtain ⟨a1, a2⟩ := numA_sound hp (@RV1.rv (envD V) ρ M w _ _ h1)
        obtain ⟨b1, b2⟩ := numA_sound hq (@RV1.rv (envD V) ρ M w _ _ h2)
        refine Calls.mono (h p.1 q.1 p.2 q.2 va vb w a1 b1 a2 b2 (Nat.le_of_ble_eq_true hc.1) (Nat.le_of_ble_eq_true hc.2)) fun e w' ⟨v, e1, e2, e3⟩ => ⟨v, e1, aS_in ?_, e3⟩
        have hq : qD V (.ap 32 p.1 q.1) = qD V p.1 - qD V q.1 := by simp only [qD]
        rw [hq, cmpR_sub0]
        exact e2
      · cases e
    · cases e
  · cases e
end
noncomputable def zAddQ : PE := ⟨72, orG pAddQ.g (q2 31 100000000 fun i j => i + j + 1)⟩
noncomputable def zSubQ : PE := ⟨57, orG pSubQ.g (q2 32 100000000 fun i j => i + j + 1)⟩
noncomputable def zMulQ : PE := ⟨58, orG pMulQ.g (q2 33 200000000 fun i j => i + j)⟩
noncomputable def zNegQ : PE := ⟨102, orG pNegQ.g (q1 34 200000000 fun i => i)⟩
noncomputable def zSignQ : PE := ⟨100, orG pSignQ.g (qs1 200000000)⟩
noncomputable def zCmpQ : PE := ⟨84, orG pCmpQ.g (qs2 200000000)⟩
noncomputable def zAddP : PE := ⟨40, orG pAddP.g (q2 31 100000000 fun i j => i + j + 1)⟩
noncomputable def zMulP : PE := ⟨42, orG pMulP.g (q2 33 100000000 fun i j => i + j)⟩
noncomputable def zNegP : PE := ⟨41, orG pNegP.g (q1 34 100000000 fun i => i)⟩
noncomputable def zSignP : PE := ⟨48, orG pSignP.g (qs1 100000000)⟩
noncomputable def zCmpP : PE := ⟨32, orG pCmpP.g (qs2 140000000)⟩
noncomputable def zWholeQ (F : Fa) : PE := ⟨63, orG pWholeQ.g (qw F)⟩
section
variable {V : VL} {F : Fa}
theorem zAddQ_ok : @PE.ok (envD V) zAddQ := orG_ok (@pAddQ_ok (envD V)) (q2_ok (fun _ _ => by simp [go_sem]) fun a b i j va vb w ha hb sa sb hi hj => by simp only [qD]; exact ⟨kQAdd ha hb sa sb hi hj, sa.add sb⟩)
theorem zSubQ_ok : @PE.ok (envD V) zSubQ := orG_ok (@pSubQ_ok (envD V)) (q2_ok (fun _ _ => by simp [go_sem]) fun a b i j va vb w ha hb sa sb hi hj => by simp only [qD]; exact ⟨kQSub ha hb sa sb hi hj, sa.sub sb⟩)
theorem zMulQ_ok : @PE.ok (envD V) zMulQ := orG_ok (@pMulQ_ok (envD V)) (q2_ok (fun _ _ => by simp [go_sem]) fun a b i j va vb w ha hb sa sb hi hj => by simp only [qD]; exact ⟨kQMul ha hb sa sb hi hj, sa.mul sb⟩)
theorem zNegQ_ok : @PE.ok (envD V) zNegQ := orG_ok (@pNegQ_ok (envD V)) (q1_ok (fun _ _ => by simp [go_sem]) fun a i va w ha sa hi => by simp only [qD]; exact ⟨kQNeg ha sa hi, sa.neg⟩)
theorem zSignQ_ok : @PE.ok (envD V) zSignQ := orG_ok (@pSignQ_ok (envD V)) (qs1_ok (fun _ _ => by simp [go_sem]) fun a i va w ha sa hi => kQSign ha sa hi)
theorem zCmpQ_ok : @PE.ok (envD V) zCmpQ := orG_ok (@pCmpQ_ok (envD V)) (qs2_ok (fun _ _ => by simp [go_sem]) fun a b i j va vb w ha hb sa sb hi hj => kQCmp ha hb sa sb hi hj)
theorem zAddP_ok : @PE.ok (envD V) zAddP := orG_ok (@pAddP_ok (envD V)) (q2_ok (fun _ _ => by simp [go_sem]) fun a b i j va vb w ha hb sa sb hi hj => by simp only [qD]; exact ⟨kPAdd ha hb sa sb (by omega) (by omega), sa.add sb⟩)
theorem zMulP_ok : @PE.ok (envD V) zMulP := orG_ok (@pMulP_ok (envD V)) (q2_ok (fun _ _ => by simp [go_sem]) fun a b i j va vb w ha hb sa sb hi hj => by simp only [qD]; exact ⟨kPMul ha hb sa sb (by omega) (by omega), sa.mul sb⟩)
theorem zNegP_ok : @PE.ok (envD V) zNegP := orG_ok (@pNegP_ok (envD V)) (q1_ok (fun _ _ => by simp [go_sem]) fun a i va w ha sa hi => by simp only [qD]; exact ⟨kPNeg ha sa (by omega), sa.neg⟩)
theorem zSignP_ok : @PE.ok (envD V) zSignP := orG_ok (@pSignP_ok (envD V)) (qs1_ok (fun _ _ => by simp [go_sem]) fun a i va w ha sa hi => kPSign ha sa (by omega))
theorem zCmpP_ok : @PE.ok (envD V) zCmpP := orG_ok (@pCmpP_ok (envD V)) (qs2_ok (fun _ _ => by simp [go_sem]) fun a b i j va vb w ha hb sa sb hi hj => kPCmp ha hb sa sb hi hj)
theorem zWholeQ_ok (hF : FaOK V F) : @PE.ok (envD V) (zWholeQ F) := orG_ok (@pWholeQ_ok (envD V)) (by
  intro xs r e
  change qw F xs = some r at e
  refine ⟨fun _ _ => by simp [go_sem], fun ρ M w vs _ hv => ?_⟩
  unfold qw at e
  split at e
  · rename_i x
    split at e
    · rename_i i hi
      split at e
      · rename_i hc
        cases e
        obtain ⟨va, _, rfl, h1, h3⟩ := hv
        have h3 : _ = [] := h3
        subst h3
        have hva := intA_sound hF hi h1
        subst hva
        unfold smI at hc
        rw [Bool.and_eq_true] at hc
        have c1 := of_decide_eq_true hc.1
        have c2 := of_decide_eq_true hc.2
        have b := hF.sm i.1
        have hz : iD V i = V.z i.1 + i.2 := rfl
        have hq : qD V (.ap 37 (.i i.1 i.2) (.lit 0)) = ((iD V i : Int) : Rat) := by simp only [qD]; rfl
        refine Calls.mono (kQWhole (iD V i) (by omega) (by omega) rfl) fun e w' ⟨v, e1, e2, e3⟩ => ⟨v, e1, @RV1.rv (envD V) ρ M w' _ _ (aQ_in (by rw [hq]; exact e2) ?_), e3⟩
        rw [hq]
        exact RSm.whole (i := 1) (by unfold Sm; omega)
      · cases e
    · cases e
  · cases e)
end
noncomputable def primC (F : Fa) : List PE := [zAddQ, zMulQ, zSubQ, zCmpP, zSignQ, zSignP, zAddP, zMulP, zWholeQ F, zCmpQ, zNegQ, zNegP] ++ primL
theorem primC_ok {V : VL} {F : Fa} (hF : FaOK V F) {l : List PE} (hl : ∀ e ∈ l, @PE.ok (envD V) e) : @PrimOK (envD V) (primOf (l ++ primC F)) := @primOf_ok (envD V) _ fun e he => by
  rcases List.mem_append.1 he with he | he
  · exact hl e he
  · rcases List.mem_append.1 he with he | he
    · simp only [List.mem_cons, List.not_mem_nil, or_false] at he
      rcases he with rfl | rfl | rfl | rfl | rfl | rfl | rfl | rfl | rfl | rfl | rfl | rfl
      · exact zAddQ_ok
      · exact zMulQ_ok
      · exact zSubQ_ok
      · exact zCmpP_ok
      · exact zSignQ_ok
      · exact zSignP_ok
      · exact zAddP_ok
      · exact zMulP_ok
      · exact zWholeQ_ok hF
      · exact zCmpQ_ok
      · exact zNegQ_ok
      · exact zNegP_ok
    · exact @primL_mem (envD V) e he
end Go.Proofs.YtgaehhapjnbieaaGreat
namespace Go.Proofs.YtgaehhapjnbieaaGreat
open Go.RowKit
inductive KFr where
  | sq (c : Code)
  | bk (i : Nat)
inductive Ex where
  | nor
  | ret
  | ext (m : Nat)
def Ex.e : Ex → Exit
  | .nor => .normal
  | .ret => .ret
  | .ext m => .exit m
inductive Stop where
  | loop (b : Code) (k : List KFr) (s : Fm)
  | done (e : Ex) (s : Fm)
def unw : List KFr → (Exit → Act → World → Prop) → Exit → Act → World → Prop
  | [], Q => Q
  | .sq c :: k, Q => Exit.then (c.wp Tryz.prog (unw k Q)) (unw k Q)
  | .bk i :: k, Q => Exit.inBlock i (unw k Q)
inductive Cf where
  | run (c : Code)
  | at_ (e : Ex)
noncomputable def runF (T : Tb) (pl : List Nat) (m : Nat) : Nat → Cf → List KFr → Fm → Option Stop
  | 0, _, _, _ => none
  | n + 1, cf, k, s => match cf with
    | .run c => (match c with
      | .skip => runF T pl m n (.at_ .nor) k s
      | .region _ ops dr => (match regionA T (orC T.call (callW pl (runA T pl m))) dr ops s with
        | some s' => runF T pl m n (.at_ .nor) k s'
        | none => none)
      | .seq x y => runF T pl m n (.run x) (.sq y :: k) s
      | .cond (.tmp t) x y => (match s.tm[t]? with
        | some (.val (.bool true)) => runF T pl m n (.run x) k s
        | some (.val (.bool false)) => runF T pl m n (.run y) k s
        | _ => none)
      | .block i x => runF T pl m n (.run x) (.bk i :: k) s
      | .loop b => some (.loop b k s)
      | .exit i => runF T pl m n (.at_ (.ext i)) k s
      | .ret => runF T pl m n (.at_ .ret) k s
      | _ => none)
    | .at_ e => match k with
      | [] => some (.done e s)
      | .sq c :: k => (match e with
        | .nor => runF T pl m n (.run c) k s
        | e => runF T pl m n (.at_ e) k s)
      | .bk i :: k => (match e with
        | .ext j => if Nat.beq j i then runF T pl m n (.at_ .nor) k s else runF T pl m n (.at_ (.ext j)) k s
        | e => runF T pl m n (.at_ e) k s)
section
variable {E : Env} {T : Tb} {pl : List Nat} {W0 : World} {M0 : Nat → Prop} {Q : Exit → Act → World → Prop}
def holds (Q : Exit → Act → World → Prop) (k : List KFr) (a : Act) (w : World) : Cf → Prop
  | .run c => c.wp Tryz.prog (unw k Q) a w
  | .at_ e => unw k Q e.e a w
def StopOK (E : Env) (W0 : World) (M0 : Nat → Prop) (Q : Exit → Act → World → Prop) : Stop → Prop
  | .loop b k s => ∀ ρ M a w, @FS0 E W0 M0 s ρ M a w → (Code.loop b).wp Tryz.prog (unw k Q) a w
  | .done e s => ∀ ρ M a w, @FS0 E W0 M0 s ρ M a w → Q e.e a w
theorem runF_ok (hT : @TbOK E T) (hpl : ∀ f ∈ pl, Plainly f) {m : Nat} : ∀ (n : Nat) (cf : Cf) (k : List KFr) (s : Fm) (o : Stop), runF T pl m n cf k s = some o → StopOK E W0 M0 Q o → ∀ ρ M a w, @FS0 E W0 M0 s ρ M a w → holds Q k a w cf
  | 0, _, _, _, _, h, _, _, _, _, _, _ => by unfold runF at h; cases h
  | n + 1, cf, k, s, o, h, hQ, ρ, M, a, w, hF => by
    have ih := runF_ok (m := m) hT hpl n
    unfold runF at h
    cases cf with
    | run c =>
      simp only [] at h
      show c.wp Tryz.prog (unw k Q) a w
      cases c with
      | skip => exact wp_skip (ih _ _ _ _ h hQ ρ M a w hF)
      | region i ops dr =>
        simp only [] at h
        split at h
        · rename_i s' hs'
          exact @region_sound E T _ _ W0 noR M0 [] 16 s s' ρ M a w ops dr (unw k Q) hT (@orC_ok E _ _ (@TbOK.call E T hT) (@callW_ok E T pl hpl m (@run_ok E T pl hT hpl m).1)) i hs' (fun _ h => h) hF fun ρ' M' a' w' hF' => ih (.at_ .nor) _ _ _ h hQ ρ' M' a' w' hF'
        · cases h
      | seq x y => exact wp_seq (ih (.run x) (.sq y :: k) _ _ h hQ ρ M a w hF)
      | cond t x y =>
        cases t with
        | tmp t =>
          simp only [] at h
          obtain ⟨Fsize, Fdef, Fslots, _⟩ := id hF
          split at h
          · rename_i ht
            obtain ⟨v, e1, e2⟩ := Fslots t _ ht
            have e2 : v = .bool true := e2
            exact wp_cond_true (by rw [eval_of e1, e2]) (ih (.run x) _ _ _ h hQ ρ M a w hF)
          · rename_i ht
            obtain ⟨v, e1, e2⟩ := Fslots t _ ht
            have e2 : v = .bool false := e2
            exact wp_cond_false (by rw [eval_of e1, e2]) (ih (.run y) _ _ _ h hQ ρ M a w hF)
          · cases h
        | _ => cases h
      | block i x => exact wp_block (ih (.run x) (.bk i :: k) _ _ h hQ ρ M a w hF)
      | loop b => cases h; exact hQ ρ M a w hF
      | exit i => exact wp_exit (ih (.at_ (.ext i)) _ _ _ h hQ ρ M a w hF)
      | ret => exact wp_ret (ih (.at_ .ret) _ _ _ h hQ ρ M a w hF)
      | _ => cases h
    | at_ e =>
      simp only [] at h
      show unw k Q e.e a w
      cases k with
      | nil => cases h; exact hQ ρ M a w hF
      | cons f k =>
        cases f with
        | sq c =>
          cases e with
          | nor => exact ih (.run c) k s o h hQ ρ M a w hF
          | ret => exact ih (.at_ .ret) k s o h hQ ρ M a w hF
          | ext m => exact ih (.at_ (.ext m)) k s o h hQ ρ M a w hF
        | bk i =>
          cases e with
          | nor => exact ih (.at_ .nor) k s o h hQ ρ M a w hF
          | ret => exact ih (.at_ .ret) k s o h hQ ρ M a w hF
          | ext m =>
            simp only [] at h
            show (if m = i then unw k Q .normal a w else unw k Q (.exit m) a w)
            split at h
            · rename_i hm
              rw [if_pos (Nat.eq_of_beq_eq_true hm)]
              exact ih (.at_ .nor) k s o h hQ ρ M a w hF
            · rename_i hm
              rw [if_neg fun e => hm (by rw [e]; exact Nat.beq_refl i)]
              exact ih (.at_ (.ext m)) k s o h hQ ρ M a w hF
end
def findL : Code → List KFr → Option (Code × List KFr)
  | .loop b, k => some (b, k)
  | .seq x y, k => match findL x (.sq y :: k) with
    | some r => some r
    | none => findL y k
  | .block i x, k => findL x (.bk i :: k)
  | _, _ => none
def lpB (c : Code) (k : List KFr) : Code := match findL c k with | some r => r.1 | none => .skip
def lpK (c : Code) (k : List KFr) : List KFr := match findL c k with | some r => r.2 | none => []
def stopS : Option Stop → Fm
  | some (.loop _ _ s) => s
  | some (.done _ s) => s
  | none => ⟨[], [], 0, []⟩
def lkN : List (Nat × AV) → Nat → AV
  | [], _ => .any
  | x :: l, i => if Nat.beq x.1 i then x.2 else lkN l i
def slotsA (l : List (Nat × AV)) : Nat → Nat → List AV
  | 0, _ => []
  | n + 1, i => lkN l i :: slotsA l n (i + 1)
def mkS (n : Nat) (l : List (Nat × AV)) (H : HP) (nx : Nat) : Fm := ⟨slotsA l n 0, H, nx, []⟩
def begS (n : Nat) (xs : List AV) : Fm := ⟨xs ++ List.replicate (n - xs.length) (.val undef), [], 16, []⟩
section
variable {V V' : VL} {ρ ρ' : Rho} {M : Nat → Prop} {w : World} {cs : List Value}
def Le (V V' : VL) (p : AV × AV) : Prop := ∀ (ρ ρ' : Rho) (M : Nat → Prop) (w : World) (cs : List Value), @Rp (envD V) ρ M w p.1 cs → @Rp (envD V') ρ' M w p.2 cs
theorem rd_I {k k' : Nat} {c c' : Int} (h : iD V (k, c) = iD V' (k', c')) : Le V V' (aI k c, aI k' c') := fun ρ ρ' M w cs r => by
  unfold Rp at r ⊢
  refine ⟨r.1, ?_⟩
  have h2 := r.2
  show (XP.int (zD V' (.i k' c'))).p M w cs
  rw [zD_i, ← h]
  exact h2
theorem rd_Ic {k' : Nat} {c c' : Int} (h : c = iD V' (k', c')) : Le V V' (.val (.int .i64 c), aI k' c') := fun ρ ρ' M w cs r => by
  unfold Rp at r ⊢
  obtain ⟨rfl, _⟩ := r
  refine ⟨rfl, ?_⟩
  show (XP.int (zD V' (.i k' c'))).p M w _
  rw [zD_i, ← h]
  rfl
theorem rd_L {e e' : CE} (h : lD V e = lD V' e') : Le V V' (aL e, aL e') := fun ρ ρ' M w cs r => by
  unfold Rp at r ⊢
  refine ⟨r.1, ?_⟩
  have h2 := r.2
  show (XP.rats (lD V' e')).p M w cs
  rw [← h]
  exact h2
theorem rd_Q {q q' : CE} {n : Nat} (h : qD V q = qD V' q') : Le V V' (aQ q n, aQ q' n) := fun ρ ρ' M w cs r => by
  unfold Rp at r ⊢
  refine ⟨r.1, ?_⟩
  have h2 := r.2
  show (XP.num (qD V' q') _).p M w cs
  rw [← h]
  exact h2
theorem rd_ok {d : Rd} (h1 : ∀ p ∈ d.vs, Le V V' p) (h2 : d.ns = []) (h3 : d.bs = []) (h4 : d.rest = []) : RdOK (envD V) (envD V') d :=
  ⟨h1, fun p hp => (by rw [h2] at hp; cases hp), fun p hp => (by rw [h3] at hp; cases hp), fun p hp => (by rw [h4] at hp; cases hp)⟩
end
noncomputable def tbF (F : Fa) (l : List PE) : Tb := ⟨primOf (l ++ primC F), stdX F, noC⟩
theorem tbF_ok {V : VL} {F : Fa} (hF : FaOK V F) {l : List PE} (hl : ∀ e ∈ l, @PE.ok (envD V) e) : @TbOK (envD V) (tbF F l) := @TbOK.mk (envD V) _ (primC_ok hF hl) (stdX_ok hF) (@noC_ok (envD V))
theorem am_go {V : VL} {F : Fa} {l : List PE} {m n : Nat} {cf : Cf} {k : List KFr} {s : Fm} {W0 : World} {M0 : Nat → Prop} {Q : Exit → Act → World → Prop} {ρ : Rho} {M : Nat → Prop} {a : Act} {w : World} (hF : FaOK V F) (hl : ∀ e ∈ l, @PE.ok (envD V) e) (o : Stop) (h : runF (tbF F l) plainL m n cf k s = some o) (hS : @FS0 (envD V) W0 M0 s ρ M a w) (hQ : StopOK (envD V) W0 M0 Q o) : holds Q k a w cf :=
  runF_ok (tbF_ok hF hl) plainL_ok n cf k s o h hQ ρ M a w hS
end Go.Proofs.YtgaehhapjnbieaaGreat
namespace Go.Proofs.YtgaehhapjnbieaaGreat
open Go.RowKit
theorem trimC_take {l : List Rat} {n : Nat} (hn : n ≤ l.length) (h : ∀ i, n ≤ i → l.getD i 0 = 0) (ht : n = 0 ∨ l.getD (n - 1) 0 ≠ 0) : l.take n = trimC l := by
  have hd : l = l.take n ++ l.drop n := (List.take_append_drop n l).symm
  have hz : ∀ x ∈ (l.drop n).reverse, decide (x = 0) = true := fun x hx => by
    obtain ⟨i, hi, e⟩ := List.getElem_of_mem (List.mem_reverse.1 hx)
    have := h (n + i) (by omega)
    rw [List.getElem_drop] at e
    rw [List.getD_eq_getElem?_getD, List.getElem?_eq_getElem (by rw [List.length_drop] at hi; omega)] at this
    have e2 : l[n + i]'(by rw [List.length_drop] at hi; omega) = x := e
    simp only [Option.getD_some] at this
    rw [e2] at this
    simp [this]
  unfold trimC
  have key : l.reverse.dropWhile (fun x => decide (x = 0)) = (l.take n).reverse := by
    conv => lhs; rw [hd, List.reverse_append]
    rw [List.dropWhile_append_of_pos hz]
    rcases ht with rfl | ht
    · simp
    · have hn0 : 0 < n := by
        rcases Nat.eq_zero_or_pos n with rfl | h0
        · exact absurd (h 0 (Nat.le_refl _)) (by simpa using ht)
        · exact h0
      have hne : l.take n ≠ [] := fun e => by
        have := congrArg List.length e
        rw [List.length_take] at this
        have : min n l.length = 0 := this
        omega
      cases hr : (l.take n).reverse with
      | nil => rw [List.reverse_eq_nil_iff] at hr; exact absurd hr hne
      | cons x r =>
        have hx : x = l.getD (n - 1) 0 := by
          have h1 : (l.take n).reverse[0]? = some x := by rw [hr]; rfl
          rw [List.getElem?_reverse (by rw [List.length_take]; omega), List.length_take, List.getElem?_take] at h1
          rw [show min n l.length - 1 - 0 = n - 1 by omega, if_pos (by omega)] at h1
          rw [List.getD_eq_getElem?_getD, h1]
          rfl
        rw [List.dropWhile_cons_of_neg]
        rw [hx]
        simpa using ht
  rw [key, List.reverse_reverse]
noncomputable def tr_f : Func := Tryz.f52
noncomputable def tr_c : Code := bodyOf tr_f
noncomputable def tr_b : Code := lpB tr_c []
noncomputable def tr_k : List KFr := lpK tr_c []
def tr_V (l : List Rat) (n : Nat) : VL := ⟨fun k => match k with | 1 => (n : Int) | 2 => (l.length : Int) | _ => 0, fun k => match k with | 0 => l | 1 => trimC l | _ => [], fun _ => 0, fun _ => []⟩
def tr_top : CE := .ap 30 (.v 0) (.i 1 (-1))
def tr_F0 (i : Nat) (b : Bool) : Fa := ⟨[(0, 1, -1), (1, 2, 0)], [(.v 0, 2, 0)], [(.v 0, i)], [(tr_top, b)], [], [], []⟩
def tr_F1 (i : Nat) : Fa := ⟨[(1, 0, 0), (0, 1, 0), (1, 2, 0)], [(.v 0, 2, 0)], [(.v 0, i)], [], [], [], []⟩
def tr_F2 : Fa := ⟨[(0, 1, 0), (1, 2, 0)], [(.v 0, 2, 0)], [], [], [], [], []⟩
def tr_s : Fm := mkS 22 [(0, aL (.v 0)), (3, aI 1 0)] [] 200000000
noncomputable def tr_r0 := runF (tbF tr_F2 []) plainL 100 100 (.run tr_c) [] (begS 22 [aL (.v 0)])
noncomputable def tr_rz := runF (tbF (tr_F0 200000000 true) []) plainL 100 100 (.run tr_b) [] tr_s
noncomputable def tr_rn := runF (tbF (tr_F0 200000000 false) []) plainL 100 100 (.run tr_b) [] tr_s
noncomputable def tr_r1 := runF (tbF (tr_F1 200000000) []) plainL 100 100 (.run tr_b) [] tr_s
noncomputable def tr_rx (s : Fm) := runF (tbF tr_F2 []) plainL 100 100 (.at_ (.ext 0)) tr_k s
set_option maxRecDepth 100000
theorem tr_e0 : tr_r0 = some (.loop tr_b tr_k (stopS tr_r0)) := by kernel_rfl
theorem tr_ez : tr_rz = some (.done .nor (stopS tr_rz)) := by kernel_rfl
theorem tr_en : tr_rn = some (.done (.ext 0) (stopS tr_rn)) := by kernel_rfl
theorem tr_e1 : tr_r1 = some (.done (.ext 0) (stopS tr_r1)) := by kernel_rfl
theorem tr_xn : tr_rx (stopS tr_rn) = some (.done .ret (stopS (tr_rx (stopS tr_rn)))) := by kernel_rfl
theorem tr_x1 : tr_rx (stopS tr_r1) = some (.done .ret (stopS (tr_rx (stopS tr_r1)))) := by kernel_rfl
def tr_I (l : List Rat) (n : Nat) : Prop := n ≤ l.length ∧ ∀ i, n ≤ i → l.getD i 0 = 0
section
variable {l : List Rat} {n : Nat}
theorem tr_sm (hl : l.length ≤ 1000000) (hn : n ≤ l.length) (k : Nat) : -1152921504606846976 ≤ (tr_V l n).z k ∧ (tr_V l n).z k ≤ 1152921504606846976 := by
  show -1152921504606846976 ≤ (match k with | 1 => (n : Int) | 2 => (l.length : Int) | _ => 0) ∧ (match k with | 1 => (n : Int) | 2 => (l.length : Int) | _ => 0) ≤ (1152921504606846976 : Int)
  split <;> omega
theorem tr_F2_ok (hl : l.length ≤ 1000000) (hn : n ≤ l.length) : FaOK (tr_V l n) tr_F2 where
  z0 := rfl
  sm := tr_sm hl hn
  le := by simp [tr_F2, tr_V]; omega
  len := by simp [tr_F2, tr_V, lD]
  bd := by simp [tr_F2]
  zr := by simp [tr_F2]
  rlen := by simp [tr_F2]
  full := by simp [tr_F2]
  sum := by simp [tr_F2]
theorem tr_F1_ok (hs : ∀ x ∈ l, RSm x 200000000) (hl : l.length ≤ 1000000) : FaOK (tr_V l 0) (tr_F1 200000000) where
  z0 := rfl
  sm := tr_sm hl (Nat.zero_le _)
  le := by simp [tr_F1, tr_V]
  len := by simp [tr_F1, tr_V, lD]
  bd := by simpa [tr_F1, tr_V, lD] using hs
  zr := by simp [tr_F1]
  rlen := by simp [tr_F1]
  full := by simp [tr_F1]
  sum := by simp [tr_F1]
theorem tr_top_is (h0 : 0 < n) : qD (tr_V l n) tr_top = l.getD (n - 1) 0 := by
  have : ((n : Int) + -1).toNat = n - 1 := by omega
  simp [tr_top, qD, lD, zD, tr_V, this]
theorem tr_F0_ok (hs : ∀ x ∈ l, RSm x 200000000) (hl : l.length ≤ 1000000) (hn : n ≤ l.length) (h0 : 0 < n) {b : Bool} (hb : decide (l.getD (n - 1) 0 = 0) = b) : FaOK (tr_V l n) (tr_F0 200000000 b) where
  z0 := rfl
  sm := tr_sm hl hn
  le := by simp [tr_F0, tr_V]; omega
  len := by simp [tr_F0, tr_V, lD]
  bd := by simpa [tr_F0, tr_V, lD] using hs
  zr := by
    intro x hx
    simp only [tr_F0, List.mem_singleton] at hx
    subst hx
    rw [tr_top_is h0]
    exact hb
  rlen := by simp [tr_F0]
  full := by simp [tr_F0]
  sum := by simp [tr_F0]
end
def tr_d0 : Rd := ⟨[(aL (.v 0), aL (.v 0)), (aI 2 0, aI 1 0)], [], [], [], [], 200000000⟩
def tr_d1 : Rd := ⟨[(aL (.v 0), aL (.v 0)), (aI 1 (-1), aI 1 0)], [], [], [], [], 200000000⟩
def tr_d2 : Rd := ⟨[(aL (.ap 20 (.v 0) (.i 1 0)), aL (.v 1))], [], [], [], [], 400⟩
def tr_fin : Fm := mkS 22 [(2, aL (.v 1))] [] 400
theorem tr_m0 : wkF tr_d0 16 (stopS tr_r0) tr_s = true := by kernel_rfl
theorem tr_m1 : wkF tr_d1 16 (stopS tr_rz) tr_s = true := by kernel_rfl
theorem tr_m2 : wkF tr_d2 16 (stopS (tr_rx (stopS tr_rn))) tr_fin = true := by kernel_rfl
theorem tr_m3 : wkF tr_d2 16 (stopS (tr_rx (stopS tr_r1))) tr_fin = true := by kernel_rfl
theorem tr_h0 : below 16 tr_s.H = below 16 (stopS tr_r0).H := by kernel_rfl
theorem tr_h1 : below 16 tr_s.H = below 16 (stopS tr_rz).H := by kernel_rfl
theorem tr_h2 : below 16 tr_fin.H = below 16 (stopS (tr_rx (stopS tr_rn))).H := by kernel_rfl
theorem tr_h3 : below 16 tr_fin.H = below 16 (stopS (tr_rx (stopS tr_r1))).H := by kernel_rfl
theorem tr_end : endA tr_f tr_fin = some (aL (.v 1)) := by kernel_rfl
theorem tr_out {l : List Rat} {n : Nat} {W0 : World} {M0 : Nat → Prop} {ρ : Rho} {M : Nat → Prop} {a : Act} {w : World} {s : Fm} (hm0 : ∀ b, M0 b → b < W0.heap.size) (h : l.take n = trimC l) (h1 : wkF tr_d2 16 s tr_fin = true) (h2 : below 16 tr_fin.H = below 16 s.H) (hF : @FS0 (envD (tr_V l n)) W0 M0 s ρ M a w) : @OutF (envD (tr_V l l.length)) tr_f (aL (.v 1)) W0 M0 .ret a w := by
  obtain ⟨ρ, M, hF⟩ := am_move (E' := envD (tr_V l l.length)) tr_d2 (rd_ok (fun p hp => by
    simp only [tr_d2, List.mem_singleton] at hp
    subst hp
    exact rd_L (by simpa [lD, zD, tr_V] using h)) rfl rfl rfl) hm0 h1 h2 hF
  exact ⟨.inr rfl, _, ρ, M, hF, tr_end⟩
theorem kTrimQ {l : List Rat} (hs : ∀ x ∈ l, RSm x 200000000) (hl : l.length ≤ 1000000) {M : Nat → Prop} {w : World} {v : Value} (hm0 : ∀ b, M b → b < w.heap.size) (hv : (XP.rats l).p M w [v]) :
    Calls Tryz.prog 52 #[v] w fun e w' => ∃ u, e = .returned u ∧ (XP.rats (trimC l)).p M w' [u] ∧ Below w.heap.size w w' := by
  refine Calls.mono (@am_calls (envD (tr_V l l.length)) _ tr_f tr_c [aL (.v 0)] [aL (.v 0)] (aL (.v 1)) noR M w [v] Tryz.func52 (by rfl) rfl (by show 1 ≤ 22; omega) hm0 ⟨v, [], rfl, aL_in hv, rfl⟩ fun a hF => ?_) fun e w' ⟨u, e1, e2, e3⟩ => ⟨u, e1, aL_out (V := tr_V l l.length) (e := .v 1) (ρ := noR) e2, e3⟩
  show holds _ [] a w (.run tr_c)
  refine am_go (V := tr_V l l.length) (F := tr_F2) (tr_F2_ok hl (Nat.le_refl _)) (fun _ h => by cases h) _ tr_e0 hF fun ρ M' a w' hF => ?_
  obtain ⟨ρ, M', hF⟩ := am_move (E' := envD (tr_V l l.length)) tr_d0 (rd_ok (fun p hp => by
    simp only [tr_d0, List.mem_cons, List.not_mem_nil, or_false] at hp
    rcases hp with rfl | rfl
    · exact rd_L rfl
    · exact rd_I rfl) rfl rfl rfl) hm0 tr_m0 tr_h0 hF
  refine am_loop (fun n => n) (tr_V l) (tr_I l) tr_s ?_ l.length ⟨Nat.le_refl _, fun i hi => by rw [List.getD_eq_getElem?_getD, List.getElem?_eq_none hi]; rfl⟩ hF
  intro n ⟨hn, hz⟩ ρ M' a w' hF
  show holds _ [] a w' (.run tr_b)
  by_cases h0 : n = 0
  · subst h0
    refine am_go (V := tr_V l 0) (tr_F1_ok hs hl) (fun _ h => by cases h) _ tr_e1 hF fun ρ M' a w' hF => ?_
    show holds _ tr_k a w' (.at_ (.ext 0))
    exact am_go (V := tr_V l 0) (tr_F2_ok hl hn) (fun _ h => by cases h) _ tr_x1 hF fun ρ M' a w' hF => tr_out hm0 (trimC_take hn hz (.inl rfl)) tr_m3 tr_h3 hF
  · have h0 : 0 < n := by omega
    by_cases hb : l.getD (n - 1) 0 = 0
    · refine am_go (V := tr_V l n) (tr_F0_ok hs hl hn h0 (decide_eq_true hb)) (fun _ h => by cases h) _ tr_ez hF fun ρ M' a w' hF => ?_
      obtain ⟨ρ, M', hF⟩ := am_move (E' := envD (tr_V l (n - 1))) tr_d1 (rd_ok (fun p hp => by
        simp only [tr_d1, List.mem_cons, List.not_mem_nil, or_false] at hp
        rcases hp with rfl | rfl
        · exact rd_L rfl
        · exact rd_I (by show (n : Int) + -1 = ((n - 1 : Nat) : Int) + 0; omega)) rfl rfl rfl) hm0 tr_m1 tr_h1 hF
      exact ⟨n - 1, ρ, M', ⟨by omega, fun i hi => if e : i = n - 1 then e ▸ hb else hz i (by omega)⟩, by omega, hF⟩
    · refine am_go (V := tr_V l n) (tr_F0_ok hs hl hn h0 (decide_eq_false hb)) (fun _ h => by cases h) _ tr_en hF fun ρ M' a w' hF => ?_
      show holds _ tr_k a w' (.at_ (.ext 0))
      exact am_go (V := tr_V l n) (tr_F2_ok hl hn) (fun _ h => by cases h) _ tr_xn hF fun ρ M' a w' hF => tr_out hm0 (trimC_take hn hz (.inr hb)) tr_m2 tr_h2 hF
end Go.Proofs.YtgaehhapjnbieaaGreat
namespace Go.Proofs.YtgaehhapjnbieaaGreat
open Go.RowKit
noncomputable def co_f : Func := Tryz.f76
noncomputable def co_c : Code := bodyOf co_f
noncomputable def co_b : Code := lpB co_c []
noncomputable def co_k : List KFr := lpK co_c []
def co_row (f : Nat → Rat) (n j : Nat) : List (Option Rat) := (List.range n).map fun i => if i < j then some (f i) else none
def co_V (W : VL) (f : Nat → Rat) (n j : Nat) : VL := ⟨fun k => match k with | 3 => (j : Int) | 4 => (n : Int) | k => W.z k, fun k => match k with | 9 => (List.range n).map f | k => W.l k, W.q, fun k => match k with | 0 => co_row f n j | k => W.r k⟩
def co_n : CE := .ap 61 (.i 4 0) (.lit 0)
def co_o : CE := .ap 60 (.v 0) (.lit 0)
def co_F2 : Fa := ⟨[(0, 4, 0), (4, 0, 1000000)], [], [], [], [], [], []⟩
def co_FX : Fa := ⟨[(0, 4, 0), (0, 3, 0), (4, 3, 0)], [], [], [], [], [], []⟩
noncomputable def co_H : HP := [(48, some ⟨36, 0, [], false, some co_o⟩)]
noncomputable def co_s (c : AV) : Fm := mkS 22 [(1, c), (5, .slx 48 co_n), (10, aI 4 0), (11, aI 3 0)] co_H 400
def co_fin : Fm := mkS 22 [(4, aL (.v 9))] [] 600
noncomputable def co_r0 (c : AV) := runF (tbF co_F2 []) plainL 100 100 (.run co_c) [] (begS 22 [aI 4 0, c])
noncomputable def co_rr (F : Fa) (L : List PE) (c : AV) := runF (tbF F L) plainL 200 100 (.run co_b) [] (co_s c)
noncomputable def co_rx (c : AV) := runF (tbF co_FX []) plainL 100 100 (.run co_b) [] (co_s c)
noncomputable def co_re (c : AV) := runF (tbF co_FX []) plainL 100 100 (.at_ (.ext 0)) co_k (stopS (co_rx c))
def co_d0 (P : List (AV × AV)) : Rd := ⟨(aI 4 0, aI 4 0) :: (.val (.int .i64 0), aI 3 0) :: P, [(co_n, co_n)], [(.ap 60 (.ap 40 (.i 4 0) (.lit 0)) (.lit 0), co_o)], [], [], 400⟩
def co_dr (P : List (AV × AV)) (q : CE) (b : Nat) : Rd := ⟨(aI 4 0, aI 4 0) :: (aI 3 1, aI 3 0) :: P, [(co_n, co_n)], [(.ap 60 (.ap 41 (.v 0) (.ap 0 (.i 3 0) (.ap 52 q (.lit (b : Int))))) (.lit 0), co_o)], [], [], 400⟩
def co_dx : Rd := ⟨[], [], [], [(48, co_n, co_o, .ap 51 (.v 9) (.lit 0))], [], 600⟩
structure CoRuns (F : Fa) (L : List PE) (P : List (AV × AV)) (c : AV) (q : CE) (b : Nat) : Prop where
  id_ : renL (fun _ => none) [aI 4 0, c] = some [aI 4 0, c]
  e0 : co_r0 c = some (.loop co_b co_k (stopS (co_r0 c)))
  er : co_rr F L c = some (.done .nor (stopS (co_rr F L c)))
  ex : co_rx c = some (.done (.ext 0) (stopS (co_rx c)))
  ee : co_re c = some (.done .ret (stopS (co_re c)))
  m0 : wkF (co_d0 P) 16 (stopS (co_r0 c)) (co_s c) = true
  mr : wkF (co_dr P q b) 16 (stopS (co_rr F L c)) (co_s c) = true
  mx : wkF co_dx 16 (stopS (co_re c)) co_fin = true
  b0 : below 16 (co_s c).H = below 16 (stopS (co_r0 c)).H
  br : below 16 (co_s c).H = below 16 (stopS (co_rr F L c)).H
  bx : below 16 co_fin.H = below 16 (stopS (co_re c)).H
theorem co_end : endA co_f co_fin = some (aL (.v 9)) := by kernel_rfl
theorem optCells_rat {w : World} : ∀ {l : List Rat} {cs : List Value}, OptCells w (l.map some) cs → RatCells w l cs
  | [], _, h => h
  | _ :: _, _, ⟨a, b, c, d, r, e, h1, h2, h3⟩ => ⟨a, b, c, d, r, e, h1, h2, optCells_rat h3⟩
theorem co_row0 (f : Nat → Rat) (n : Nat) : co_row f n 0 = List.replicate n none := by
  apply List.ext_getElem
  · simp [co_row]
  · intro i h1 h2
    simp [co_row]
theorem co_rowS (f : Nat → Rat) (n j : Nat) : (co_row f n j).set j (some (f j)) = co_row f n (j + 1) := by
  apply List.ext_getElem
  · simp [co_row]
  · intro i h1 h2
    rw [List.getElem_set]
    simp only [co_row, List.getElem_map, List.getElem_range]
    by_cases h : j = i
    · subst h
      simp
    · by_cases h3 : i < j
      · simp [h, h3, show i < j + 1 by omega]
      · simp [h, h3, show ¬ i < j + 1 by omega]
theorem co_rowN (f : Nat → Rat) (n : Nat) : co_row f n n = ((List.range n).map f).map some := by
  apply List.ext_getElem
  · simp [co_row]
  · intro i h1 h2
    have : i < n := by simpa [co_row] using h1
    simp [co_row, this]
section
variable {W : VL} {f : Nat → Rat} {n : Nat}
theorem co_sm (hs : ∀ k, -1152921504606846976 ≤ W.z k ∧ W.z k ≤ 1152921504606846976) (hn : n ≤ 1000000) {j : Nat} (hj : j ≤ n) (k : Nat) : -1152921504606846976 ≤ (co_V W f n j).z k ∧ (co_V W f n j).z k ≤ 1152921504606846976 := by
  show -1152921504606846976 ≤ (match k with | 3 => (j : Int) | 4 => (n : Int) | k => W.z k) ∧ (match k with | 3 => (j : Int) | 4 => (n : Int) | k => W.z k) ≤ (1152921504606846976 : Int)
  split
  · omega
  · omega
  · exact hs _
theorem co_F2_ok (h0 : W.z 0 = 0) (hs : ∀ k, -1152921504606846976 ≤ W.z k ∧ W.z k ≤ 1152921504606846976) (hn : n ≤ 1000000) {j : Nat} (hj : j ≤ n) : FaOK (co_V W f n j) co_F2 where
  z0 := h0
  sm := co_sm hs hn hj
  le := by simp [co_F2, co_V, h0]; omega
  len := by simp [co_F2]
  bd := by simp [co_F2]
  zr := by simp [co_F2]
  rlen := by simp [co_F2]
  full := by simp [co_F2]
  sum := by simp [co_F2]
theorem co_FX_ok (h0 : W.z 0 = 0) (hs : ∀ k, -1152921504606846976 ≤ W.z k ∧ W.z k ≤ 1152921504606846976) (hn : n ≤ 1000000) : FaOK (co_V W f n n) co_FX where
  z0 := h0
  sm := co_sm hs hn (Nat.le_refl _)
  le := by simp [co_FX, co_V, h0]
  len := by simp [co_FX]
  bd := by simp [co_FX]
  zr := by simp [co_FX]
  rlen := by simp [co_FX]
  full := by simp [co_FX]
  sum := by simp [co_FX]
theorem kCollect {F : Fa} {L : List PE} {P : List (AV × AV)} {c : AV} {q : CE} {b : Nat} (R : CoRuns F L P c q b) (h0 : W.z 0 = 0) (hs : ∀ k, -1152921504606846976 ≤ W.z k ∧ W.z k ≤ 1152921504606846976) (hn : n ≤ 1000000)
    (hP : ∀ p ∈ P, ∀ j j', Le (co_V W f n j) (co_V W f n j') p) (hF : ∀ j, j < n → FaOK (co_V W f n j) F) (hL : ∀ j, j < n → ∀ e ∈ L, @PE.ok (envD (co_V W f n j)) e) (hq : ∀ j, j < n → qD (co_V W f n j) q = f j)
    {M : Nat → Prop} {w : World} {vs : List Value} (hm0 : ∀ b, M b → b < w.heap.size) (hv : @RVs (envD (co_V W f n 0)) noR M w [aI 4 0, c] vs) :
    Calls Tryz.prog 76 vs.toArray w fun e w' => ∃ u, e = .returned u ∧ (XP.rats ((List.range n).map f)).p M w' [u] ∧ Below w.heap.size w w' := by
  refine Calls.mono (@am_calls (envD (co_V W f n 0)) _ co_f co_c [aI 4 0, c] [aI 4 0, c] (aL (.v 9)) noR M w vs Tryz.func76 (by rfl) R.id_ (by show 2 ≤ 22; omega) hm0 hv fun a hS => ?_) fun e w' ⟨u, e1, e2, e3⟩ => ⟨u, e1, aL_out (V := co_V W f n 0) (e := .v 9) (ρ := noR) e2, e3⟩
  show holds _ [] a w (.run co_c)
  refine am_go (V := co_V W f n 0) (co_F2_ok h0 hs hn (Nat.zero_le _)) (fun _ h => by cases h) _ R.e0 hS fun ρ M' a w' hS => ?_
  obtain ⟨ρ, M', hS⟩ := am_move (E' := envD (co_V W f n 0)) (co_d0 P) ⟨fun p hp => by
    simp only [co_d0, List.mem_cons] at hp
    rcases hp with rfl | rfl | hp
    · exact rd_I rfl
    · exact rd_Ic rfl
    · exact hP p hp 0 0, fun p hp => by
    simp only [co_d0, List.mem_singleton] at hp
    subst hp
    rfl, fun p hp M w cs r => by
    simp only [co_d0, List.mem_singleton] at hp
    subst hp
    change OptCells w (rD (co_V W f n 0) (.ap 40 (.i 4 0) (.lit 0))) cs at r
    show OptCells w (co_row f n 0) cs
    rw [co_row0]
    simpa [rD, zD, co_V] using r, fun p hp => (by cases hp)⟩ hm0 R.m0 R.b0 hS
  refine am_loop (fun j => n - j) (co_V W f n) (fun j => j ≤ n) (co_s c) ?_ 0 (Nat.zero_le _) hS
  intro j hj ρ M' a w' hS
  show holds _ [] a w' (.run co_b)
  by_cases hjn : j < n
  · refine am_go (V := co_V W f n j) (hF j hjn) (hL j hjn) _ R.er hS fun ρ M' a w' hS => ?_
    obtain ⟨ρ, M', hS⟩ := am_move (E' := envD (co_V W f n (j + 1))) (co_dr P q b) ⟨fun p hp => by
      simp only [co_dr, List.mem_cons] at hp
      rcases hp with rfl | rfl | hp
      · exact rd_I rfl
      · exact rd_I (by show (j : Int) + 1 = ((j + 1 : Nat) : Int) + 0; omega)
      · exact hP p hp j (j + 1), fun p hp => by
      simp only [co_dr, List.mem_singleton] at hp
      subst hp
      rfl, fun p hp M w cs r => by
      simp only [co_dr, List.mem_singleton] at hp
      subst hp
      change OptCells w (rD (co_V W f n j) (.ap 41 (.v 0) (.ap 0 (.i 3 0) (.ap 52 q (.lit (b : Int)))))) cs at r
      show OptCells w (co_row f n (j + 1)) cs
      rw [← co_rowS]
      simp only [rD] at r
      rw [hq j hjn] at r
      have hz : (zD (co_V W f n j) (.i 3 0)).toNat = j := by simp [zD, co_V]
      rw [hz] at r
      exact r, fun p hp => (by cases hp)⟩ hm0 R.mr R.br hS
    exact ⟨j + 1, ρ, M', hjn, by show n - (j + 1) < n - j; omega, hS⟩
  · have hjn : j = n := by omega
    subst hjn
    refine am_go (V := co_V W f j j) (co_FX_ok h0 hs hn) (fun _ h => by cases h) _ R.ex hS fun ρ M' a w' hS => ?_
    show holds _ co_k a w' (.at_ (.ext 0))
    refine am_go (V := co_V W f j j) (co_FX_ok h0 hs hn) (fun _ h => by cases h) _ R.ee hS fun ρ M' a w' hS => ?_
    obtain ⟨ρ, M', hS⟩ := am_move (E' := envD (co_V W f j 0)) co_dx ⟨fun p hp => (by cases hp), fun p hp => (by cases hp), fun p hp => (by cases hp), fun p hp M w g k cs hm hg hr hB hN => by
      simp only [co_dx, List.mem_singleton] at hp
      subst hp
      have hNj : (envD (co_V W f j j)).N co_n = j := by show (zD (co_V W f j j) (.i 4 0)).toNat = j; simp [zD, co_V]
      rw [hNj] at hN
      show (XP.rats ((List.range j).map f)).p M w [.slice (some ⟨g, 0, none⟩) ((envD (co_V W f j j)).N co_n) k]
      rw [hNj]
      change OptCells w (co_row f j j) cs at hB
      rw [co_rowN] at hB
      exact ⟨_, k, by simp, by simpa using hN, fun _ => ⟨g, 0, cs, rfl, hm, hg, hr, optCells_rat hB⟩⟩⟩ hm0 R.mx R.bx hS
    exact ⟨.inr rfl, _, ρ, M', hS, co_end⟩
end
end Go.Proofs.YtgaehhapjnbieaaGreat
namespace Go.Proofs.YtgaehhapjnbieaaGreat
open Go.RowKit
theorem am_flat {V : VL} {F : Fa} {L : List PE} {f : Nat} {fn : Func} {c : Code} {xs : List AV} {r : AV} {m n N : Nat} (e : Ex) (he : e = .nor ∨ e = .ret) (hF : FaOK V F) (hL : ∀ e ∈ L, @PE.ok (envD V) e) (hf : Tryz.prog.funcs[f]? = some fn) (hb : fn.body = some c) (hx : renL (fun _ => none) xs = some xs) (hN : fn.ntmps = N) (hlen : xs.length ≤ N)
    (h1 : runF (tbF F L) plainL m n (.run c) [] (begS N xs) = some (.done e (stopS (runF (tbF F L) plainL m n (.run c) [] (begS N xs))))) (h2 : endA fn (stopS (runF (tbF F L) plainL m n (.run c) [] (begS N xs))) = some r)
    {ρ : Rho} {M : Nat → Prop} {w : World} {vs : List Value} (hm0 : ∀ b, M b → b < w.heap.size) (hv : @RVs (envD V) ρ M w xs vs) :
    Calls Tryz.prog f vs.toArray w fun e w' => ∃ u, e = .returned u ∧ @RV (envD V) ρ M w' r u ∧ Below w.heap.size w w' := by
  subst hN
  refine @am_calls (envD V) f fn c xs xs r ρ M w vs hf hb hx hlen hm0 hv fun a hS => ?_
  show holds _ [] a w (.run c)
  refine am_go (V := V) hF hL _ h1 hS fun ρ M' a w' hS => ?_
  refine ⟨?_, _, ρ, M', hS, h2⟩
  rcases he with rfl | rfl
  · exact .inl rfl
  · exact .inr rfl
def idD (P : List (AV × AV)) : Rd := ⟨P, [], [], [], [], 0⟩
def peOf (f : Nat) (P : List (AV × AV)) (ex : List AV) (r : AV) : PE := ⟨f, fun xs => if wkVs (idD P) [] xs ex then some r else none⟩
theorem wkVs_rvs {E E' : Env} {d : Rd} {H : HP} {ρ : Rho} {M : Nat → Prop} {w : World} (hd : RdOK E E' d) (hr : RestOK E d H ρ M w) : ∀ {l m : List AV} {vs : List Value}, wkVs d H l m = true → @RVs E ρ M w l vs → m.all AV.one = true → @RVs E' (rhoK d ρ) (resM d ρ M) w m vs
  | [], [], _, _, h, _ => h
  | a :: l, b :: m, vs, h, ⟨v, r, e, h1, h2⟩, o2 => by
    unfold wkVs at h
    rw [Bool.and_eq_true] at h
    rw [List.all_cons, Bool.and_eq_true] at o2
    exact ⟨v, r, e, @RV.one E' _ _ w b v (wkV_rv hd hr h.1 (@RV1.rv E _ _ _ _ _ h1)) o2.1, wkVs_rvs hd hr h.2 h2 o2.2⟩
  | [], _ :: _, _, h, _, _ => by unfold wkVs at h; cases h
  | _ :: _, [], _, h, _, _ => by unfold wkVs at h; cases h
theorem peOf_ok {V : VL} {f : Nat} {P : List (AV × AV)} {ex : List AV} {r : AV} (pl : Plainly f) (ho : ex.all AV.one = true) (hr : renV (fun _ => none) r = some r) (hP : ∀ p ∈ P, Le V V p)
    (hc : ∀ (M : Nat → Prop) (w : World) (vs : List Value), (∀ b, M b → b < w.heap.size) → @RVs (envD V) noR M w ex vs → Calls Tryz.prog f vs.toArray w fun e w' => ∃ u, e = .returned u ∧ @RV (envD V) noR M w' r u ∧ Below w.heap.size w w') : @PE.ok (envD V) (peOf f P ex r) := by
  intro xs r' e
  have e : (if wkVs (idD P) [] xs ex then some r else none) = some r' := e
  split at e
  · rename_i h
    cases e
    refine ⟨pl, fun ρ M w vs hm0 hv => ?_⟩
    have h1 : @RVs (envD V) (rhoK (idD P) ρ) (resM (idD P) ρ M) w ex vs := wkVs_rvs (rd_ok hP rfl rfl rfl) ⟨fun p hp => (by cases hp), fun o b g c hm => (by cases hm)⟩ h hv ho
    have e1 : rhoK (idD P) ρ = noR := by
      funext o
      unfold rhoK
      rw [if_neg]
      intro hk
      unfold Rd.keep at hk
      rw [Bool.and_eq_true] at hk
      exact absurd (Nat.le_of_ble_eq_true hk.1) (by show ¬ o + 1 ≤ 0; omega)
    have e2 : resM (idD P) ρ M = M := by
      funext b
      exact propext ⟨fun h => h.1, fun h => ⟨h, fun o c hm => (by cases hm)⟩⟩
    rw [e1, e2] at h1
    refine Calls.mono (hc M w vs hm0 h1) fun e w' ⟨u, q1, q2, q3⟩ => ⟨u, q1, ?_, q3⟩
    exact @ren_rv (envD V) (fun _ => none) noR ρ M M w' (fun _ _ _ e => by cases e) (fun _ h => h) r r u hr q2
  · cases e
noncomputable def cf_f : Func := Tryz.f109
noncomputable def cf_c : Code := bodyOf cf_f
def cf_V (l : List Rat) (i : Nat) : VL := ⟨fun k => match k with | 1 => (i : Int) | 2 => (l.length : Int) | _ => 0, fun k => match k with | 0 => l | _ => [], fun _ => 0, fun _ => []⟩
def cf_F0 : Fa := ⟨[(0, 1, 0), (1, 2, -1)], [(.v 0, 2, 0)], [(.v 0, 200000000)], [], [], [], []⟩
def cf_F1 : Fa := ⟨[(0, 1, 0), (2, 1, 0)], [(.v 0, 2, 0)], [(.v 0, 200000000)], [], [], [], []⟩
def cf_xs : List AV := [aL (.v 0), aI 1 0]
noncomputable def cf_r0 := runF (tbF cf_F0 []) plainL 100 100 (.run cf_c) [] (begS 14 cf_xs)
noncomputable def cf_r1 := runF (tbF cf_F1 []) plainL 100 100 (.run cf_c) [] (begS 14 cf_xs)
set_option maxRecDepth 100000
theorem cf_e0 : cf_r0 = some (.done .ret (stopS cf_r0)) := by kernel_rfl
theorem cf_e1 : cf_r1 = some (.done .ret (stopS cf_r1)) := by kernel_rfl
theorem cf_x0 : endA cf_f (stopS cf_r0) = some (aQ (.ap 30 (.v 0) (.i 1 0)) 200000000) := by kernel_rfl
theorem cf_x1 : endA cf_f (stopS cf_r1) = some (.rat 0) := by kernel_rfl
theorem kCoef {l : List Rat} {i : Nat} (hs : ∀ x ∈ l, RSm x 200000000) (hl : l.length ≤ 1000000) (hi : i ≤ 1000000) {ρ : Rho} {M : Nat → Prop} {w : World} {v : Value} (hm0 : ∀ b, M b → b < w.heap.size) (hv : (XP.rats l).p M w [v]) :
    Calls Tryz.prog 109 #[v, .int .i64 (i : Int)] w fun e w' => ∃ u, e = .returned u ∧ (ratF (l.getD i 0)).p u w' ∧ Below w.heap.size w w' := by
  have sm : ∀ k, -1152921504606846976 ≤ (cf_V l i).z k ∧ (cf_V l i).z k ≤ 1152921504606846976 := fun k => by
    show -1152921504606846976 ≤ (match k with | 1 => (i : Int) | 2 => (l.length : Int) | _ => 0) ∧ (match k with | 1 => (i : Int) | 2 => (l.length : Int) | _ => 0) ≤ (1152921504606846976 : Int)
    split <;> omega
  have hv : @RVs (envD (cf_V l i)) ρ M w cf_xs [v, .int .i64 (i : Int)] := ⟨v, _, rfl, aL_in (V := cf_V l i) (e := .v 0) hv, _, _, rfl, aI_in (V := cf_V l i) (by show Value.int .i64 (i : Int) = .int .i64 ((i : Int) + 0); rw [Int.add_zero]), rfl⟩
  by_cases h : i < l.length
  · have hF : FaOK (cf_V l i) cf_F0 := ⟨rfl, sm, by simp [cf_F0, cf_V]; omega, by simp [cf_F0, cf_V, lD], by simpa [cf_F0, cf_V, lD] using hs, by simp [cf_F0], by simp [cf_F0], by simp [cf_F0], by simp [cf_F0]⟩
    refine Calls.mono (am_flat .ret (.inr rfl) hF (fun _ h => by cases h) Tryz.func109 (fn := cf_f) (c := cf_c) (by rfl) (by rfl) (by rfl) (by decide) cf_e0 cf_x0 hm0 hv) fun e w' ⟨u, e1, e2, e3⟩ => ⟨u, e1, ?_, e3⟩
    have := (aQ_out e2).1
    simpa [qD, lD, zD, cf_V] using this
  · have hF : FaOK (cf_V l i) cf_F1 := ⟨rfl, sm, by simp [cf_F1, cf_V]; omega, by simp [cf_F1, cf_V, lD], by simpa [cf_F1, cf_V, lD] using hs, by simp [cf_F1], by simp [cf_F1], by simp [cf_F1], by simp [cf_F1]⟩
    refine Calls.mono (am_flat .ret (.inr rfl) hF (fun _ h => by cases h) Tryz.func109 (fn := cf_f) (c := cf_c) (by rfl) (by rfl) (by rfl) (by decide) cf_e1 cf_x1 hm0 hv) fun e w' ⟨u, e1, e2, e3⟩ => ⟨u, e1, ?_, e3⟩
    rw [List.getD_eq_getElem?_getD, List.getElem?_eq_none (by omega)]
    exact @asRat_sound (envD (cf_V l i)) ρ M w' u (.rat 0) 0 rfl e2
end Go.Proofs.YtgaehhapjnbieaaGreat
