/- PolyEvaluates: evaluation and shifting preserve sums and products; shifting back restores the polynomial. No condition. -/
import Derived.Test.YtgaehhapjnbieaaGreatqYd
import Derived.Test.YtgaehhapjnbieaaGreatqYj
import Derived.Test.YtgaehhapjnbieaaGreatRows
set_option linter.unusedSectionVars false
set_option linter.unusedVariables false
set_option linter.unusedSimpArgs false
namespace Go.Proofs.YtgaehhapjnbieaaGreat
open Go.RowKit
theorem mulL_len9 {a b : List Rat} (ha : a.length ≤ 5) (hb : b.length ≤ 5) : (mulL a b).length ≤ 9 := by
 by_cases h : a = [] ∨ b = []
 ·rw [show mulL a b = [] from if_pos h]
  exact Nat.zero_le _
 ·rw [mulL_len (fun e => h (.inl e)) (fun e => h (.inr e))]
  omega
def pe_s : CE := .ap 71 (.v 0) (.v 1)
def pe_m : CE := .ap 73 (.v 0) (.v 1)
def pe_m2 : CE := .ap 73 (.v 10) (.v 13)
def pe_V (a b c A B C : List Rat) (x z : Rat) (x0 x1 y0 y1 : Int) : VL := ⟨fun k => match k with | 1 => (a.length : Int) | 2 => (b.length : Int) | 6 => x0 | 7 => x1 | 8 => y0 | 9 => y1 | 42 => ((shiftL a x).length : Int) | 43 => ((shiftL (shiftL a x) (-x)).length : Int) | 44 => ((shiftL (mulL a b) x).length : Int) | 45 => ((shiftL b x).length : Int) | 46 => ((addC a b).length : Int) | 47 => ((mulL a b).length : Int) | 48 => ((mulL (shiftL a x) (shiftL b x)).length : Int) | _ => 0, fun k => match k with | 0 => a | 1 => b | 2 => c | 3 => A | 4 => B | 5 => C | 10 => shiftL a x | 11 => shiftL (shiftL a x) (-x) | 12 => shiftL (mulL a b) x | 13 => shiftL b x | _ => [], fun k => match k with | 0 => x | 1 => z | 10 => evalC (shiftL a x) z | 11 => evalC a (z + x) | 12 => evalC (addC a b) z | 13 => evalC a z | 14 => evalC b z | 15 => evalC (mulL a b) z | _ => 0, fun _ => []⟩
def pe_F : Fa := ⟨[(1, 0, 400000), (2, 0, 400000), (42, 0, 400000), (43, 0, 400000), (44, 0, 400000), (45, 0, 400000), (46, 0, 400000), (47, 0, 400000), (48, 0, 400000)], [(.v 0, 1, 0), (.v 1, 2, 0), (.v 10, 42, 0), (.v 11, 43, 0), (.v 12, 44, 0), (.v 13, 45, 0), (pe_s, 46, 0), (pe_m, 47, 0), (pe_m2, 48, 0)], [(.v 0, 1), (.v 1, 1), (.v 10, 358), (.v 11, 43198), (.v 12, 6531838), (.v 13, 358), (pe_s, 3), (pe_m, 16), (pe_m2, 3586)], [(.ap 32 (.v 10) (.v 11), true), (.ap 32 (.v 12) (.ap 31 (.v 13) (.v 14)), true), (.ap 32 (.v 15) (.ap 33 (.v 13) (.v 14)), true)], [], [], []⟩
def pe_K : List (CE × Nat) := [(.v 0, 5), (.v 10, 5)]
def pe_E : List (CE × CE × Bool) := [(.v 11, .v 0, true), (.v 12, pe_m2, true)]
def pe_Y : List AV := [.ext 1 false (.ap 55 (.i 8 0) (.lit 0)), .ext 1 false (.ap 55 (.i 9 0) (.lit 0))]
def pe_neg : AV := aQ (.ap 34 (.v 0) (.lit 0)) 1
def pe_sum : AV := aQ (.ap 31 (.v 1) (.v 0)) 3
def pe_P : List (AV × AV) := [(aL (.v 0), aL (.v 0)), (aL (.v 1), aL (.v 1)), (aL (.v 10), aL (.v 10)), (aL pe_s, aL pe_s), (aL pe_m, aL pe_m), (aQ (.v 0) 1, aQ (.v 0) 1), (aQ (.v 1) 1, aQ (.v 1) 1), (pe_neg, pe_neg), (pe_sum, pe_sum)]
def pe_PY : List (AV × AV) := pe_Y.map fun a => (a, a)
noncomputable def pe_num2 : PE := peOf 12 pe_PY [.agg pe_Y] (aQ (.v 1) 1)
noncomputable def pe_num : PE := ⟨12, orG pd_num.g pe_num2.g⟩
noncomputable def pe_sq (e : CE) (y : AV) (r : Nat) : PE := peOf 35 pe_P [aL e, y] (aL (.v r))
noncomputable def pe_eq (e : CE) (y : AV) (r n : Nat) : PE := peOf 33 pe_P [aL e, y] (aQ (.v r) n)
noncomputable def pe_sh : PE := ⟨35, orG (pe_sq (.v 0) (aQ (.v 0) 1) 10).g (orG (pe_sq (.v 10) pe_neg 11).g (orG (pe_sq pe_m (aQ (.v 0) 1) 12).g (pe_sq (.v 1) (aQ (.v 0) 1) 13).g))⟩
noncomputable def pe_ev : PE := ⟨33, orG (pe_eq (.v 10) (aQ (.v 1) 1) 10 1801).g (orG (pe_eq (.v 0) pe_sum 11 26).g (orG (pe_eq pe_s (aQ (.v 1) 1) 12 26).g (orG (pe_eq (.v 0) (aQ (.v 1) 1) 13 16).g (orG (pe_eq (.v 1) (aQ (.v 1) 1) 14 16).g (pe_eq pe_m (aQ (.v 1) 1) 15 163).g))))⟩
noncomputable def pe_L : List PE := [pd_san, pd_made, pe_num, pe_sh, pe_ev, pAddL pe_F, pMulL pe_F pe_K, pEqualL pe_F pe_E]
noncomputable def pe_f : Func := Tryz.f7
noncomputable def pe_c : Code := bodyOf pe_f
noncomputable def pe_r := runF (tbF pe_F pe_L) plainL 100 100 (.run pe_c) [] (begS pe_f.ntmps [.agg pd_X, .agg pe_Y])
noncomputable def pe_nr := runF (tbF fa0 [pMadeC]) plainL 100 100 (.run nu_c) [] (begS nu_f.ntmps [.agg pe_Y])
set_option maxRecDepth 100000
theorem pe_e : pe_r = some (.done .ret (stopS pe_r)) := by kernel_rfl
theorem pe_x : endA pe_f (stopS pe_r) = some (.val (.bool true)) := by kernel_rfl
theorem pe_b : pe_f.body = some pe_c := by kernel_rfl
theorem pe_n : Nat.ble 2 pe_f.ntmps = true := by kernel_rfl
theorem pe_ne : pe_nr = some (.done .ret (stopS pe_nr)) := by kernel_rfl
theorem pe_nx : endA nu_f (stopS pe_nr) = some (aQ (.ap 39 (.i 8 0) (.i 9 0)) 1) := by kernel_rfl
theorem pe_nl : Nat.ble 1 nu_f.ntmps = true := by kernel_rfl
section
variable {V : VL}
theorem pe_Le : ∀ p ∈ pe_P, Le V V p := by
 intro p hp ρ ρ' M w cs r
 simp only [pe_P, List.mem_cons, List.not_mem_nil, or_false] at hp
 rcases hp with rfl | rfl | rfl | rfl | rfl | rfl | rfl | rfl | rfl <;> (first | (unfold Rp at r ⊢; exact r) | (unfold pe_neg Rp at r ⊢; exact r) | (unfold pe_sum Rp at r ⊢; exact r))
theorem pe_LeY : ∀ p ∈ pe_PY, Le V V p := by
 intro p hp ρ ρ' M w cs r
 simp only [pe_PY, pe_Y, List.map_cons, List.map_nil, List.mem_cons, List.not_mem_nil, or_false] at hp
 rcases hp with rfl | rfl <;> (unfold Rp at r ⊢; exact r)
theorem pe_num2_ok (z0 : V.z 0 = 0) (sm : ∀ k, -1152921504606846976 ≤ V.z k ∧ V.z k ≤ 1152921504606846976) (hq : V.q 1 = numOf (V.z 8) (V.z 9)) : @PE.ok (envD V) pe_num2 := by
 refine peOf_ok (fun _ _ => by simp [go_sem]) rfl rfl pe_LeY fun M w vs hm0 hv => ?_
 refine Calls.mono (am_flat .ret (.inr rfl) (fa0_ok z0 sm) (fun e he => ?_) Tryz.func12 nu_b (by rfl) rfl (show [AV.agg pe_Y].length ≤ nu_f.ntmps from Nat.le_of_ble_eq_true pe_nl) pe_ne pe_nx hm0 hv) fun e w' ⟨u, e1, e2, e3⟩ => ⟨u, e1, ?_, e3⟩
 ·rw [List.mem_singleton] at he
  subst he
  exact pMadeC_ok
 ·obtain ⟨q1, q2⟩ := aQ_out (V := V) (ρ := noR) e2
  have h : qD V (.ap 39 (.i 8 0) (.i 9 0)) = V.q 1 := by
   rw [hq]
   simp only [qD, zD, numOf, Int.add_zero]
  rw [h] at q1 q2
  exact @RV1.rv (envD V) noR M w' _ _ (aQ_in (q := .v 1) q1 q2)
theorem pe_sq_ok {e q : CE} {n r : Nat} (ho : [aL e, aQ q n].all AV.one = true) (hs : RSm (qD V q) 10000000) (hl : (lD V e).length ≤ 1000000) (hR : ∀ i, i ≤ (lD V e).length → ∀ k, k ≤ (lD V e).length - 1 - i → ∀ x ∈ shIn (shOut (lD V e) (qD V q) (lD V e).length i) (qD V q) (lD V e).length k, RSm x 30000000) (hr : V.l r = shiftL (lD V e) (qD V q)) : @PE.ok (envD V) (pe_sq e (aQ q n) r) := by
 refine peOf_ok (fun _ _ => by simp [go_sem]) ho rfl pe_Le fun M w vs hm0 hv => ?_
 obtain ⟨va, _, rfl, h1, vb, _, rfl, h2, h3⟩ := hv
 have h3 : _ = [] := h3
 subst h3
 exact (kShiftL hs hl hR hm0 (aL_out h1) (aQ_out h2).1).rv (by simp only [lD]; exact hr)
theorem pe_eq_ok {e q : CE} {n r p m B : Nat} (ho : [aL e, aQ q n].all AV.one = true) (hp : 1 ≤ p) (hs : RSm (qD V q) m) (hm : m ≤ 40000000) (ha : ∀ y ∈ lD V e, RSm y p) (hp2 : p ≤ 90000000) {N : Nat} (hl : (lD V e).length ≤ N) (hN : N ≤ 1000000) (hB : 1 + N * (p + m + 1) ≤ B) (hB2 : B ≤ 50000000) (hr : V.q r = evalC (lD V e) (qD V q)) : @PE.ok (envD V) (pe_eq e (aQ q n) r B) := by
 refine peOf_ok (fun _ _ => by simp [go_sem]) ho rfl pe_Le fun M w vs hm0 hv => ?_
 obtain ⟨va, _, rfl, h1, vb, _, rfl, h2, h3⟩ := hv
 have h3 : _ = [] := h3
 subst h3
 have hle : (lD V e).length * (p + m + 1) ≤ N * (p + m + 1) := Nat.mul_le_mul_right _ hl
 refine Calls.mono (kEvalL (fun y hy => (ha y hy).mono hp2) (hs.mono hm) (by omega) (fun i _ => (evalC_bds hp hs ha i).mono (by omega)) hm0 (aL_out h1) (aQ_out h2).1) fun e' w' ⟨v, e1, e2, e3⟩ => ⟨v, e1, @RV1.rv (envD V) noR M w' _ _ (aQ_in (q := .v r) ?_ ?_), e3⟩
 ·simp only [qD]
  rw [hr]
  exact e2
 ·simp only [qD]
  rw [hr]
  exact (evalC_bd hp hs ha).mono (by omega)
end
section
variable {a b c A B C : List Rat} {x z : Rat} {x0 x1 y0 y1 : Int}
set_option maxHeartbeats 2000000 in
theorem pe_ok (ha : a.length ≤ 5) (hb : b.length ≤ 5) (ta : Trimmed a) (sa : ∀ y ∈ a, RSm y 1) (sb : ∀ y ∈ b, RSm y 1) (sx : RSm x 1) (h0 : -128 ≤ x0 ∧ x0 ≤ 127) (h1 : -128 ≤ x1 ∧ x1 ≤ 127) (h2 : -128 ≤ y0 ∧ y0 ≤ 127) (h3 : -128 ≤ y1 ∧ y1 ≤ 127) : FaOK (pe_V a b c A B C x z x0 x1 y0 y1) pe_F := by
 have l1 := shiftL_len a x
 have l2 := shiftL_len (shiftL a x) (-x)
 have l3 := shiftL_len (mulL a b) x
 have l4 := shiftL_len b x
 have l5 := addC_len a b
 have l6 := mulL_len9 ha hb
 have l7 := mulL_le (shiftL a x) (shiftL b x)
 have d1 : ∀ y ∈ shiftL a x, RSm y 358 := shift_bd (p := 1) (q := 1) (by decide) sa sx (N := 5) ha (by decide)
 have d4 : ∀ y ∈ shiftL b x, RSm y 358 := shift_bd (p := 1) (q := 1) (by decide) sb sx (N := 5) hb (by decide)
 have d2 : ∀ y ∈ shiftL (shiftL a x) (-x), RSm y 43198 := shift_bd (p := 358) (q := 1) (by decide) d1 sx.neg (N := 5) (by omega) (by decide)
 have d6 : ∀ y ∈ mulL a b, RSm y 16 := fun y hy => (mulL_bd (p := 1) (q := 1) (by decide) (by decide) sa sb y hy).mono (by omega)
 have d3 : ∀ y ∈ shiftL (mulL a b) x, RSm y 6531838 := shift_bd (p := 16) (q := 1) (by decide) d6 sx (N := 9) l6 (by decide)
 have d5 : ∀ y ∈ addC a b, RSm y 3 := fun y hy => (addC_bd (p := 1) (q := 1) (by decide) (by decide) sa sb y hy).mono (by omega)
 have d7 : ∀ y ∈ mulL (shiftL a x) (shiftL b x), RSm y 3586 := fun y hy => (mulL_bd (p := 358) (q := 358) (by decide) (by decide) d1 d4 y hy).mono (by have : (shiftL a x).length * (358 + 358 + 1) ≤ 5 * 717 := Nat.mul_le_mul_right _ (by omega); omega)
 have hsm : ∀ k, -1152921504606846976 ≤ (pe_V a b c A B C x z x0 x1 y0 y1).z k ∧ (pe_V a b c A B C x z x0 x1 y0 y1).z k ≤ 1152921504606846976 := fun k => by
  unfold pe_V
  dsimp only
  split <;> omega
 refine ⟨rfl, hsm, ?_, ?_, ?_, ?_, fun _ h => (by cases h), fun _ h => (by cases h), fun _ h => (by cases h)⟩
 ·intro y hy
  simp only [pe_F, List.mem_cons, List.not_mem_nil, or_false] at hy
  rcases hy with rfl | rfl | rfl | rfl | rfl | rfl | rfl | rfl | rfl
  ·show (((a).length : Nat) : Int) ≤ 0 + 400000
   omega
  ·show (((b).length : Nat) : Int) ≤ 0 + 400000
   omega
  ·show (((shiftL a x).length : Nat) : Int) ≤ 0 + 400000
   omega
  ·show (((shiftL (shiftL a x) (-x)).length : Nat) : Int) ≤ 0 + 400000
   omega
  ·show (((shiftL (mulL a b) x).length : Nat) : Int) ≤ 0 + 400000
   omega
  ·show (((shiftL b x).length : Nat) : Int) ≤ 0 + 400000
   omega
  ·show (((addC a b).length : Nat) : Int) ≤ 0 + 400000
   omega
  ·show (((mulL a b).length : Nat) : Int) ≤ 0 + 400000
   omega
  ·show (((mulL (shiftL a x) (shiftL b x)).length : Nat) : Int) ≤ 0 + 400000
   omega
 ·intro y hy
  simp only [pe_F, List.mem_cons, List.not_mem_nil, or_false] at hy
  rcases hy with rfl | rfl | rfl | rfl | rfl | rfl | rfl | rfl | rfl <;> exact (Int.add_zero _).symm
 ·intro y hy
  simp only [pe_F, List.mem_cons, List.not_mem_nil, or_false] at hy
  rcases hy with rfl | rfl | rfl | rfl | rfl | rfl | rfl | rfl | rfl
  ·exact sa
  ·exact sb
  ·exact d1
  ·exact d2
  ·exact d3
  ·exact d4
  ·exact d5
  ·exact d6
  ·exact d7
 ·intro y hy
  simp only [pe_F, List.mem_cons, List.not_mem_nil, or_false] at hy
  rcases hy with rfl | rfl | rfl
  ·refine decide_eq_true ?_
   show evalC (shiftL a x) z - evalC a (z + x) = 0
   rw [eval_shift]
   grind
  ·refine decide_eq_true ?_
   show evalC (addC a b) z - (evalC a z + evalC b z) = 0
   rw [eval_add]
   grind
  ·refine decide_eq_true ?_
   show evalC (mulL a b) z - evalC a z * evalC b z = 0
   rw [eval_mul]
   grind
theorem pe_calls (ha : a.length ≤ 5) (hb : b.length ≤ 5) (ta : Trimmed a) (sa : ∀ y ∈ a, RSm y 1) (sb : ∀ y ∈ b, RSm y 1) (sx : RSm x 1) (h0 : -128 ≤ x0 ∧ x0 ≤ 127) (h1 : -128 ≤ x1 ∧ x1 ≤ 127) (h2 : -128 ≤ y0 ∧ y0 ≤ 127) (h3 : -128 ≤ y1 ∧ y1 ≤ 127) (sz : RSm z 1) (hs : @PE.ok (envD (pe_V a b c A B C x z x0 x1 y0 y1)) pd_san) (hm : @PE.ok (envD (pe_V a b c A B C x z x0 x1 y0 y1)) pd_made) (hn : @PE.ok (envD (pe_V a b c A B C x z x0 x1 y0 y1)) pe_num)
  {M : Nat → Prop} {w : World} {vs : List Value} (hm0 : ∀ b, M b → b < w.heap.size) (hv : @RVs (envD (pe_V a b c A B C x z x0 x1 y0 y1)) noR M w [.agg pd_X, .agg pe_Y] vs) : Calls Tryz.prog 7 vs.toArray w (GivesP (eqF (.bool true)) w) := by
 have hF := pe_ok (c := c) (A := A) (B := B) (C := C) (z := z) ha hb ta sa sb sx h0 h1 h2 h3
 have l1 := shiftL_len a x
 have l2 := shiftL_len (shiftL a x) (-x)
 have l3 := shiftL_len (mulL a b) x
 have l4 := shiftL_len b x
 have l5 := addC_len a b
 have l6 := mulL_len9 ha hb
 have l7 := mulL_le (shiftL a x) (shiftL b x)
 have d1 : ∀ y ∈ shiftL a x, RSm y 358 := shift_bd (p := 1) (q := 1) (by decide) sa sx (N := 5) ha (by decide)
 have d4 : ∀ y ∈ shiftL b x, RSm y 358 := shift_bd (p := 1) (q := 1) (by decide) sb sx (N := 5) hb (by decide)
 have d2 : ∀ y ∈ shiftL (shiftL a x) (-x), RSm y 43198 := shift_bd (p := 358) (q := 1) (by decide) d1 sx.neg (N := 5) (by omega) (by decide)
 have d6 : ∀ y ∈ mulL a b, RSm y 16 := fun y hy => (mulL_bd (p := 1) (q := 1) (by decide) (by decide) sa sb y hy).mono (by omega)
 have d3 : ∀ y ∈ shiftL (mulL a b) x, RSm y 6531838 := shift_bd (p := 16) (q := 1) (by decide) d6 sx (N := 9) l6 (by decide)
 have d5 : ∀ y ∈ addC a b, RSm y 3 := fun y hy => (addC_bd (p := 1) (q := 1) (by decide) (by decide) sa sb y hy).mono (by omega)
 have d7 : ∀ y ∈ mulL (shiftL a x) (shiftL b x), RSm y 3586 := fun y hy => (mulL_bd (p := 358) (q := 358) (by decide) (by decide) d1 d4 y hy).mono (by have : (shiftL a x).length * (358 + 358 + 1) ≤ 5 * 717 := Nat.mul_le_mul_right _ (by omega); omega)
 refine Calls.mono (am_flat .ret (.inr rfl) hF (fun e he => ?_) Tryz.func7 pe_b (by rfl) rfl (show [AV.agg pd_X, AV.agg pe_Y].length ≤ pe_f.ntmps from Nat.le_of_ble_eq_true pe_n) pe_e pe_x hm0 hv) fun e w' ⟨u, e1, e2, e3⟩ => ⟨u, e1, e2, e3⟩
 simp only [pe_L, List.mem_cons, List.not_mem_nil, or_false] at he
 have szx : RSm (z + x) 3 := (sz.add sx).mono (by omega)
 rcases he with rfl | rfl | rfl | rfl | rfl | rfl | rfl | rfl
 ·exact hs
 ·exact hm
 ·exact hn
 ·refine orG_ok (pe_sq_ok rfl (sx.mono (by decide)) (by show a.length ≤ 1000000; omega) (shift_bds (p := 1) (q := 1) (N := 5) (by decide) sa sx ha (by decide)) rfl) (orG_ok (pe_sq_ok rfl (sx.neg.mono (by decide)) (by show (shiftL a x).length ≤ 1000000; omega) (shift_bds (p := 358) (q := 1) (N := 5) (by decide) d1 sx.neg (by show (shiftL a x).length ≤ 5; omega) (by decide)) rfl) (orG_ok (pe_sq_ok rfl (sx.mono (by decide)) (by show (mulL a b).length ≤ 1000000; omega) (shift_bds (p := 16) (q := 1) (N := 9) (by decide) d6 sx l6 (by decide)) rfl) (pe_sq_ok rfl (sx.mono (by decide)) (by show b.length ≤ 1000000; omega) (shift_bds (p := 1) (q := 1) (N := 5) (by decide) sb sx hb (by decide)) rfl)))
 ·refine orG_ok (pe_eq_ok (p := 358) (m := 1) (N := 5) rfl (by decide) sz (by decide) d1 (by decide) (by show (shiftL a x).length ≤ 5; omega) (by decide) (by decide) (by decide) rfl) (orG_ok (pe_eq_ok (p := 1) (m := 3) (N := 5) rfl (by decide) szx (by decide) sa (by decide) ha (by decide) (by decide) (by decide) rfl) (orG_ok (pe_eq_ok (p := 3) (m := 1) (N := 5) rfl (by decide) sz (by decide) d5 (by decide) (by show (addC a b).length ≤ 5; omega) (by decide) (by decide) (by decide) rfl) (orG_ok (pe_eq_ok (p := 1) (m := 1) (N := 5) rfl (by decide) sz (by decide) sa (by decide) ha (by decide) (by decide) (by decide) rfl) (orG_ok (pe_eq_ok (p := 1) (m := 1) (N := 5) rfl (by decide) sz (by decide) sb (by decide) hb (by decide) (by decide) (by decide) rfl) (pe_eq_ok (p := 16) (m := 1) (N := 9) rfl (by decide) sz (by decide) d6 (by decide) l6 (by decide) (by decide) (by decide) rfl)))))
 ·exact pAddL_ok hF
 ·refine pMulL_ok hF fun k hk => ?_
  simp only [pe_K, List.mem_cons, List.not_mem_nil, or_false] at hk
  rcases hk with rfl | rfl
  ·exact ha
  ·show (shiftL a x).length ≤ 5
   omega
 ·refine pEqualL_ok hF fun k hk => ?_
  simp only [pe_E, List.mem_cons, List.not_mem_nil, or_false] at hk
  rcases hk with rfl | rfl
  ·exact decide_eq_true (show shiftL (shiftL a x) (-x) = a from shift_back ta l1)
  ·exact decide_eq_true (show shiftL (mulL a b) x = mulL (shiftL a x) (shiftL b x) from shift_mul)
end
theorem pe_law {W : World} {v : Value} {A B C : List Rat} {x0 x1 y0 y1 : Int} (h : ThreeAt W v A B C x0 x1) (h2 : -128 ≤ y0 ∧ y0 ≤ 127) (h3 : -128 ≤ y1 ∧ y1 ≤ 127) : Calls Tryz.prog 7 #[v, .agg #[.int .i8 y0, .int .i8 y1]] W (GivesP (eqF (.bool true)) W) := by
 have hv := ThreeAt.rvs (V := pe_V (madeC A 5) (madeC B 5) (madeC C 3) A B C (numOf x0 x1) (numOf y0 y1) x0 x1 y0 y1) h
 obtain ⟨_, _, _, _, a, b, c, kA, kB, kC, h0, h1⟩ := h
 have sm := (pe_ok (a := madeC A 5) (b := madeC B 5) (c := madeC C 3) (A := A) (B := B) (C := C) (x := numOf x0 x1) (z := numOf y0 y1) madeC_len madeC_len madeC_tr (madeC_sm (prs_bd a)) (madeC_sm (prs_bd b)) (numOf_sm h0 h1) h0 h1 h2 h3).sm
 obtain ⟨u, r, e, hu, hr⟩ := hv
 have hr : r = [] := hr
 subst hr
 have e := (List.cons.inj e).1
 subst e
 refine pe_calls (A := A) (B := B) (C := C) (c := madeC C 3) (vs := [v, .agg #[.int .i8 y0, .int .i8 y1]]) madeC_len madeC_len madeC_tr (madeC_sm (prs_bd a)) (madeC_sm (prs_bd b)) (numOf_sm h0 h1) h0 h1 h2 h3 (numOf_sm h2 h3) pd_san_ok (made3_ok rfl sm kA kB kC rfl rfl rfl) (orG_ok (num3_ok rfl sm rfl) (pe_num2_ok rfl sm rfl)) (M := fun _ => False) (fun _ h => h.elim) ⟨v, _, rfl, hu, _, _, rfl, ⟨_, rfl, ?_⟩, rfl⟩
 letI := envD (pe_V (madeC A 5) (madeC B 5) (madeC C 3) A B C (numOf x0 x1) (numOf y0 y1) x0 x1 y0 y1)
 have one : ∀ {c : CE} {u : Value}, (Env.X c).p (fun _ => False) W [u] → Rp noR (fun _ => False) W (.ext 1 false c) [u] := fun h => by
  unfold Rp
  exact ⟨rfl, h⟩
 refine Rps.app (l := [_]) (l' := [_]) (cs := [_]) (cs' := [_]) (Rps.one (one ?_)) (Rps.one (one ?_))
 ·show (XP.i8 (y0 + 0)).p _ W _
  rw [Int.add_zero]
  exact ⟨rfl, h2⟩
 ·show (XP.i8 (y1 + 0)).p _ W _
  rw [Int.add_zero]
  exact ⟨rfl, h3⟩
end Go.Proofs.YtgaehhapjnbieaaGreat
namespace Go.Proofs.YtgaehhapjnbieaaGreat
open Go.ChangeShapes Go.WideShapes Go.ChangeAt Go.RowKit Go.Joins
theorem arr2K8 : WideMaps.ArrKey Tryz.prog 24 23 2 := ⟨Tryz.underlying24, by kernel_rfl, by kernel_rfl, by kernel_rfl⟩
set_option maxRecDepth 100000 in
theorem polyEvaluates_lifted (os : Os) (started : os.Started) (H : Type) (enc : TypeId × Value → H) :
  ReturnsInHanded {} Tryz.checked os 7 .any (Rows.polyEvaluatesSpec.pre6 enc Tryz.prog Tryz.f7 [] false)
   (Rows.polyEvaluatesSpec.post enc Tryz.prog Tryz.f7 false true false false) := by
 refine returnsInHanded_of_change_sized (C := Tryz.checked) ownN started (by kernel_rfl) Tryz.func7 ?_ ?_
 ·obtain ⟨w, t, i, a1, a2, a3, a4, ⟨⟨p1, _⟩, p2⟩, a6⟩ := ChangeSpec.witness_at (enc := enc) (C := Tryz.checked) (os := os) (f := 7) (fn := Tryz.f7) (s := Rows.polyEvaluatesSpec) (conds := []) (apart := false) (X := fun _ _ => True) false (World.holding Tryz.prog os ⟨#[], #[], []⟩) #[.agg #[.slice none 0 0, .slice none 0 0, .slice none 0 0, .int .i8 0, .int .i8 0], .agg #[.int .i8 0, .int .i8 0]] 8 rfl (by kernel_rfl) (by kernel_rfl) (by kernel_rfl) (by kernel_rfl) (by kernel_rfl) True.intro
  exact ⟨w, t, i, a1, a2, a3, a4, ⟨p1, p2⟩, a6⟩
 intro W base args ds gs before hval0 hW _ hsz0 _
 have hval : ∀ (j : Nat) t v, Tryz.f7.params[j]? = some t → args[j]? = some v → Value.okWide Tryz.prog W .any base t v := hval0
 have hsz : (DataW.weightsEach Tryz.prog (Tryz.f7.params.toList ++ Rows.polyEvaluatesSpec.plain.varTypes Tryz.prog) (ds ++ gs)).all (· ≤ reachBytes) = true := hsz0
 have hW' := hW
 obtain ⟨p, q, hA0, hV0, rfl, hfz, hnd⟩ := hW
 have hA : DataW.TrodAll enc Tryz.prog W 0 (fun _ => true) true Tryz.f7.params.toList args.toList ds p := hA0
 have hV : DataW.TrodVars enc Tryz.prog W (fun _ => true) [] gs q := hV0
 rw [Tryz.params7] at hA hval hsz
 obtain ⟨rfl, rfl⟩ := trodVars_none hV
 obtain ⟨v0, v1, d0, d1, p0, p1, rfl, rfl, rfl, h0, h1⟩ := trodAll_two hA
 have h0k := h0
 have hw0 : ∀ n ∈ d0.weights Tryz.prog 26, n ≤ reachBytes := fun n hn =>
  of_decide_eq_true (List.all_eq_true.1 hsz _ (DataW.weights_mem_each (j := 0) (t := 26) rfl rfl n hn))
 have hlt0 : ∀ x ∈ p0, x.block < W.heap.size := fun x hx => hW'.lt x (by simp [hx])
 obtain ⟨A0, B0, C0, x0, y0, K0⟩ := three_open (hval 0 26 v0 rfl rfl) h0 hw0
 obtain ⟨x1, y1, rfl, rfl, rfl, wx1, wy1⟩ := WideMaps.open_pair arr2K8 Tryz.underlying23 (hval 1 24 v1 rfl rfl) h1
 clear hA0 hV0 hval0 hsz0
 refine (pe_law K0 (bounds_i8 wx1) (bounds_i8 wy1)).mono fun e W' hpost => ?_
 obtain ⟨u, he, hu, hb⟩ := hpost
 have hu : u = .bool true := hu
 subst hu
 subst he
 have e1 : Rows.polyEvaluatesSpec.fn H ([d0, .agg [.lit (.int .i8 x1), .lit (.int .i8 y1)]] ++ []) = { results := [.lit (.bool true)], args := [d0, .agg [.lit (.int .i8 x1), .lit (.int .i8 y1)]] } := by simp [Rows.polyEvaluatesSpec]
 refine ⟨_, rfl, law_post hW' hb ?_ ?_ ?_⟩
 ·rw [e1]; exact trodAll_mk1 (shut_bool Tryz.underlying4 true)
 ·rw [e1]
  have := trodAll_mk2 (Below.trod laidOutN (by kernel_rfl) (of_decide_eq_true (by kernel_rfl)) h0k hb hlt0) (WideMaps.shut_pair arr2K8 Tryz.underlying23 wx1 wy1)
  simpa using this
 ·rw [e1]; rfl
theorem polyEvaluates_holds : Rows.PolyEvaluatesSaid :=
 OpenClaim.holds_of_wide 7 Tryz.f7 rfl rfl rfl rfl rfl rfl rfl ⟨rfl, rfl, rfl, rfl, rfl⟩ rfl rfl rfl rfl rfl (by kernel_rfl) Tryz.func7 (by kernel_rfl)
  (of_decide_eq_true (by kernel_rfl)) (by unfold Func.isWrapper; rw [if_neg (of_decide_eq_false (by kernel_rfl))]; exact ⟨rfl, rfl⟩)
  (fun os started H enc _ => polyEvaluates_lifted os started H enc)
end Go.Proofs.YtgaehhapjnbieaaGreat
