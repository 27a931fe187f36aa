/- The law IntegerOrder answers true, given the fixed examples. -/
import Derived.Test.YtjajmonhcnmidaaDoorRace2
import Derived.Test.YtjajmonhcnmidaaDoorOrdR
import Derived.Test.YtjajmonhcnmidaaDoorValid
namespace Go.Proofs.YtjajmonhcnmidaaDoor
open Go.RowKit

/-- The body from region n on. -/
def tailOf (n : Nat) : Code → Code
  | .seq (.region i ops d) b => if i = n then .seq (.region i ops d) b else tailOf n b
  | c => c
theorem low_stepO {L d : Nat} {a a' : Act} (h : ∀ t, t < L → d ≠ t → a'.tmps[t]? = a.tmps[t]?) {t : Nat} {v : Value} (ht : t < L) (hd : d ≠ t) (hv : a.tmps[t]? = some v) : a'.tmps[t]? = some v := (h t ht hd).trans hv

set_option maxRecDepth 100000 in
set_option maxHeartbeats 3200000 in
theorem Order_law (hS : Sanity) (r0 r1 r2 : RawArg) (w : World) (k0 : r0.Ok w) (k1 : r1.Ok w) (k2 : r2.Ok w) (htab : P10 w) :
    Calls Tryd.prog 6 #[r0.val_, r1.val_, r2.val_] w fun e w' => e = .returned (.bool true) ∧ Below w.heap.size w w' := by
  have s0 := k0.sm
  have s1 := k1.sm
  have s2 := k2.sm
  have HT := Lib.hid htab
  have K0 := Lib.hid k0
  have K1 := Lib.hid k1
  have K2 := Lib.hid k2
  have HX := Lib.hid (heap3 w (.cells #[.slice r0.A r0.k r0.c, .bool r0.b] 24) (.cells #[.slice r1.A r1.k r1.c, .bool r1.b] 24) (.cells #[.slice r2.A r2.k r2.c, .bool r2.b] 24))
  have HB := Lib.hid (below3 w (.cells #[.slice r0.A r0.k r0.c, .bool r0.b] 24) (.cells #[.slice r1.A r1.k r1.c, .bool r1.b] 24) (.cells #[.slice r2.A r2.k r2.c, .bool r2.b] 24))
  have S0 := Lib.hid s0
  have S1 := Lib.hid s1
  have S2 := Lib.hid s2
  clear htab k0 k1 k2 s0 s1 s2
  unfold RawArg.val_
  go_enter Tryd.func6, Tryd.ntmps6
  go_wp2_with fail
  generalize ((w.alloc (.cells #[.slice r0.A r0.k r0.c, .bool r0.b] 24)).alloc (.cells #[.slice r1.A r1.k r1.c, .bool r1.b] 24)).alloc (.cells #[.slice r2.A r2.k r2.c, .bool r2.b] 24) = W at *
  refine (hS _ (tab_below HT.out HB.out)).mono ?_
  rintro e w1 ⟨rfl, hb1⟩
  have X0 : RawBox w1 w.heap.size r0 := RawBox.into HX.out.1 hb1
  have X1 : RawBox w1 (w.heap.size + 1) r1 := RawBox.into HX.out.2.1 hb1
  have X2 : RawBox w1 (w.heap.size + 2) r2 := RawBox.into HX.out.2.2 hb1
  replace HB := Lib.hid (step_below HB.out hb1)
  replace X0 := Lib.hid X0
  replace X1 := Lib.hid X1
  replace X2 := Lib.hid X2
  clear hb1 HX
  go_wp2_with fail
  refine region2 (N := 100) (by decide) (by kernel_rfl) (by kernel_rfl) (by kernel_rfl) (by kernel_rfl) (fun _ d _ _ _ h => by cases d <;> exact h) (K0.out.into HB.out) (K1.out.into HB.out) (K2.out.into HB.out) rfl rfl rfl X0.out X1.out X2.out
    (by kernel_rfl) (by kernel_rfl) (by kernel_rfl) (opIs_of (by kernel_rfl)) (opIs_of (by kernel_rfl)) (opIs_of (by kernel_rfl)) (opIs_of (by kernel_rfl)) (opIs_of (by kernel_rfl)) (opIs_of (by kernel_rfl)) (opIs_of (by kernel_rfl)) (opIs_of (by kernel_rfl)) (opIs_of (by kernel_rfl))
    (by kernel_rfl) (by kernel_rfl) (by kernel_rfl) (by kernel_rfl) (by kernel_rfl) (by kernel_rfl) (by kernel_rfl) ?_
  rename_i K hK
  intro a2 w2 hT
  refine hK _ _ ?_
  clear hK
  obtain ⟨g8, b8, A8, k8, c8, L8, Y8⟩ := hT.box0
  obtain ⟨g9, b9, A9, k9, c9, L9, Y9⟩ := hT.box1
  obtain ⟨g10, b10, A10, k10, c10, L10, Y10⟩ := hT.box2
  have L7 : a2.tmps[7]? = some (.bool true) := (hT.low 7 (by decide)).trans rfl
  have hd2 : a2.defers = [] := hT.defers
  have hz2 := hT.size
  have hB2 := Lib.hid (step_below HB.out hT.below)
  clear hT
  refine wp_seq ?_
  refine ord3 (by kernel_rfl) (fun _ d _ _ _ h => by cases d <;> exact h) hz2 L8 Y8 S0.out L9 Y9 S1.out ?_
  intro a3 w3 hz3 low3 L11 hd3 hb3
  replace L7 := low_stepO low3 (by decide) (by decide) L7
  replace L8 := low_stepO low3 (by decide) (by decide) L8
  replace L9 := low_stepO low3 (by decide) (by decide) L9
  replace L10 := low_stepO low3 (by decide) (by decide) L10
  replace hd3 := hd3.trans hd2
  replace Y8 := Y8.into hb3
  replace Y9 := Y9.into hb3
  replace Y10 := Y10.into hb3
  have hB3 := Lib.hid (step_below hB2.out hb3)
  clear low3 hb3 hB2 hd2 hz2
  show Code.wp _ _ _ a3 w3
  refine wp_seq ?_
  refine ord4 (by kernel_rfl) (fun _ d _ _ _ h => by cases d <;> exact h) hz3 L8 Y8 S0.out L9 Y9 S1.out L11 ?_
  intro a4 w4 hz4 low4 L12 hd4 hb4
  replace L7 := low_stepO low4 (by decide) (by decide) L7
  replace L8 := low_stepO low4 (by decide) (by decide) L8
  replace L9 := low_stepO low4 (by decide) (by decide) L9
  replace L10 := low_stepO low4 (by decide) (by decide) L10
  replace L11 := low_stepO low4 (by decide) (by decide) L11
  replace hd4 := hd4.trans hd3
  replace Y8 := Y8.into hb4
  replace Y9 := Y9.into hb4
  replace Y10 := Y10.into hb4
  have hB4 := Lib.hid (step_below hB3.out hb4)
  clear low4 hb4 hB3 hd3 hz3
  show Code.wp _ _ _ a4 w4
  refine wp_seq ?_
  have fin5 : ∀ a5 w5, a5.tmps.size = 100 → (∀ t, t < 14 → 13 ≠ t → a5.tmps[t]? = a4.tmps[t]?) → a5.tmps[13]? = some (.bool true) → a5.defers = a4.defers → Below w4.heap.size w4 w5 → Code.wp Tryd.prog (match Tryd.f6.body with | some c => tailOf 6 c | none => .skip) (bodyPost Tryd.prog Tryd.f6 fun e w' => e = .returned (.bool true) ∧ Below w.heap.size w w') a5 w5 := by
    intro a5 w5 hz5 low5 L13 hd5 hb5
    replace L7 := low_stepO low5 (by decide) (by decide) L7
    replace L8 := low_stepO low5 (by decide) (by decide) L8
    replace L9 := low_stepO low5 (by decide) (by decide) L9
    replace L10 := low_stepO low5 (by decide) (by decide) L10
    replace L11 := low_stepO low5 (by decide) (by decide) L11
    replace L12 := low_stepO low5 (by decide) (by decide) L12
    replace hd5 := hd5.trans hd4
    replace Y8 := Y8.into hb5
    replace Y9 := Y9.into hb5
    replace Y10 := Y10.into hb5
    have hB5 := Lib.hid (step_below hB4.out hb5)
    clear low5 hb5
    refine wp_seq ?_
    refine ord6 (by kernel_rfl) (fun _ d _ _ _ h => by cases d <;> exact h) hz5 L8 Y8 S0.out L9 Y9 S1.out L10 Y10 S2.out L11 L12 L13 L7 ?_
    intro a' w' _ _ h6 hd hb
    have hv : a'.tmps.getD 6 undef = .bool true := by simp [Array.getD_eq_getD_getElem?, h6]
    show Code.wp _ _ _ a' w'
    refine wp_ret (bodyPost_ret (results_tmp rfl a'.tmps _ w') (hd.trans hd5) ?_)
    rw [hv]
    exact ⟨rfl, step_below hB5.out hb⟩
  by_cases h8 : r1.int < r0.int
  · exact ord5a (by kernel_rfl) (fun _ d _ _ _ h => by cases d <;> exact h) hz4 L8 Y8 S0.out L9 Y9 S1.out L10 Y10 S2.out L11 h8 fin5
  · by_cases h9 : r2.int < r1.int
    · exact ord5b (by kernel_rfl) (fun _ d _ _ _ h => by cases d <;> exact h) hz4 L8 Y8 S0.out L9 Y9 S1.out L10 Y10 S2.out L11 h8 h9 fin5
    · exact ord5c (by kernel_rfl) (fun _ d _ _ _ h => by cases d <;> exact h) hz4 L8 Y8 S0.out L9 Y9 S1.out L10 Y10 S2.out L11 h8 h9 fin5
end Go.Proofs.YtjajmonhcnmidaaDoor
