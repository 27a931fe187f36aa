/- The law IntegerRing answers true, given the fixed examples. -/
import Derived.Test.YtjajmonhcnmidaaDoorRing3
import Derived.Test.YtjajmonhcnmidaaDoorValid
namespace Go.Proofs.YtjajmonhcnmidaaDoor
open Go.RowKit

theorem low_step {L d : Nat} {a a' : Act} (h : ∀ t, t < L → d ≠ t → a'.tmps[t]? = a.tmps[t]?) {t : Nat} {v : Value} (ht : t < L) (hd : d ≠ t) (hv : a.tmps[t]? = some v) : a'.tmps[t]? = some v := (h t ht hd).trans hv

set_option maxRecDepth 100000 in
set_option maxHeartbeats 3200000 in
theorem Ring_law (hS : Sanity) (r0 r1 r2 : RawArg) (w : World) (k0 : r0.Ok w) (k1 : r1.Ok w) (k2 : r2.Ok w) (htab : P10 w) :
    Calls Tryd.prog 5 #[r0.val_, r1.val_, r2.val_] w fun e w' => e = .returned (.bool true) ∧ Below w.heap.size w w' := by
  have s0 := k0.sm
  have s1 := k1.sm
  have s2 := k2.sm
  have HT := Lib.hid htab
  have K0 := Lib.hid k0
  have K1 := Lib.hid k1
  have K2 := Lib.hid k2
  have HX := Lib.hid (heap3 w (.cells #[.slice r0.A r0.k r0.c, .bool r0.b] 24) (.cells #[.slice r1.A r1.k r1.c, .bool r1.b] 24) (.cells #[.slice r2.A r2.k r2.c, .bool r2.b] 24))
  have HB := Lib.hid (below3 w (.cells #[.slice r0.A r0.k r0.c, .bool r0.b] 24) (.cells #[.slice r1.A r1.k r1.c, .bool r1.b] 24) (.cells #[.slice r2.A r2.k r2.c, .bool r2.b] 24))
  have S0 := Lib.hid s0
  have S1 := Lib.hid s1
  have S2 := Lib.hid s2
  clear htab k0 k1 k2 s0 s1 s2
  unfold RawArg.val_
  go_enter Tryd.func5, Tryd.ntmps5
  go_wp2_with fail
  generalize ((w.alloc (.cells #[.slice r0.A r0.k r0.c, .bool r0.b] 24)).alloc (.cells #[.slice r1.A r1.k r1.c, .bool r1.b] 24)).alloc (.cells #[.slice r2.A r2.k r2.c, .bool r2.b] 24) = W at *
  refine (hS _ (tab_below HT.out HB.out)).mono ?_
  rintro e w1 ⟨rfl, hb1⟩
  have X0 : RawBox w1 w.heap.size r0 := RawBox.into HX.out.1 hb1
  have X1 : RawBox w1 (w.heap.size + 1) r1 := RawBox.into HX.out.2.1 hb1
  have X2 : RawBox w1 (w.heap.size + 2) r2 := RawBox.into HX.out.2.2 hb1
  replace HB := Lib.hid (step_below HB.out hb1)
  replace X0 := Lib.hid X0
  replace X1 := Lib.hid X1
  replace X2 := Lib.hid X2
  clear hb1 HX
  go_wp2_with fail
  refine region2 (N := 125) (by decide) (by kernel_rfl) (by kernel_rfl) (by kernel_rfl) (by kernel_rfl) (fun _ d _ _ _ h => by cases d <;> exact h) (K0.out.into HB.out) (K1.out.into HB.out) (K2.out.into HB.out) rfl rfl rfl X0.out X1.out X2.out
    (by kernel_rfl) (by kernel_rfl) (by kernel_rfl) (opIs_of (by kernel_rfl)) (opIs_of (by kernel_rfl)) (opIs_of (by kernel_rfl)) (opIs_of (by kernel_rfl)) (opIs_of (by kernel_rfl)) (opIs_of (by kernel_rfl)) (opIs_of (by kernel_rfl)) (opIs_of (by kernel_rfl)) (opIs_of (by kernel_rfl))
    (by kernel_rfl) (by kernel_rfl) (by kernel_rfl) (by kernel_rfl) (by kernel_rfl) (by kernel_rfl) (by kernel_rfl) ?_
  rename_i K hK
  intro a2 w2 hT
  refine hK _ _ ?_
  clear hK
  refine wp_seq ?_
  refine ring3 (by decide) hT S0.out S1.out (by decide) (by decide) (by kernel_rfl) (opIs_of (by kernel_rfl)) (opIs_of (by kernel_rfl)) (opIs_of (by kernel_rfl)) (opIs_of (by kernel_rfl)) (by kernel_rfl) ?_
  intro a3 w3 hV
  obtain ⟨g8, b8, A8, k8, c8, L8, Y8⟩ := hV.box0
  obtain ⟨g9, b9, A9, k9, c9, L9, Y9⟩ := hV.box1
  obtain ⟨g10, b10, A10, k10, c10, L10, Y10⟩ := hV.box2
  obtain ⟨g11, b11, A11, k11, c11, L11, Y11⟩ := hV.box3
  have L7 : a3.tmps[7]? = some (.bool true) := (hV.low 7 (by decide)).trans rfl
  have hd3 : a3.defers = [] := hV.defers
  have hz3 := hV.size
  have hB3 := Lib.hid (step_below HB.out hV.below)
  clear hT hV
  show Code.wp _ _ _ a3 w3
  refine wp_seq ?_
  refine ring4 (by kernel_rfl) (fun _ d _ _ _ h => by cases d <;> exact h) hz3 L8 Y8 S0.out L9 Y9 S1.out L10 Y10 S2.out ?_
  intro a4 w4 hz4 low4 L12 hd4 hb4
  replace L8 := low_step low4 (by decide) (by decide) L8
  replace L9 := low_step low4 (by decide) (by decide) L9
  replace L10 := low_step low4 (by decide) (by decide) L10
  replace L11 := low_step low4 (by decide) (by decide) L11
  replace L7 := low_step low4 (by decide) (by decide) L7
  replace hd4 := hd4.trans hd3
  replace Y8 := Y8.into hb4
  replace Y9 := Y9.into hb4
  replace Y10 := Y10.into hb4
  replace Y11 := Y11.into hb4
  have hB4 := Lib.hid (step_below hB3.out hb4)
  clear low4 hb4 hB3 hd3 hz3
  show Code.wp _ _ _ a4 w4
  refine wp_seq ?_
  refine ring5 (by kernel_rfl) (fun _ d _ _ _ h => by cases d <;> exact h) hz4 L8 Y8 S0.out L9 Y9 S1.out L10 Y10 S2.out L11 Y11 (S0.out.mul S1.out) ?_
  intro a5 w5 hz5 low5 L13 hd5 hb5
  replace L8 := low_step low5 (by decide) (by decide) L8
  replace L9 := low_step low5 (by decide) (by decide) L9
  replace L10 := low_step low5 (by decide) (by decide) L10
  replace L11 := low_step low5 (by decide) (by decide) L11
  replace L12 := low_step low5 (by decide) (by decide) L12
  replace L7 := low_step low5 (by decide) (by decide) L7
  replace hd5 := hd5.trans hd4
  replace Y8 := Y8.into hb5
  replace Y9 := Y9.into hb5
  replace Y10 := Y10.into hb5
  replace Y11 := Y11.into hb5
  have hB5 := Lib.hid (step_below hB4.out hb5)
  clear low5 hb5 hB4 hd4 hz4
  show Code.wp _ _ _ a5 w5
  refine wp_seq ?_
  have fin : ∀ a' w', a'.tmps.size = 125 → (∀ t, t < 14 → 6 ≠ t → a'.tmps[t]? = a5.tmps[t]?) → a'.tmps[6]? = some (.bool true) → a'.defers = a5.defers → Below w5.heap.size w5 w' → Exit.then (Code.wp Tryd.prog .ret (bodyPost Tryd.prog Tryd.f5 fun e w' => e = .returned (.bool true) ∧ Below w.heap.size w w')) (bodyPost Tryd.prog Tryd.f5 fun e w' => e = .returned (.bool true) ∧ Below w.heap.size w w') .normal a' w' := by
    intro a' w' _ _ h6 hd hb
    have hv : a'.tmps.getD 6 undef = .bool true := by simp [Array.getD_eq_getD_getElem?, h6]
    show Code.wp _ _ _ a' w'
    refine wp_ret (bodyPost_ret (results_tmp rfl a'.tmps _ w') (hd.trans hd5) ?_)
    rw [hv]
    exact ⟨rfl, step_below hB5.out hb⟩
  by_cases h8 : r0.int = 0
  · exact ring6a (by kernel_rfl) (fun _ d _ _ _ h => by cases d <;> exact h) hz5 L8 Y8 S0.out L9 Y9 S1.out L10 Y10 S2.out L11 Y11 (S0.out.mul S1.out) L12 L13 L7 h8 fin
  · by_cases h9 : r1.int = 0
    · exact ring6b (by kernel_rfl) (fun _ d _ _ _ h => by cases d <;> exact h) hz5 L8 Y8 S0.out L9 Y9 S1.out L10 Y10 S2.out L11 Y11 (S0.out.mul S1.out) L12 L13 L7 h8 h9 fin
    · exact ring6c (by kernel_rfl) (fun _ d _ _ _ h => by cases d <;> exact h) hz5 L8 Y8 S0.out L9 Y9 S1.out L10 Y10 S2.out L11 Y11 (S0.out.mul S1.out) L12 L13 L7 h8 h9 fin
end Go.Proofs.YtjajmonhcnmidaaDoor
