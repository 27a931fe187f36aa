/- Walks: Sub. -/
import Derived.Test.YtjajmonhcnmidaaDoorR3
namespace Go.Proofs.YtjajmonhcnmidaaDoor
open Go.RowKit

set_option maxHeartbeats 1600000 in
theorem Sub_any (va vb : Value) (a b : Int) (w : World) (ha : IntAt w va a) (hb : IntAt w vb b) (hla : len a.natAbs ≤ 1099511627775) (hlb : len b.natAbs ≤ 1099511627775) :
    Calls Tryd.prog 16 #[va, vb] w (GivesInt (a - b) w) := by
  obtain ⟨x, hx⟩ : ∃ n, a.natAbs = n := ⟨_, rfl⟩
  obtain ⟨y, hy⟩ : ∃ n, b.natAbs = n := ⟨_, rfl⟩
  obtain ⟨p, hp⟩ : ∃ s, decide (a < 0) = s := ⟨_, rfl⟩
  obtain ⟨q, hq⟩ : ∃ s, decide (b < 0) = s := ⟨_, rfl⟩
  have sa := sgn_of a
  have sb := sgn_of b
  rw [hx, hp] at sa
  rw [hy, hq] at sb
  rw [hx] at hla
  rw [hy] at hlb
  obtain ⟨A, c, rfl, HA⟩ := ha.parts_ hx hp
  obtain ⟨B, d, rfl, HB⟩ := hb.parts_ hy hq
  have HIA := Lib.hid (IntAt.back HA.out hx hp)
  have HIB := Lib.hid (IntAt.back HB.out hy hq)
  have HX := Lib.hid hx
  have HY := Lib.hid hy
  have HP := Lib.hid hp
  have HQ := Lib.hid hq
  have SA := Lib.hid sa
  have SB := Lib.hid sb
  clear hx hy hp hq ha hb HA HB sa sb
  have HH := Lib.hid (heap3 w (.cells #[.bool p, .slice A (len x) c] 27) (.cells #[.bool q, .slice B (len y) d] 27) (.cells #[.bool false, .slice none 0 0] 27))
  have HW := Lib.hid (below3 w (.cells #[.bool p, .slice A (len x) c] 27) (.cells #[.bool q, .slice B (len y) d] 27) (.cells #[.bool false, .slice none 0 0] 27))
  obtain ⟨ca0, ca1, _, _, _⟩ := box_in HH.out.1 (Below.refl _ _)
  obtain ⟨cb0, cb1, _, _, _⟩ := box_in HH.out.2.1 (Below.refl _ _)
  obtain ⟨cc0, cc1, cf0, cf1, cs⟩ := box_in HH.out.2.2 (Below.refl _ _)
  go_enter Tryd.func16, Tryd.ntmps16
  go_wp2_with fail
  generalize ((w.alloc (.cells #[.bool p, .slice A (len x) c] 27)).alloc (.cells #[.bool q, .slice B (len y) d] 27)).alloc (.cells #[.bool false, .slice none 0 0] 27) = W at *
  have HELD : ∀ w' : World, Below W.heap.size W w' → w'.cell? ⟨w.heap.size, 0, none⟩ = some (.bool p) ∧ w'.cell? ⟨w.heap.size, 1, none⟩ = some (.slice A (len x) c) ∧ w'.cell? ⟨w.heap.size + 1, 0, none⟩ = some (.bool q) ∧ w'.cell? ⟨w.heap.size + 1, 1, none⟩ = some (.slice B (len y) d) := fun w' hb => by
    obtain ⟨a0, a1, _, _, _⟩ := box_in HH.out.1 hb
    obtain ⟨b0, b1, _, _, _⟩ := box_in HH.out.2.1 hb
    exact ⟨a0, a1, b0, b1⟩
  have HELD2 : ∀ w' : World, Below W.heap.size W w' → ∀ (i j : Nat) (u v : Value), ((w'.setCell ⟨w.heap.size + 1 + 1, i, none⟩ u).setCell ⟨w.heap.size + 1 + 1, j, none⟩ v).cell? ⟨w.heap.size, 0, none⟩ = some (.bool p) ∧ ((w'.setCell ⟨w.heap.size + 1 + 1, i, none⟩ u).setCell ⟨w.heap.size + 1 + 1, j, none⟩ v).cell? ⟨w.heap.size, 1, none⟩ = some (.slice A (len x) c) ∧ ((w'.setCell ⟨w.heap.size + 1 + 1, i, none⟩ u).setCell ⟨w.heap.size + 1 + 1, j, none⟩ v).cell? ⟨w.heap.size + 1, 0, none⟩ = some (.bool q) ∧ ((w'.setCell ⟨w.heap.size + 1 + 1, i, none⟩ u).setCell ⟨w.heap.size + 1 + 1, j, none⟩ v).cell? ⟨w.heap.size + 1, 1, none⟩ = some (.slice B (len y) d) := fun w' hb i j u v => by
    obtain ⟨a0, a1, b0, b1⟩ := HELD w' hb
    refine ⟨?_, ?_, ?_, ?_⟩
    all_goals
      rw [World.cell?_setCell_far _ _ _ _ (by simp; try omega), World.cell?_setCell_far _ _ _ _ (by simp; try omega)]
      assumption
  have HELD' := Lib.hid HELD
  have HELD2' := Lib.hid HELD2
  clear HELD2
  have HWW := Lib.hid (Below.refl W.heap.size W)
  clear HELD
  go_region_held3 (fun w' => w'.cell? ⟨w.heap.size, 0, none⟩ = some (.bool p) ∧ w'.cell? ⟨w.heap.size, 1, none⟩ = some (.slice A (len x) c) ∧ w'.cell? ⟨w.heap.size + 1, 0, none⟩ = some (.bool q) ∧ w'.cell? ⟨w.heap.size + 1, 1, none⟩ = some (.slice B (len y) d))
    (first | (go_keep; done) | exact HELD'.out _ HB1.out | exact HELD'.out _ HB1.out.drew | exact HELD'.out _ HB2.out | exact HELD'.out _ HB2.out.drew | exact HELD2'.out _ HB2.out _ _ _ _)
    (first
      | (go_at_call 18
         refine (Neg_any _ b _ (HIB.out.into (by first | exact HW.out | exact HW.out.drew | exact HW.out.drew.drew)) (by rw [HY.out]; omega)).mono ?_
         rintro e w1 ⟨v1, rfl, hv1, hb1⟩
         obtain ⟨b1, A1, k1, c1, rfl, H1⟩ := hv1.open_
         have HB1 : Hid (Below W.heap.size W w1) := step_below (by first | exact HWW.out | exact HWW.out.drew | exact HWW.out.drew.drew) hb1
         clear hb1 hv1)
      | (go_at_call 15
         refine (Add_any _ _ a (-b) _ (HIA.out.into (step_below HW.out HB1.out)) H1.out (by rw [HX.out]; omega) (by rw [Int.natAbs_neg, HY.out]; omega)).mono ?_
         rintro e w2 ⟨v2, rfl, hv2, hb2⟩
         obtain ⟨b2, A2, k2, c2, rfl, H2⟩ := hv2.open_
         have HB2 : Hid (Below W.heap.size W w2) := step_below HB1.out hb2
         obtain ⟨dc0, dc1, df0, df1, ds⟩ := box_in HH.out.2.2 HB2.out
         have HE := Lib.hid (box_end (x' := .bool b2) (y' := .slice A2 k2 c2) HH.out.2.2 HB2.out H2.out HW.out (by omega))
         clear hb2 hv2))
  go_wp2
  refine bodyPost_ret (v := .agg #[.bool b2, .slice A2 k2 c2]) (by simp [results, Tryd.results16, go_sem, ds, dc0, dc1]) rfl ⟨_, rfl, HE.out.1, HE.out.2⟩
end Go.Proofs.YtjajmonhcnmidaaDoor
