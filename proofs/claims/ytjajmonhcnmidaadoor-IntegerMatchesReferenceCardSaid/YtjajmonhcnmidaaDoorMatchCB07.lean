/- Walks: the reference's sum. -/
import Derived.Test.YtjajmonhcnmidaaDoorMatchCB06
import Derived.Test.YtjajmonhcnmidaaDoorMatchCB02
import Derived.Test.YtjajmonhcnmidaaDoorMatchCB01
import Derived.Test.YtjajmonhcnmidaaDoorMatchCB05
import Derived.Test.YtjajmonhcnmidaaDoorMatchCB03
import Derived.Deep.RegionHeld3
namespace Go.Proofs.YtjajmonhcnmidaaDoor
open Go.RowKit

set_option maxHeartbeats 1600000 in
theorem RAdd_same (va vb : Value) (a b : Int) (w : World) (ha : IntAt w va a) (hb : IntAt w vb b) (hla : len a.natAbs ≤ 1099511627775) (hlb : len b.natAbs ≤ 1099511627775) (hs : decide (a < 0) = decide (b < 0)) :
    Calls Tryd.prog 22 #[va, vb] w (GivesInt (a + b) w) := by
  obtain ⟨x, hx⟩ : ∃ n, a.natAbs = n := ⟨_, rfl⟩
  obtain ⟨y, hy⟩ : ∃ n, b.natAbs = n := ⟨_, rfl⟩
  obtain ⟨p, hp⟩ : ∃ s, decide (a < 0) = s := ⟨_, rfl⟩
  obtain ⟨q, hq⟩ : ∃ s, decide (b < 0) = s := ⟨_, rfl⟩
  have sa := sgn_of a
  have sb := sgn_of b
  rw [hx, hp] at sa
  rw [hy, hq] at sb
  rw [hx] at hla
  rw [hy] at hlb
  rw [hp, hq] at hs
  subst hs
  obtain ⟨A, c, rfl, HA⟩ := ha.parts_ hx hp
  obtain ⟨B, d, rfl, HB⟩ := hb.parts_ hy hq
  have SA := Lib.hid sa
  have SB := Lib.hid sb
  have LA := Lib.hid hla
  have LB := Lib.hid hlb
  clear hx hy hp hq ha hb sa sb hla hlb
  have heq : (p == p) = true := by simp
  have HH := Lib.hid (heap3 w (.cells #[.bool p, .slice A (len x) c] 27) (.cells #[.bool p, .slice B (len y) d] 27) (.cells #[.bool false, .slice none 0 0] 27))
  have HW := Lib.hid (below3 w (.cells #[.bool p, .slice A (len x) c] 27) (.cells #[.bool p, .slice B (len y) d] 27) (.cells #[.bool false, .slice none 0 0] 27))
  obtain ⟨ca0, ca1, _, _, _⟩ := box_in HH.out.1 (Below.refl _ _)
  obtain ⟨cb0, cb1, _, _, _⟩ := box_in HH.out.2.1 (Below.refl _ _)
  obtain ⟨cc0, cc1, cf0, cf1, cs⟩ := box_in HH.out.2.2 (Below.refl _ _)
  go_enter Tryd.func22, Tryd.ntmps22
  go_wp2_with fail
  generalize ((w.alloc (.cells #[.bool p, .slice A (len x) c] 27)).alloc (.cells #[.bool p, .slice B (len y) d] 27)).alloc (.cells #[.bool false, .slice none 0 0] 27) = W at *
  have HELD : ∀ w' : World, Below W.heap.size W w' → w'.cell? ⟨w.heap.size, 0, none⟩ = some (.bool p) ∧ w'.cell? ⟨w.heap.size, 1, none⟩ = some (.slice A (len x) c) ∧ w'.cell? ⟨w.heap.size + 1, 0, none⟩ = some (.bool p) ∧ w'.cell? ⟨w.heap.size + 1, 1, none⟩ = some (.slice B (len y) d) := fun w' hb => by
    obtain ⟨a0, a1, _, _, _⟩ := box_in HH.out.1 hb
    obtain ⟨b0, b1, _, _, _⟩ := box_in HH.out.2.1 hb
    exact ⟨a0, a1, b0, b1⟩
  have HELD2 : ∀ w' : World, Below W.heap.size W w' → ∀ (i j : Nat) (u v : Value), ((w'.setCell ⟨w.heap.size + 1 + 1, i, none⟩ u).setCell ⟨w.heap.size + 1 + 1, j, none⟩ v).cell? ⟨w.heap.size, 0, none⟩ = some (.bool p) ∧ ((w'.setCell ⟨w.heap.size + 1 + 1, i, none⟩ u).setCell ⟨w.heap.size + 1 + 1, j, none⟩ v).cell? ⟨w.heap.size, 1, none⟩ = some (.slice A (len x) c) ∧ ((w'.setCell ⟨w.heap.size + 1 + 1, i, none⟩ u).setCell ⟨w.heap.size + 1 + 1, j, none⟩ v).cell? ⟨w.heap.size + 1, 0, none⟩ = some (.bool p) ∧ ((w'.setCell ⟨w.heap.size + 1 + 1, i, none⟩ u).setCell ⟨w.heap.size + 1 + 1, j, none⟩ v).cell? ⟨w.heap.size + 1, 1, none⟩ = some (.slice B (len y) d) := fun w' hb i j u v => by
    obtain ⟨a0, a1, b0, b1⟩ := HELD w' hb
    refine ⟨?_, ?_, ?_, ?_⟩
    all_goals
      rw [World.cell?_setCell_far _ _ _ _ (by simp; try omega), World.cell?_setCell_far _ _ _ _ (by simp; try omega)]
      assumption
  have HELD' := Lib.hid HELD
  have HELD2' := Lib.hid HELD2
  clear HELD2
  have HWW := Lib.hid (Below.refl W.heap.size W)
  clear HELD
  go_region_held3 (fun w' => w'.cell? ⟨w.heap.size, 0, none⟩ = some (.bool p) ∧ w'.cell? ⟨w.heap.size, 1, none⟩ = some (.slice A (len x) c) ∧ w'.cell? ⟨w.heap.size + 1, 0, none⟩ = some (.bool p) ∧ w'.cell? ⟨w.heap.size + 1, 1, none⟩ = some (.slice B (len y) d))
    (first | (go_keep; done) | exact HELD'.out _ HB1.out | exact HELD'.out _ HB1.out.drew | exact HELD'.out _ HB2.out | exact HELD'.out _ HB2.out.drew | exact HELD2'.out _ HB2.out _ _ _ _)
    (first
      | (go_at_call 51
         refine (plus_any _ _ c d _ _ (limbs x) (limbs y) _ ((HA.out.into (by first | exact HW.out | exact HW.out.drew | exact HW.out.drew.drew)).mem.2.2.raw) ((HB.out.into (by first | exact HW.out | exact HW.out.drew | exact HW.out.drew.drew)).mem.2.2.raw) (limbs_32 _) (limbs_32 _) (len_limbs _) (len_limbs _) (by have := LA.out; omega) (by have := LB.out; omega)).mono ?_
         rintro e w1 ⟨v1, ds, rfl, ho1, h321, hl1, hv1, hb1⟩
         obtain ⟨A1, L1, c1, rfl, hL1, hc1, _, hm1⟩ := ho1.shapeL
         have HL1 := hL1
         have H321 := Lib.hid h321
         have HLL := Lib.hid hl1
         have HV1 := Lib.hid hv1
         have HC1 := Lib.hid hc1
         have HM1 := Lib.hid hm1
         have HB1 : Hid (Below W.heap.size W w1) := step_below (by first | exact HWW.out | exact HWW.out.drew | exact HWW.out.drew.drew) hb1
         clear hb1 ho1 h321 hl1 hv1 hL1 hc1 hm1)
      | (go_at_call 32
         refine (Made_any A1 L1 c1 ds p _ HL1.out.symm HM1.out.raw (by have := HL1.out; have := HLL.out; omega) HC1.out H321.out).mono ?_
         rintro e w2 ⟨v2, rfl, hv2, hb2⟩
         obtain ⟨b2, A2, k2, c2, rfl, H2⟩ := hv2.open_
         have HB2 : Hid (Below W.heap.size W w2) := step_below HB1.out hb2
         obtain ⟨dc0, dc1, df0, df1, ds'⟩ := box_in HH.out.2.2 HB2.out
         have HE := Lib.hid (box_end (x' := .bool b2) (y' := .slice A2 k2 c2) HH.out.2.2 HB2.out H2.out HW.out (by omega))
         clear hb2 hv2))
  go_wp2
  have hz : sgn p (val ds) = a + b := by
    rw [HV1.out, ← SA.out, ← SB.out]
    rw [val_limbs, val_limbs]
    cases p <;> simp [sgn] <;> omega
  rw [hz] at HE
  refine bodyPost_ret (v := .agg #[.bool b2, .slice A2 k2 c2]) (by simp [results, Tryd.results22, go_sem, ds', dc0, dc1]) rfl ⟨_, rfl, HE.out.1, HE.out.2⟩
set_option maxHeartbeats 1600000 in
theorem RAdd_less (va vb : Value) (a b : Int) (w : World) (ha : IntAt w va a) (hb : IntAt w vb b) (hla : len a.natAbs ≤ 1099511627775) (hlb : len b.natAbs ≤ 1099511627775) (hs : decide (a < 0) ≠ decide (b < 0)) (hlt : a.natAbs < b.natAbs) :
    Calls Tryd.prog 22 #[va, vb] w (GivesInt (a + b) w) := by
  obtain ⟨x, hx⟩ : ∃ n, a.natAbs = n := ⟨_, rfl⟩
  obtain ⟨y, hy⟩ : ∃ n, b.natAbs = n := ⟨_, rfl⟩
  obtain ⟨p, hp⟩ : ∃ s, decide (a < 0) = s := ⟨_, rfl⟩
  obtain ⟨q, hq⟩ : ∃ s, decide (b < 0) = s := ⟨_, rfl⟩
  have sa := sgn_of a
  have sb := sgn_of b
  rw [hx, hp] at sa
  rw [hy, hq] at sb
  rw [hx] at hla
  rw [hy] at hlb
  rw [hp, hq] at hs
  rw [hx, hy] at hlt
  have HLT := Lib.hid hlt
  clear hlt
  obtain ⟨A, c, rfl, HA⟩ := ha.parts_ hx hp
  obtain ⟨B, d, rfl, HB⟩ := hb.parts_ hy hq
  have SA := Lib.hid sa
  have SB := Lib.hid sb
  have LA := Lib.hid hla
  have LB := Lib.hid hlb
  clear hx hy hp hq ha hb sa sb hla hlb
  have hne : (p == q) = false := by cases p <;> cases q <;> simp_all
  have HH := Lib.hid (heap3 w (.cells #[.bool p, .slice A (len x) c] 27) (.cells #[.bool q, .slice B (len y) d] 27) (.cells #[.bool false, .slice none 0 0] 27))
  have HW := Lib.hid (below3 w (.cells #[.bool p, .slice A (len x) c] 27) (.cells #[.bool q, .slice B (len y) d] 27) (.cells #[.bool false, .slice none 0 0] 27))
  obtain ⟨ca0, ca1, _, _, _⟩ := box_in HH.out.1 (Below.refl _ _)
  obtain ⟨cb0, cb1, _, _, _⟩ := box_in HH.out.2.1 (Below.refl _ _)
  obtain ⟨cc0, cc1, cf0, cf1, cs⟩ := box_in HH.out.2.2 (Below.refl _ _)
  go_enter Tryd.func22, Tryd.ntmps22
  go_wp2_with fail
  generalize ((w.alloc (.cells #[.bool p, .slice A (len x) c] 27)).alloc (.cells #[.bool q, .slice B (len y) d] 27)).alloc (.cells #[.bool false, .slice none 0 0] 27) = W at *
  refine (less_q A B c d x y _ (HA.out.into HW.out) (HB.out.into HW.out) (by have := LA.out; omega) (by have := LB.out; omega)).mono ?_
  rintro e W1 ⟨rfl, hbl, hheap⟩
  rw [decide_eq_true HLT.out]
  have HH1 := HH.out
  rw [← hheap] at HH1
  replace HH := Lib.hid HH1
  replace HW := Lib.hid (step_below HW.out hbl)
  clear HH1 hbl hheap ca0 ca1 cb0 cb1 cc0 cc1 cf0 cf1 cs
  obtain ⟨ca0, ca1, _, _, _⟩ := box_in HH.out.1 (Below.refl _ _)
  obtain ⟨cb0, cb1, _, _, _⟩ := box_in HH.out.2.1 (Below.refl _ _)
  obtain ⟨cc0, cc1, cf0, cf1, cs⟩ := box_in HH.out.2.2 (Below.refl _ _)
  go_wp2_with fail
  have HELD : ∀ w' : World, Below W1.heap.size W1 w' → w'.cell? ⟨w.heap.size, 0, none⟩ = some (.bool p) ∧ w'.cell? ⟨w.heap.size, 1, none⟩ = some (.slice A (len x) c) ∧ w'.cell? ⟨w.heap.size + 1, 0, none⟩ = some (.bool q) ∧ w'.cell? ⟨w.heap.size + 1, 1, none⟩ = some (.slice B (len y) d) := fun w' hb => by
    obtain ⟨a0, a1, _, _, _⟩ := box_in HH.out.1 hb
    obtain ⟨b0, b1, _, _, _⟩ := box_in HH.out.2.1 hb
    exact ⟨a0, a1, b0, b1⟩
  have HELD2 : ∀ w' : World, Below W1.heap.size W1 w' → ∀ (i j : Nat) (u v : Value), ((w'.setCell ⟨w.heap.size + 1 + 1, i, none⟩ u).setCell ⟨w.heap.size + 1 + 1, j, none⟩ v).cell? ⟨w.heap.size, 0, none⟩ = some (.bool p) ∧ ((w'.setCell ⟨w.heap.size + 1 + 1, i, none⟩ u).setCell ⟨w.heap.size + 1 + 1, j, none⟩ v).cell? ⟨w.heap.size, 1, none⟩ = some (.slice A (len x) c) ∧ ((w'.setCell ⟨w.heap.size + 1 + 1, i, none⟩ u).setCell ⟨w.heap.size + 1 + 1, j, none⟩ v).cell? ⟨w.heap.size + 1, 0, none⟩ = some (.bool q) ∧ ((w'.setCell ⟨w.heap.size + 1 + 1, i, none⟩ u).setCell ⟨w.heap.size + 1 + 1, j, none⟩ v).cell? ⟨w.heap.size + 1, 1, none⟩ = some (.slice B (len y) d) := fun w' hb i j u v => by
    obtain ⟨a0, a1, b0, b1⟩ := HELD w' hb
    refine ⟨?_, ?_, ?_, ?_⟩
    all_goals
      rw [World.cell?_setCell_far _ _ _ _ (by simp; try omega), World.cell?_setCell_far _ _ _ _ (by simp; try omega)]
      assumption
  have HELD' := Lib.hid HELD
  have HELD2' := Lib.hid HELD2
  clear HELD2
  have HWW := Lib.hid (Below.refl W1.heap.size W1)
  clear HELD
  go_region_held3 (fun w' => w'.cell? ⟨w.heap.size, 0, none⟩ = some (.bool p) ∧ w'.cell? ⟨w.heap.size, 1, none⟩ = some (.slice A (len x) c) ∧ w'.cell? ⟨w.heap.size + 1, 0, none⟩ = some (.bool q) ∧ w'.cell? ⟨w.heap.size + 1, 1, none⟩ = some (.slice B (len y) d))
    (first | (go_keep; done) | exact HELD'.out _ HB1.out | exact HELD'.out _ HB1.out.drew | exact HELD'.out _ HB2.out | exact HELD'.out _ HB2.out.drew | exact HELD2'.out _ HB2.out _ _ _ _)
    (first
      | (go_at_call 52
         refine (minus_any _ _ d c _ _ (limbs y) (limbs x) _ ((HB.out.into (by first | exact HW.out | exact HW.out.drew | exact HW.out.drew.drew)).mem.2.2.raw) ((HA.out.into (by first | exact HW.out | exact HW.out.drew | exact HW.out.drew.drew)).mem.2.2.raw) (limbs_32 _) (limbs_32 _) (len_limbs _) (len_limbs _) (by have := LB.out; omega) (len_mono (Nat.le_of_lt HLT.out)) (by rw [val_limbs, val_limbs]; exact Nat.le_of_lt HLT.out)).mono ?_
         rintro e w1 ⟨v1, ds, rfl, ho1, h321, hl1, hv1, hb1⟩
         obtain ⟨A1, L1, c1, rfl, hL1, hc1, _, hm1⟩ := ho1.shapeL
         have HL1 := hL1
         have H321 := Lib.hid h321
         have HLL := Lib.hid hl1
         have HV1 := Lib.hid hv1
         have HC1 := Lib.hid hc1
         have HM1 := Lib.hid hm1
         have HB1 : Hid (Below W1.heap.size W1 w1) := step_below (by first | exact HWW.out | exact HWW.out.drew | exact HWW.out.drew.drew) hb1
         clear hb1 ho1 h321 hl1 hv1 hL1 hc1 hm1)
      | (go_at_call 32
         refine (Made_any A1 L1 c1 ds q _ HL1.out.symm HM1.out.raw (by have := HL1.out; have := HLL.out; omega) HC1.out H321.out).mono ?_
         rintro e w2 ⟨v2, rfl, hv2, hb2⟩
         obtain ⟨b2, A2, k2, c2, rfl, H2⟩ := hv2.open_
         have HB2 : Hid (Below W1.heap.size W1 w2) := step_below HB1.out hb2
         obtain ⟨dc0, dc1, df0, df1, ds'⟩ := box_in HH.out.2.2 HB2.out
         have HE := Lib.hid (box_end (x' := .bool b2) (y' := .slice A2 k2 c2) HH.out.2.2 HB2.out H2.out HW.out (by omega))
         clear hb2 hv2))
  go_wp2
  have hz : sgn q (val ds) = a + b := by
    rw [HV1.out, ← SA.out, ← SB.out]
    rw [val_limbs, val_limbs]
    have := HLT.out
    cases p <;> cases q <;> simp [sgn] at hne ⊢ <;> omega
  rw [hz] at HE
  refine bodyPost_ret (v := .agg #[.bool b2, .slice A2 k2 c2]) (by simp [results, Tryd.results22, go_sem, ds', dc0, dc1]) rfl ⟨_, rfl, HE.out.1, HE.out.2⟩

set_option maxHeartbeats 1600000 in
theorem RAdd_ge (va vb : Value) (a b : Int) (w : World) (ha : IntAt w va a) (hb : IntAt w vb b) (hla : len a.natAbs ≤ 1099511627775) (hlb : len b.natAbs ≤ 1099511627775) (hs : decide (a < 0) ≠ decide (b < 0)) (hlt : ¬ a.natAbs < b.natAbs) :
    Calls Tryd.prog 22 #[va, vb] w (GivesInt (a + b) w) := by
  obtain ⟨x, hx⟩ : ∃ n, a.natAbs = n := ⟨_, rfl⟩
  obtain ⟨y, hy⟩ : ∃ n, b.natAbs = n := ⟨_, rfl⟩
  obtain ⟨p, hp⟩ : ∃ s, decide (a < 0) = s := ⟨_, rfl⟩
  obtain ⟨q, hq⟩ : ∃ s, decide (b < 0) = s := ⟨_, rfl⟩
  have sa := sgn_of a
  have sb := sgn_of b
  rw [hx, hp] at sa
  rw [hy, hq] at sb
  rw [hx] at hla
  rw [hy] at hlb
  rw [hp, hq] at hs
  rw [hx, hy] at hlt
  have HLT := Lib.hid hlt
  clear hlt
  obtain ⟨A, c, rfl, HA⟩ := ha.parts_ hx hp
  obtain ⟨B, d, rfl, HB⟩ := hb.parts_ hy hq
  have SA := Lib.hid sa
  have SB := Lib.hid sb
  have LA := Lib.hid hla
  have LB := Lib.hid hlb
  clear hx hy hp hq ha hb sa sb hla hlb
  have hne : (p == q) = false := by cases p <;> cases q <;> simp_all
  have HH := Lib.hid (heap3 w (.cells #[.bool p, .slice A (len x) c] 27) (.cells #[.bool q, .slice B (len y) d] 27) (.cells #[.bool false, .slice none 0 0] 27))
  have HW := Lib.hid (below3 w (.cells #[.bool p, .slice A (len x) c] 27) (.cells #[.bool q, .slice B (len y) d] 27) (.cells #[.bool false, .slice none 0 0] 27))
  obtain ⟨ca0, ca1, _, _, _⟩ := box_in HH.out.1 (Below.refl _ _)
  obtain ⟨cb0, cb1, _, _, _⟩ := box_in HH.out.2.1 (Below.refl _ _)
  obtain ⟨cc0, cc1, cf0, cf1, cs⟩ := box_in HH.out.2.2 (Below.refl _ _)
  go_enter Tryd.func22, Tryd.ntmps22
  go_wp2_with fail
  generalize ((w.alloc (.cells #[.bool p, .slice A (len x) c] 27)).alloc (.cells #[.bool q, .slice B (len y) d] 27)).alloc (.cells #[.bool false, .slice none 0 0] 27) = W at *
  refine (less_q A B c d x y _ (HA.out.into HW.out) (HB.out.into HW.out) (by have := LA.out; omega) (by have := LB.out; omega)).mono ?_
  rintro e W1 ⟨rfl, hbl, hheap⟩
  rw [decide_eq_false HLT.out]
  have HH1 := HH.out
  rw [← hheap] at HH1
  replace HH := Lib.hid HH1
  replace HW := Lib.hid (step_below HW.out hbl)
  clear HH1 hbl hheap ca0 ca1 cb0 cb1 cc0 cc1 cf0 cf1 cs
  obtain ⟨ca0, ca1, _, _, _⟩ := box_in HH.out.1 (Below.refl _ _)
  obtain ⟨cb0, cb1, _, _, _⟩ := box_in HH.out.2.1 (Below.refl _ _)
  obtain ⟨cc0, cc1, cf0, cf1, cs⟩ := box_in HH.out.2.2 (Below.refl _ _)
  go_wp2_with fail
  have HELD : ∀ w' : World, Below W1.heap.size W1 w' → w'.cell? ⟨w.heap.size, 0, none⟩ = some (.bool p) ∧ w'.cell? ⟨w.heap.size, 1, none⟩ = some (.slice A (len x) c) ∧ w'.cell? ⟨w.heap.size + 1, 0, none⟩ = some (.bool q) ∧ w'.cell? ⟨w.heap.size + 1, 1, none⟩ = some (.slice B (len y) d) := fun w' hb => by
    obtain ⟨a0, a1, _, _, _⟩ := box_in HH.out.1 hb
    obtain ⟨b0, b1, _, _, _⟩ := box_in HH.out.2.1 hb
    exact ⟨a0, a1, b0, b1⟩
  have HELD2 : ∀ w' : World, Below W1.heap.size W1 w' → ∀ (i j : Nat) (u v : Value), ((w'.setCell ⟨w.heap.size + 1 + 1, i, none⟩ u).setCell ⟨w.heap.size + 1 + 1, j, none⟩ v).cell? ⟨w.heap.size, 0, none⟩ = some (.bool p) ∧ ((w'.setCell ⟨w.heap.size + 1 + 1, i, none⟩ u).setCell ⟨w.heap.size + 1 + 1, j, none⟩ v).cell? ⟨w.heap.size, 1, none⟩ = some (.slice A (len x) c) ∧ ((w'.setCell ⟨w.heap.size + 1 + 1, i, none⟩ u).setCell ⟨w.heap.size + 1 + 1, j, none⟩ v).cell? ⟨w.heap.size + 1, 0, none⟩ = some (.bool q) ∧ ((w'.setCell ⟨w.heap.size + 1 + 1, i, none⟩ u).setCell ⟨w.heap.size + 1 + 1, j, none⟩ v).cell? ⟨w.heap.size + 1, 1, none⟩ = some (.slice B (len y) d) := fun w' hb i j u v => by
    obtain ⟨a0, a1, b0, b1⟩ := HELD w' hb
    refine ⟨?_, ?_, ?_, ?_⟩
    all_goals
      rw [World.cell?_setCell_far _ _ _ _ (by simp; try omega), World.cell?_setCell_far _ _ _ _ (by simp; try omega)]
      assumption
  have HELD' := Lib.hid HELD
  have HELD2' := Lib.hid HELD2
  clear HELD2
  have HWW := Lib.hid (Below.refl W1.heap.size W1)
  clear HELD
  go_region_held3 (fun w' => w'.cell? ⟨w.heap.size, 0, none⟩ = some (.bool p) ∧ w'.cell? ⟨w.heap.size, 1, none⟩ = some (.slice A (len x) c) ∧ w'.cell? ⟨w.heap.size + 1, 0, none⟩ = some (.bool q) ∧ w'.cell? ⟨w.heap.size + 1, 1, none⟩ = some (.slice B (len y) d))
    (first | (go_keep; done) | exact HELD'.out _ HB1.out | exact HELD'.out _ HB1.out.drew | exact HELD'.out _ HB2.out | exact HELD'.out _ HB2.out.drew | exact HELD2'.out _ HB2.out _ _ _ _)
    (first
      | (go_at_call 52
         refine (minus_any _ _ c d _ _ (limbs x) (limbs y) _ ((HA.out.into (by first | exact HW.out | exact HW.out.drew | exact HW.out.drew.drew)).mem.2.2.raw) ((HB.out.into (by first | exact HW.out | exact HW.out.drew | exact HW.out.drew.drew)).mem.2.2.raw) (limbs_32 _) (limbs_32 _) (len_limbs _) (len_limbs _) (by have := LA.out; omega) (len_mono (by have := HLT.out; omega)) (by rw [val_limbs, val_limbs]; have := HLT.out; omega)).mono ?_
         rintro e w1 ⟨v1, ds, rfl, ho1, h321, hl1, hv1, hb1⟩
         obtain ⟨A1, L1, c1, rfl, hL1, hc1, _, hm1⟩ := ho1.shapeL
         have HL1 := hL1
         have H321 := Lib.hid h321
         have HLL := Lib.hid hl1
         have HV1 := Lib.hid hv1
         have HC1 := Lib.hid hc1
         have HM1 := Lib.hid hm1
         have HB1 : Hid (Below W1.heap.size W1 w1) := step_below (by first | exact HWW.out | exact HWW.out.drew | exact HWW.out.drew.drew) hb1
         clear hb1 ho1 h321 hl1 hv1 hL1 hc1 hm1)
      | (go_at_call 32
         refine (Made_any A1 L1 c1 ds p _ HL1.out.symm HM1.out.raw (by have := HL1.out; have := HLL.out; omega) HC1.out H321.out).mono ?_
         rintro e w2 ⟨v2, rfl, hv2, hb2⟩
         obtain ⟨b2, A2, k2, c2, rfl, H2⟩ := hv2.open_
         have HB2 : Hid (Below W1.heap.size W1 w2) := step_below HB1.out hb2
         obtain ⟨dc0, dc1, df0, df1, ds'⟩ := box_in HH.out.2.2 HB2.out
         have HE := Lib.hid (box_end (x' := .bool b2) (y' := .slice A2 k2 c2) HH.out.2.2 HB2.out H2.out HW.out (by omega))
         clear hb2 hv2))
  go_wp2
  have hz : sgn p (val ds) = a + b := by
    rw [HV1.out, ← SA.out, ← SB.out]
    rw [val_limbs, val_limbs]
    have := HLT.out
    cases p <;> cases q <;> simp [sgn] at hne ⊢ <;> omega
  rw [hz] at HE
  refine bodyPost_ret (v := .agg #[.bool b2, .slice A2 k2 c2]) (by simp [results, Tryd.results22, go_sem, ds', dc0, dc1]) rfl ⟨_, rfl, HE.out.1, HE.out.2⟩

theorem RAdd_any (va vb : Value) (a b : Int) (w : World) (ha : IntAt w va a) (hb : IntAt w vb b) (hla : len a.natAbs ≤ 1099511627775) (hlb : len b.natAbs ≤ 1099511627775) :
    Calls Tryd.prog 22 #[va, vb] w (GivesInt (a + b) w) := by
  by_cases hs : decide (a < 0) = decide (b < 0)
  · exact RAdd_same va vb a b w ha hb hla hlb hs
  · by_cases hlt : a.natAbs < b.natAbs
    · exact RAdd_less va vb a b w ha hb hla hlb hs hlt
    · exact RAdd_ge va vb a b w ha hb hla hlb hs hlt
end Go.Proofs.YtjajmonhcnmidaaDoor
/- Walks: the reference's Sub and Cmp. -/
namespace Go.Proofs.YtjajmonhcnmidaaDoor
open Go.RowKit

set_option maxHeartbeats 1600000 in
theorem RSub_any (va vb : Value) (a b : Int) (w : World) (ha : IntAt w va a) (hb : IntAt w vb b) (hla : len a.natAbs ≤ 1099511627775) (hlb : len b.natAbs ≤ 1099511627775) :
    Calls Tryd.prog 23 #[va, vb] w (GivesInt (a - b) w) := by
  obtain ⟨x, hx⟩ : ∃ n, a.natAbs = n := ⟨_, rfl⟩
  obtain ⟨y, hy⟩ : ∃ n, b.natAbs = n := ⟨_, rfl⟩
  obtain ⟨p, hp⟩ : ∃ s, decide (a < 0) = s := ⟨_, rfl⟩
  obtain ⟨q, hq⟩ : ∃ s, decide (b < 0) = s := ⟨_, rfl⟩
  have sa := sgn_of a
  have sb := sgn_of b
  rw [hx, hp] at sa
  rw [hy, hq] at sb
  rw [hx] at hla
  rw [hy] at hlb
  obtain ⟨A, c, rfl, HA⟩ := ha.parts_ hx hp
  obtain ⟨B, d, rfl, HB⟩ := hb.parts_ hy hq
  have HIA := Lib.hid (IntAt.back HA.out hx hp)
  have HIB := Lib.hid (IntAt.back HB.out hy hq)
  have HX := Lib.hid hx
  have HY := Lib.hid hy
  have HP := Lib.hid hp
  have HQ := Lib.hid hq
  have SA := Lib.hid sa
  have SB := Lib.hid sb
  clear hx hy hp hq ha hb HA HB sa sb
  have HH := Lib.hid (heap3 w (.cells #[.bool p, .slice A (len x) c] 27) (.cells #[.bool q, .slice B (len y) d] 27) (.cells #[.bool false, .slice none 0 0] 27))
  have HW := Lib.hid (below3 w (.cells #[.bool p, .slice A (len x) c] 27) (.cells #[.bool q, .slice B (len y) d] 27) (.cells #[.bool false, .slice none 0 0] 27))
  obtain ⟨ca0, ca1, _, _, _⟩ := box_in HH.out.1 (Below.refl _ _)
  obtain ⟨cb0, cb1, _, _, _⟩ := box_in HH.out.2.1 (Below.refl _ _)
  obtain ⟨cc0, cc1, cf0, cf1, cs⟩ := box_in HH.out.2.2 (Below.refl _ _)
  go_enter Tryd.func23, Tryd.ntmps23
  go_wp2_with fail
  generalize ((w.alloc (.cells #[.bool p, .slice A (len x) c] 27)).alloc (.cells #[.bool q, .slice B (len y) d] 27)).alloc (.cells #[.bool false, .slice none 0 0] 27) = W at *
  have HELD : ∀ w' : World, Below W.heap.size W w' → w'.cell? ⟨w.heap.size, 0, none⟩ = some (.bool p) ∧ w'.cell? ⟨w.heap.size, 1, none⟩ = some (.slice A (len x) c) ∧ w'.cell? ⟨w.heap.size + 1, 0, none⟩ = some (.bool q) ∧ w'.cell? ⟨w.heap.size + 1, 1, none⟩ = some (.slice B (len y) d) := fun w' hb => by
    obtain ⟨a0, a1, _, _, _⟩ := box_in HH.out.1 hb
    obtain ⟨b0, b1, _, _, _⟩ := box_in HH.out.2.1 hb
    exact ⟨a0, a1, b0, b1⟩
  have HELD2 : ∀ w' : World, Below W.heap.size W w' → ∀ (i j : Nat) (u v : Value), ((w'.setCell ⟨w.heap.size + 1 + 1, i, none⟩ u).setCell ⟨w.heap.size + 1 + 1, j, none⟩ v).cell? ⟨w.heap.size, 0, none⟩ = some (.bool p) ∧ ((w'.setCell ⟨w.heap.size + 1 + 1, i, none⟩ u).setCell ⟨w.heap.size + 1 + 1, j, none⟩ v).cell? ⟨w.heap.size, 1, none⟩ = some (.slice A (len x) c) ∧ ((w'.setCell ⟨w.heap.size + 1 + 1, i, none⟩ u).setCell ⟨w.heap.size + 1 + 1, j, none⟩ v).cell? ⟨w.heap.size + 1, 0, none⟩ = some (.bool q) ∧ ((w'.setCell ⟨w.heap.size + 1 + 1, i, none⟩ u).setCell ⟨w.heap.size + 1 + 1, j, none⟩ v).cell? ⟨w.heap.size + 1, 1, none⟩ = some (.slice B (len y) d) := fun w' hb i j u v => by
    obtain ⟨a0, a1, b0, b1⟩ := HELD w' hb
    refine ⟨?_, ?_, ?_, ?_⟩
    all_goals
      rw [World.cell?_setCell_far _ _ _ _ (by simp; try omega), World.cell?_setCell_far _ _ _ _ (by simp; try omega)]
      assumption
  have HELD' := Lib.hid HELD
  have HELD2' := Lib.hid HELD2
  clear HELD2
  have HWW := Lib.hid (Below.refl W.heap.size W)
  clear HELD
  go_region_held3 (fun w' => w'.cell? ⟨w.heap.size, 0, none⟩ = some (.bool p) ∧ w'.cell? ⟨w.heap.size, 1, none⟩ = some (.slice A (len x) c) ∧ w'.cell? ⟨w.heap.size + 1, 0, none⟩ = some (.bool q) ∧ w'.cell? ⟨w.heap.size + 1, 1, none⟩ = some (.slice B (len y) d))
    (first | (go_keep; done) | exact HELD'.out _ HB1.out | exact HELD'.out _ HB1.out.drew | exact HELD'.out _ HB2.out | exact HELD'.out _ HB2.out.drew | exact HELD2'.out _ HB2.out _ _ _ _)
    (first
      | (go_at_call 25
         refine (RNeg_any _ b _ (HIB.out.into (by first | exact HW.out | exact HW.out.drew | exact HW.out.drew.drew)) (by rw [HY.out]; omega)).mono ?_
         rintro e w1 ⟨v1, rfl, hv1, hb1⟩
         obtain ⟨b1, A1, k1, c1, rfl, H1⟩ := hv1.open_
         have HB1 : Hid (Below W.heap.size W w1) := step_below (by first | exact HWW.out | exact HWW.out.drew | exact HWW.out.drew.drew) hb1
         clear hb1 hv1)
      | (go_at_call 22
         refine (RAdd_any _ _ a (-b) _ (HIA.out.into (step_below HW.out HB1.out)) H1.out (by rw [HX.out]; omega) (by rw [Int.natAbs_neg, HY.out]; omega)).mono ?_
         rintro e w2 ⟨v2, rfl, hv2, hb2⟩
         obtain ⟨b2, A2, k2, c2, rfl, H2⟩ := hv2.open_
         have HB2 : Hid (Below W.heap.size W w2) := step_below HB1.out hb2
         obtain ⟨dc0, dc1, df0, df1, ds⟩ := box_in HH.out.2.2 HB2.out
         have HE := Lib.hid (box_end (x' := .bool b2) (y' := .slice A2 k2 c2) HH.out.2.2 HB2.out H2.out HW.out (by omega))
         clear hb2 hv2))
  go_wp2
  refine bodyPost_ret (v := .agg #[.bool b2, .slice A2 k2 c2]) (by simp [results, Tryd.results23, go_sem, ds, dc0, dc1]) rfl ⟨_, rfl, HE.out.1, HE.out.2⟩

set_option maxHeartbeats 1600000 in
theorem RCmp_any (va vb : Value) (a b : Int) (w : World) (ha : IntAt w va a) (hb : IntAt w vb b) (hla : len a.natAbs ≤ 1099511627774) (hlb : len b.natAbs ≤ 1099511627774) :
    Calls Tryd.prog 27 #[va, vb] w fun e w' => e = .returned (.int .i64 (Int.sign (a - b))) ∧ Below w.heap.size w w' := by
  obtain ⟨p, A, m, c, rfl, HA⟩ := ha.open_
  obtain ⟨q, B, n, d, rfl, HB⟩ := hb.open_
  have LA := Lib.hid hla
  have LB := Lib.hid hlb
  have HW := Lib.hid (below2 w (.cells #[.bool p, .slice A m c] 27) (.cells #[.bool q, .slice B n d] 27))
  clear ha hb hla hlb
  go_enter Tryd.func27, Tryd.ntmps27
  go_wp2_with fail
  refine (RSub_any _ _ a b _ (HA.out.into HW.out) (HB.out.into HW.out) (by have := LA.out; omega) (by have := LB.out; omega)).mono ?_
  rintro e w1 ⟨v1, rfl, hv1, hb1⟩
  have H1 := Lib.hid hv1
  have HB1 := Lib.hid (step_below HW.out hb1)
  clear hb1 hv1
  go_wp2_with fail
  refine (RSign_any _ (a - b) _ H1.out (by
    have h1 : (a - b).natAbs ≤ a.natAbs + b.natAbs := by omega
    have h2 := len_mono h1
    have h3 := len_add a.natAbs b.natAbs
    have := LA.out
    have := LB.out
    omega)).mono ?_
  rintro e w2 ⟨rfl, hb2⟩
  have HB2 := Lib.hid (step_below HB1.out hb2)
  clear hb2
  go_wp2
  go_ret
  exact ⟨rfl, HB2.out⟩
end Go.Proofs.YtjajmonhcnmidaaDoor
/- Walks: the reference's Small. -/
namespace Go.Proofs.YtjajmonhcnmidaaDoor
open Go.RowKit

theorem val_drop {ms : List Nat} {k : Nat} (hk : 0 < k) (h : k ≤ ms.length) : val (ms.drop (k - 1)) = ms.getD (k - 1) 0 + 4294967296 * val (ms.drop k) := by
  have hlt : k - 1 < ms.length := by omega
  rw [List.drop_eq_getElem_cons hlt, show k - 1 + 1 = k by omega, getD_of_lt hlt]
  rfl
theorem val_drop_le (ms : List Nat) (k : Nat) : val (ms.drop k) ≤ val ms := by
  induction ms generalizing k with
  | nil => simp
  | cons x l ih =>
    cases k with
    | zero => simp
    | succ k =>
      have := ih k
      simp only [List.drop_succ_cons, val]
      omega

theorem wrap_small {x : Nat} (h : (x : Int) ≤ 9223372036854775807) : IntKind.i64.wrap (x : Int) = (x : Int) := by rw [IntKind.wrap_i64]; omega
theorem wrap_negS {x : Nat} (h : (x : Int) ≤ 9223372036854775808) : IntKind.i64.wrap (-(IntKind.i64.wrap (x : Int))) = -(x : Int) := by
  by_cases h' : (x : Int) ≤ 9223372036854775807
  · rw [wrap_small h', IntKind.wrap_i64]; omega
  · obtain rfl : x = 9223372036854775808 := by omega
    decide

set_option maxHeartbeats 1600000 in
theorem RSmall_any (v : Value) (z : Int) (w : World) (h : IntAt w v z) (hl : len z.natAbs ≤ 1099511627776) :
    Calls Tryd.prog 14 #[v] w fun e w' => ∃ r, e = .returned (.tuple #[.int .i64 r, .bool (inI64 z)]) ∧ (inI64 z = true → r = z) ∧ Below w.heap.size w w' := by
  obtain ⟨x, hx⟩ : ∃ n, z.natAbs = n := ⟨_, rfl⟩
  obtain ⟨p, hp⟩ : ∃ s, decide (z < 0) = s := ⟨_, rfl⟩
  rw [hx] at hl
  have sa := sgn_of z
  rw [hx, hp] at sa
  obtain ⟨A, c, rfl, HA⟩ := h.parts_ hx hp
  have HX := Lib.hid hx
  have SA := Lib.hid sa
  have HM := Lib.hid (HA.out.into (below_alloc w (.cells #[.bool p, .slice A (len x) c] 27))).mem.2.2
  have HB := Lib.hid (below_alloc w (.cells #[.bool p, .slice A (len x) c] 27))
  obtain ⟨ca0, ca1, _, _, _⟩ := box_in (heap1 w (.cells #[.bool p, .slice A (len x) c] 27)) (Below.refl _ _)
  clear hx hp h HA sa
  rcases Nat.lt_or_ge 2 (len x) with h2 | h2
  · have hd : decide ((2 : Int) < (len x : Int)) = true := by simp; omega
    have hd' : decide (2 < len x) = true := by simp; omega
    have hbig := pow_le_of_len h2
    rw [show 4294967296 ^ 2 = 18446744073709551616 from rfl] at hbig
    have hno : inI64 z = false := by simp [inI64]; have := HX.out; omega
    have HN := Lib.hid hno
    clear hno hbig
    go_enter Tryd.func14, Tryd.ntmps14
    go_wp2
    refine bodyPost_ret (v := .tuple #[.int .i64 0, .bool false]) (by simp [results, Tryd.results14, go_sem]) rfl ⟨0, by rw [HN.out], fun h => absurd (HN.out.symm.trans h) Bool.false_ne_true, HB.out⟩
  · have hd : decide ((2 : Int) < (len x : Int)) = false := by simp; omega
    have hd' : decide (2 < len x) = false := by simp; omega
    have hx64 : x < 18446744073709551616 := by
      have h3 := lt_pow_len x
      have h4 : 4294967296 ^ len x ≤ 4294967296 ^ 2 := Nat.pow_le_pow_right (by decide) h2
      rw [show 4294967296 ^ 2 = 18446744073709551616 from rfl] at h4
      omega
    go_enter Tryd.func14, Tryd.ntmps14
    go_wp2_with fail
    generalize w.alloc (.cells #[.bool p, .slice A (len x) c] 27) = W at *
    go_loop [4, 5] (fun mm i => ∃ k : Nat, k ≤ len x ∧ i = .int .i64 ((k : Int) - 1) ∧ mm = .int .u64 (val ((limbs x).drop k) : Nat)) (fun _ i => (intOf i + 1).toNat)
    case atStart => exact ⟨len x, Nat.le_refl _, rfl, by rw [List.drop_eq_nil_of_le (by rw [len_limbs]; exact Nat.le_refl _)]; rfl⟩
    case round =>
      obtain ⟨k, hk, rfl, rfl⟩ := hrel
      rcases Nat.eq_zero_or_pos k with hk0 | hk0
      · subst hk0
        have hM : val ((limbs x).drop 0) = x := by rw [List.drop_zero, val_limbs]
        rw [hM]
        obtain ⟨r1, hr1⟩ : ∃ r, IntKind.i64.wrap (x : Int) = r := ⟨_, rfl⟩
        obtain ⟨r2, hr2⟩ : ∃ r, IntKind.i64.wrap (-r1) = r := ⟨_, rfl⟩
        have HR1 := Lib.hid hr1
        have HR2 := Lib.hid hr2
        cases p
        · have hz : inI64 z = decide ((x : Int) ≤ 9223372036854775807) := by
            have := SA.out
            simp only [sgn] at this
            rw [← this]
            simp [inI64]
          have HZ := Lib.hid hz
          clear hz
          go_wp2
          refine bodyPost_ret (v := .tuple #[.int .i64 r1, .bool (decide ((x : Int) ≤ 9223372036854775807))]) (by simp [results, Tryd.results14, go_sem]) rfl ⟨r1, by rw [HZ.out], fun h => ?_, HB.out⟩
          rw [HZ.out] at h
          have h' := of_decide_eq_true h
          exact (HR1.out.symm.trans (wrap_small h')).trans SA.out
        · have hz : inI64 z = decide ((x : Int) ≤ 9223372036854775808) := by
            have := SA.out
            simp only [sgn] at this
            rw [← this]
            simp [inI64]
          have HZ := Lib.hid hz
          clear hz
          go_wp2
          refine bodyPost_ret (v := .tuple #[.int .i64 r2, .bool (decide ((x : Int) ≤ 9223372036854775808))]) (by simp [results, Tryd.results14, go_sem]) rfl ⟨r2, by rw [HZ.out], fun h => ?_, HB.out⟩
          rw [HZ.out] at h
          have h' := of_decide_eq_true h
          rw [← HR2.out, ← HR1.out, wrap_negS h']
          exact SA.out
      · have hpos : decide ((0 : Int) ≤ (k : Int) - 1) = true := by simp; omega
        obtain ⟨ad, rfl, hlt, hcell⟩ := HM.out.raw.at_ (show k - 1 < (limbs x).length by rw [len_limbs]; omega)
        have hl32 := (limbs_32 x).get (show k - 1 < (limbs x).length by rw [len_limbs]; omega)
        have hg := getD_of_lt (show k - 1 < (limbs x).length by rw [len_limbs]; omega)
        have hdrop := val_drop hk0 (show k ≤ (limbs x).length by rw [len_limbs]; exact hk)
        have hle := val_drop_le (limbs x) (k - 1)
        rw [val_limbs] at hle
        rw [hg] at hdrop
        generalize (limbs x)[k - 1]'(by rw [len_limbs]; omega) = l at *
        have HD := Lib.hid hdrop
        have hbd : 4294967296 * val ((limbs x).drop k) + l < 18446744073709551616 := by omega
        generalize hM : val ((limbs x).drop k) = M at *
        clear hg hdrop hle
        have b1 : (0 : Int) ≤ (k : Int) - 1 := by omega
        have b2 : (k : Int) - 1 < (len x : Int) := by omega
        have hcast : (k : Int) - 1 - 1 = ((k - 1 : Nat) : Int) - 1 := by omega
        have HC := Lib.hid hcast
        clear hcast hM
        go_wp2_with fail
        go_round
        case rel => exact ⟨k - 1, by omega, by rw [HC.out], by rw [HD.out]; go_num⟩
        case measure => simp [intOf]; omega
end Go.Proofs.YtjajmonhcnmidaaDoor
/- Walks: the reference's product. -/
namespace Go.Proofs.YtjajmonhcnmidaaDoor
open Go.RowKit

theorem MulRel.skip {w wr : World} {g n m : Nat} {X Y : List Nat} {i p : Nat} (h : MulRel w g n m X Y wr i m p 0) (hp : X.getD i 0 = p) (hY : Y.length ≤ m) (p' : Nat) : MulRel w g n m X Y wr (i + 1) 0 p' 0 := by
  obtain ⟨ds, hl, h32, hr, he, hz, hb⟩ := h
  refine ⟨ds, hl, h32, hr, ?_, fun t' ht' => hz t' (by omega), hb⟩
  rw [List.take_of_length_le hY, Nat.mul_zero, Nat.add_zero] at he
  rw [Nat.mul_zero, Nat.add_zero, he, val_take_succ, hp, List.take_zero, val_nil, Nat.mul_zero, Nat.mul_zero, Nat.add_zero, Nat.add_mul, Nat.mul_assoc]
theorem MulRel.zero {w wr : World} {g n m : Nat} {X Y : List Nat} {i j p c : Nat} (h : MulRel w g n m X Y wr i j p c) {t : Nat} (ht : t < n) (hm : i + m ≤ t) : wr.cell? ⟨g, t, none⟩ = some (.int .u32 0) ∧ wr.frozen? ⟨g, t, none⟩ = false := by
  obtain ⟨ds, hl, h32, hr, he, hz, hb⟩ := h
  have := hr.cell (show t < ds.length by omega)
  have gx := getD_of_lt (show t < ds.length by omega)
  rw [hz t hm] at gx
  rw [← gx] at this
  exact ⟨this, hr.frozen t⟩
theorem MulRel.bel {w wr : World} {g n m : Nat} {X Y : List Nat} {i j p c : Nat} (h : MulRel w g n m X Y wr i j p c) : Below w.heap.size w wr := by
  obtain ⟨_, _, _, _, _, _, hb⟩ := h
  exact hb

set_option maxHeartbeats 3200000 in
theorem RMul_any (va vb : Value) (a b : Int) (w : World) (ha : IntAt w va a) (hb : IntAt w vb b) (hla : len a.natAbs ≤ 1099511627776) (hlb : len b.natAbs ≤ 1099511627776) :
    Calls Tryd.prog 24 #[va, vb] w (GivesInt (a * b) w) := by
  obtain ⟨x, hx⟩ : ∃ n, a.natAbs = n := ⟨_, rfl⟩
  obtain ⟨y, hy⟩ : ∃ n, b.natAbs = n := ⟨_, rfl⟩
  obtain ⟨s, hs⟩ : ∃ s, decide (a < 0) = s := ⟨_, rfl⟩
  obtain ⟨u, hu⟩ : ∃ s, decide (b < 0) = s := ⟨_, rfl⟩
  have sa := sgn_of a
  have sb := sgn_of b
  rw [hx, hs] at sa
  rw [hy, hu] at sb
  rw [hx] at hla
  rw [hy] at hlb
  obtain ⟨A, c, rfl, HA⟩ := ha.parts_ hx hs
  obtain ⟨B, d, rfl, HB⟩ := hb.parts_ hy hu
  have SA := Lib.hid sa
  have SB := Lib.hid sb
  clear hx hy hs hu ha hb sa sb
  have HH := Lib.hid (heap3 w (.cells #[.bool s, .slice A (len x) c] 27) (.cells #[.bool u, .slice B (len y) d] 27) (.cells #[.bool false, .slice none 0 0] 27))
  have HW := Lib.hid (below3 w (.cells #[.bool s, .slice A (len x) c] 27) (.cells #[.bool u, .slice B (len y) d] 27) (.cells #[.bool false, .slice none 0 0] 27))
  obtain ⟨ca0, ca1, _, _, _⟩ := box_in HH.out.1 (Below.refl _ _)
  obtain ⟨cb0, cb1, _, _, _⟩ := box_in HH.out.2.1 (Below.refl _ _)
  have hmk := fun W => mk32 ((len x : Int) + (len y : Int) + 1) (by omega) (by omega) W
  have e1 : ((len x : Int) + (len y : Int) + 1).toNat = len x + len y + 1 := by omega
  rw [e1] at hmk
  clear e1
  have hWs : (((w.alloc (.cells #[.bool s, .slice A (len x) c] 27)).alloc (.cells #[.bool u, .slice B (len y) d] 27)).alloc (.cells #[.bool false, .slice none 0 0] 27)).heap.size = w.heap.size + 1 + 1 + 1 := by simp
  have HWS := Lib.hid hWs
  clear hWs
  go_enter Tryd.func24, Tryd.ntmps24
  go_wp2_with fail
  generalize ((w.alloc (.cells #[.bool s, .slice A (len x) c] 27)).alloc (.cells #[.bool u, .slice B (len y) d] 27)).alloc (.cells #[.bool false, .slice none 0 0] 27) = W at *
  have MA := Lib.hid (HA.out.into HW.out).mem.2.2
  have MB := Lib.hid (HB.out.into HW.out).mem.2.2
  clear ca0 ca1 cb0 cb1 hmk
  go_loopw [6] (fun i wr => ∃ k : Nat, k ≤ len x ∧ i = .int .i64 k ∧ MulRel W (w.heap.size + 1 + 1 + 1) (len x + len y + 1) (len y) (limbs x) (limbs y) wr k 0 0 0) (fun i _ => len x - (intOf i).toNat)
  case atStart => exact ⟨0, by omega, rfl, by rw [← HWS.out]; exact MulRel.start 0⟩
  case round =>
    obtain ⟨k, hk, rfl, hR0⟩ := hrel
    obtain ⟨ca0, ca1, _, _, _⟩ := box_in HH.out.1 hR0.bel
    obtain ⟨cb0, cb1, _, _, _⟩ := box_in HH.out.2.1 hR0.bel
    by_cases hlt : k < len x
    · obtain ⟨ad, eA, hlt1, _, hca⟩ : ∃ ad, A = some ad ∧ ad.block < W.heap.size ∧ True ∧ W.cell? (ad.add k) = some (.int .u32 (((limbs x)[k]'(by rw [len_limbs]; exact hlt) : Nat) : Int)) := by
        obtain ⟨ad, e, h1, h2⟩ := MA.out.at_ (show k < (limbs x).length by rw [len_limbs]; omega)
        exact ⟨ad, e, h1, trivial, h2⟩
      subst eA
      have hp := (limbs_32 x).get (show k < (limbs x).length by rw [len_limbs]; omega)
      have gp := getD_of_lt (show k < (limbs x).length by rw [len_limbs]; omega)
      generalize (limbs x)[k]'(by rw [len_limbs]; omega) = p at *
      have GP := Lib.hid gp
      clear gp
      have HR := Lib.hid (MulRel.row (p' := p) hR0)
      have HCA := Lib.hid hca
      clear hR0 hca
      go_wp2_with fail
      go_loopw [7, 8] (fun cr i wr2 => ∃ j cc : Nat, i = .int .i64 j ∧ cr = .int .u64 cc ∧ cc < 4294967296 ∧ ((j ≤ len y ∧ MulRel W (w.heap.size + 1 + 1 + 1) (len x + len y + 1) (len y) (limbs x) (limbs y) wr2 k j p cc) ∨ (j = len y + 1 ∧ cc = 0 ∧ MulRel W (w.heap.size + 1 + 1 + 1) (len x + len y + 1) (len y) (limbs x) (limbs y) wr2 (k + 1) 0 0 0))) (fun _ i _ => len y + 1 - (intOf i).toNat)
      case atStart => exact ⟨0, 0, rfl, rfl, by omega, .inl ⟨by omega, HR.out⟩⟩
      case round =>
        clear ca0 ca1 cb0 cb1
        obtain ⟨j, cc, rfl, rfl, hcc, hrel⟩ := hrel
        rcases hrel with ⟨hj, hrel⟩ | ⟨rfl, rfl, hrel⟩
        · have HR2 := Lib.hid hrel
          obtain ⟨ca0, ca1, _, _, _⟩ := box_in HH.out.1 hrel.bel
          obtain ⟨cb0, cb1, _, _, _⟩ := box_in HH.out.2.1 hrel.bel
          have hca := (hrel.bel.cell (p := ad.add k) (by rw [block_of_add']; exact hlt1)).trans HCA.out
          clear hrel HR
          by_cases hlj : j < len y
          · obtain ⟨bd, eB, hlt2, hcb0⟩ := MB.out.raw.at_ (show j < (limbs y).length by rw [len_limbs]; omega)
            subst eB
            have hq := (limbs_32 y).get (show j < (limbs y).length by rw [len_limbs]; omega)
            have gq := getD_of_lt (show j < (limbs y).length by rw [len_limbs]; omega)
            have hcb := (HR2.out.bel.cell (p := bd.add j) (by rw [block_of_add']; exact hlt2)).trans hcb0
            generalize (limbs y)[j]'(by rw [len_limbs]; omega) = q at *
            have GQ := Lib.hid gq
            clear gq hcb0
            obtain ⟨r, hr, hcell, hfz, hstep⟩ := HR2.out.cell (t := k + j) (by omega)
            clear hstep
            have hm := mul_bd hp hq
            have hm0 : (0 : Int) ≤ (p : Int) * (q : Int) := by rw [← Int.natCast_mul]; omega
            have hm1 : (p : Int) * (q : Int) ≤ 18446744065119617025 := by rw [← Int.natCast_mul]; omega
            clear hm
            have b1 : (0 : Int) ≤ (k : Int) := by omega
            have b2 : (k : Int) < (len x : Int) := by omega
            have b3 : (0 : Int) ≤ (j : Int) := by omega
            have b4 : (j : Int) < (len y : Int) := by omega
            go_wp2_with fail
            go_quiet (fail)
            have HR3 := Lib.hid (HR2.out.drewN nq)
            have hcd : (wr.drewN nq).cell? ⟨w.heap.size + 1 + 1 + 1, k + j, none⟩ = some (.int .u32 (r : Int)) := hcell
            have HCD := Lib.hid hcd
            clear HR2 hcell hfz ca0 ca1 cb0 cb1 hca hcb hcd
            generalize wr.drewN nq = wo at *
            obtain ⟨ca0, ca1, _, _, _⟩ := box_in HH.out.1 HR3.out.bel
            obtain ⟨cb0, cb1, _, _, _⟩ := box_in HH.out.2.1 HR3.out.bel
            obtain ⟨r', hr', hcell, hfz, hstep⟩ := HR3.out.cell (t := k + j) (by omega)
            obtain rfl : r' = r := by
              have := hcell.symm.trans HCD.out
              simp at this
              omega
            obtain ⟨S, hS⟩ : ∃ S, S = cc + (p * q + r') := ⟨_, rfl⟩
            have hSI : (cc : Int) + (r' : Int) + (p : Int) * (q : Int) = (S : Int) := by rw [hS, ← Int.natCast_mul]; omega
            have hS2 : S < 18446744073709551616 := by
              have := mul_bd hp hq
              rw [hS]
              generalize p * q = pq at *
              omega
            have HSI := Lib.hid hSI
            have HSN := Lib.hid hS
            have HS2 := Lib.hid hS2
            have HST := Lib.hid (hstep hlj q (S / 4294967296) GQ.out rfl (by rw [HWS.out]; exact Nat.le_refl _) (by rw [hS]) ((S : Int) % 4294967296) (by rw [← hSI]; congr 1; omega))
            clear hstep hSI hS hS2
            go_wp2_with fail
            go_roundw
            case rel => exact ⟨j + 1, S / 4294967296, by go_num, by rw [HSI.out]; rfl, by have := HS2.out; omega, .inl ⟨by omega, by rw [HSI.out]; exact HST.out⟩⟩
            case measure => (simp [intOf]; try omega)
          · have hj' : j = len y := by omega
            subst hj'
            obtain ⟨hcell, hfz⟩ := HR2.out.zero (t := k + len y) (by omega) (Nat.le_refl _)
            by_cases hc0 : cc = 0
            · subst hc0
              have HN := Lib.hid (HR2.out.skip GP.out (Nat.le_refl _) 0)
              clear HR2
              go_wp2_with fail
              go_roundw
              case rel => exact ⟨k + 1, by omega, by go_num, HN.out⟩
              case measure => (simp [intOf]; try omega)
            · have hpos : decide (0 < cc) = true := by simp; omega
              have HN := Lib.hid (HR2.out.next (by rw [HWS.out]; exact Nat.le_refl _) (by omega) hcc GP.out (Nat.le_refl _) 0)
              clear HR2
              go_wp2_with fail
              go_roundw
              case rel => exact ⟨len y + 1, 0, by go_num, by go_num, by omega, .inr ⟨rfl, rfl, by first | exact HN.out | (rw [show ((cc : Int) % 4294967296) = (cc : Int) from by omega]; exact HN.out)⟩⟩
              case measure => (simp [intOf]; try omega)
        · obtain ⟨ca0, ca1, _, _, _⟩ := box_in HH.out.1 hrel.bel
          obtain ⟨cb0, cb1, _, _, _⟩ := box_in HH.out.2.1 hrel.bel
          have HN := Lib.hid hrel
          clear hrel HR
          go_wp2_with fail
          go_roundw
          case rel => exact ⟨k + 1, by omega, by go_num, HN.out⟩
          case measure => (simp [intOf]; try omega)
    · have hk' : k = len x := by omega
      subst hk'
      obtain ⟨ds, hl, h32, hrow, he, hbel⟩ := hR0.finish (Nat.le_refl _)
      have HE := Lib.hid he
      have HBL := Lib.hid hbel
      have HL := Lib.hid hl
      have H32 := Lib.hid h32
      have HROW := Lib.hid hrow
      clear he hbel hl h32 hrow hR0
      go_wp2_with fail
      refine (Made_any _ _ _ ds (s != u) _ HL.out (HROW.out.mem HROW.out.lt).raw (by omega) (Nat.le_refl _) H32.out).mono ?_
      rintro e w2 ⟨v2, rfl, hv2, hb2⟩
      obtain ⟨b2, A2, k2, c2, rfl, H2⟩ := hv2.open_
      have HB2 := Lib.hid (step_below HBL.out hb2)
      obtain ⟨dc0, dc1, df0, df1, ds'⟩ := box_in HH.out.2.2 HB2.out
      have hz : sgn (s != u) (val ds) = a * b := by
        rw [HE.out, val_limbs, val_limbs, ← SA.out, ← SB.out]
        cases s <;> cases u <;> simp [sgn, Int.mul_neg, Int.neg_mul, Int.natCast_mul]
      have HEE := box_end (x' := .bool b2) (y' := .slice A2 k2 c2) HH.out.2.2 HB2.out H2.out HW.out (by omega)
      rw [hz] at HEE
      have HE2 := Lib.hid HEE
      clear hb2 hv2 HEE hz
      go_wp2
      refine bodyPost_ret (v := .agg #[.bool b2, .slice A2 k2 c2]) (by simp [results, Tryd.results24, go_sem, ds', dc0, dc1]) rfl ⟨_, rfl, HE2.out.1, HE2.out.2⟩
end Go.Proofs.YtjajmonhcnmidaaDoor
/- A region in its written order: steps over a frame of which only single slots are known; comparisons of small numbers. -/
namespace Go.Proofs.YtjajmonhcnmidaaDoor
open Go.RowKit

section
variable {ops : Array Oper} {Q : Exit → Act → World → Prop} {a0 a : Act} {w W0 : World} {N L : Nat}
theorem seqP {d i : Nat} {rest : List Nat} {g : Option (Nat × Bool)} {op : Op} {v : Value} (ho : OpIs ops i d g op) (hg : ∀ o : Oper, o.guard = g → Region.wanted o (yielded ops a.tmps) = true)
    (hr : ∀ o : Oper, o.op = op → (execOp a.eval o).run Tryd.prog w = .ok (.value v) w) (hF : Fr N L a0 a) (hd1 : L ≤ d) (hd2 : d < N)
    (next : ∀ a', Fr N L a0 a' → a'.tmps[d]? = some v → (∀ t u, d ≠ t → a.tmps[t]? = some u → a'.tmps[t]? = some u) → wpOps Tryd.prog ops Q rest a' w) : wpOps Tryd.prog ops Q (i :: rest) a w := by
  rw [wpOps_cons]
  exact wpOp_value ho hg hr (next _ (hF.put hd1 _) (get_put_same _ (by rw [hF.size]; exact hd2)) (fun t u ht h => (get_put_ne _ ht).trans h))
theorem wpOp_skip {k d : Nat} {g : Option (Nat × Bool)} {op : Op} {K : Act → World → Prop} (ho : OpIs ops k d g op)
    (hg : ∀ o : Oper, o.guard = g → Region.wanted o (yielded ops a.tmps) = false) (h : K (a.put (some d) undef) w) : wpOp Tryd.prog ops Q k K a w := by
  obtain ⟨o, ho, hd, hgd, hop⟩ := ho.get
  unfold wpOp
  simp only [ho]
  rw [if_neg (by rw [hg o hgd]; exact Bool.false_ne_true), hd]
  exact h
theorem seqS {d i : Nat} {rest : List Nat} {g : Option (Nat × Bool)} {op : Op} (ho : OpIs ops i d g op) (hg : ∀ o : Oper, o.guard = g → Region.wanted o (yielded ops a.tmps) = false)
    (hF : Fr N L a0 a) (hd1 : L ≤ d)
    (next : ∀ a', Fr N L a0 a' → (∀ t u, d ≠ t → a.tmps[t]? = some u → a'.tmps[t]? = some u) → wpOps Tryd.prog ops Q rest a' w) : wpOps Tryd.prog ops Q (i :: rest) a w := by
  rw [wpOps_cons]
  exact wpOp_skip ho hg (next _ (hF.put hd1 _) (fun t u ht h => (get_put_ne _ ht).trans h))
theorem seqC {d i f : Nat} {rest : List Nat} {g : Option (Nat × Bool)} {op : Op} {vs : Array Value} (R : Value → World → Prop) (ho : OpIs ops i d g op) (hg : ∀ o : Oper, o.guard = g → Region.wanted o (yielded ops a.tmps) = true)
    (hr : ∀ o : Oper, o.op = op → (execOp a.eval o).run Tryd.prog w = .ok (.enter f vs) w) (hF : Fr N L a0 a) (hd1 : L ≤ d) (hd2 : d < N) (hB : Below W0.heap.size W0 w)
    (hc : Calls Tryd.prog f vs w fun e w' => ∃ v, e = .returned v ∧ R v w' ∧ Below w.heap.size w w')
    (next : ∀ v a' w', Fr N L a0 a' → a'.tmps[d]? = some v → (∀ t u, d ≠ t → a.tmps[t]? = some u → a'.tmps[t]? = some u) → R v w' → Below w.heap.size w w' → Below W0.heap.size W0 w' → wpOps Tryd.prog ops Q rest a' w') : wpOps Tryd.prog ops Q (i :: rest) a w := by
  rw [wpOps_cons]
  refine wpOp_call ho hg hr (hc.mono ?_)
  rintro e w' ⟨v, rfl, hR, hb⟩
  exact ⟨v, rfl, next v _ w' (hF.put hd1 _) (get_put_same _ (by rw [hF.size]; exact hd2)) (fun t u ht h => (get_put_ne _ ht).trans h) hR hb (step_below hB hb)⟩
theorem seqEnd {d i : Nat} {op : Op} {v : Value} (ho : OpIs ops i d none op)
    (hr : ∀ o : Oper, o.op = op → (execOp a.eval o).run Tryd.prog w = .ok (.value v) w) (hF : Fr N L a0 a) (hd2 : d < N) (hB : Below W0.heap.size W0 w)
    (fin : ∀ a' w', a'.tmps.size = N → (∀ t, t < L → d ≠ t → a'.tmps[t]? = a0.tmps[t]?) → a'.tmps[d]? = some v → a'.defers = a0.defers → Below W0.heap.size W0 w' → Q .normal a' w') : wpOps Tryd.prog ops Q [i] a w := by
  rw [wpOps_cons]
  refine wpOp_value ho guard_none hr ?_
  show Q .normal _ _
  exact fin _ _ (by simp [Act.put, hF.size]) (fun t ht hne => (get_put_ne _ hne).trans (hF.low t ht)) (get_put_same _ (by rw [hF.size]; exact hd2)) (by simp [Act.put, hF.defers]) hB
end

section
variable {a : Act} {w : World} {o : Oper}
theorem run_neg' {c : Nat} {x z : Int} (hc : a.tmps[c]? = some (.int .i64 x)) (hz : IntKind.i64.wrap (-x) = z) (ho : o.op = .unOp .neg 3 (.tmp c)) : (execOp a.eval o).run Tryd.prog w = .ok (.value (.int .i64 z)) w := by
  unfold execOp; rw [ho]; simp [go_sem, hc, hz]
theorem run_gtrC {c : Nat} {x y : Int} (hc : a.tmps[c]? = some (.int .i64 x)) (ho : o.op = .binOp .gtr 3 (.tmp c) (.const (.int .i64 y)) 3) : (execOp a.eval o).run Tryd.prog w = .ok (.value (.bool (decide (y < x)))) w := by
  unfold execOp; rw [ho]; simp [go_sem, hc]
theorem run_leqC {c : Nat} {x y : Int} (hc : a.tmps[c]? = some (.int .i64 x)) (ho : o.op = .binOp .leq 3 (.tmp c) (.const (.int .i64 y)) 3) : (execOp a.eval o).run Tryd.prog w = .ok (.value (.bool (decide (x ≤ y)))) w := by
  unfold execOp; rw [ho]; simp [go_sem, hc]
theorem run_geqC {c : Nat} {x y : Int} (hc : a.tmps[c]? = some (.int .i64 x)) (ho : o.op = .binOp .geq 3 (.tmp c) (.const (.int .i64 y)) 3) : (execOp a.eval o).run Tryd.prog w = .ok (.value (.bool (decide (y ≤ x)))) w := by
  unfold execOp; rw [ho]; simp [go_sem, hc]
end

/-! ### What a comparison answers -/
theorem cmp_three (a b : Int) : (a < b ∧ cmpI a b = -1) ∨ (a = b ∧ cmpI a b = 0) ∨ (b < a ∧ cmpI a b = 1) := by
  rcases Int.lt_trichotomy a b with h | h | h
  · exact .inl ⟨h, cmpI_lt h⟩
  · exact .inr (.inl ⟨h, cmpI_eq h⟩)
  · exact .inr (.inr ⟨h, cmpI_gt h⟩)
theorem cmp_neg (a b : Int) : IntKind.i64.wrap (-(cmpI b a)) = cmpI a b := by
  rcases cmp_three a b with ⟨h, e⟩ | ⟨h, e⟩ | ⟨h, e⟩
  · rw [e, cmpI_gt h]; decide
  · rw [e, cmpI_eq h.symm]; decide
  · rw [e, cmpI_lt h]; decide
theorem cmp_zero (a b : Int) : ((cmpI a b == 0) == decide (a = b)) = true := by
  rcases cmp_three a b with ⟨h, e⟩ | ⟨h, e⟩ | ⟨h, e⟩
  · rw [e, decide_eq_false (by omega)]; decide
  · rw [e, decide_eq_true h]; decide
  · rw [e, decide_eq_false (by omega)]; decide
theorem cmp_ge (a b : Int) : decide (-1 ≤ cmpI a b) = true := by
  rcases cmp_three a b with ⟨_, e⟩ | ⟨_, e⟩ | ⟨_, e⟩ <;> rw [e] <;> decide
theorem cmp_le (a b : Int) : decide (cmpI a b ≤ 1) = true := by
  rcases cmp_three a b with ⟨_, e⟩ | ⟨_, e⟩ | ⟨_, e⟩ <;> rw [e] <;> decide
theorem cmp_sign (a b : Int) : (cmpI a b == Int.sign (a - b)) = true := by
  rcases cmp_three a b with ⟨h, e⟩ | ⟨h, e⟩ | ⟨h, e⟩
  · rw [e, Int.sign_eq_neg_one_of_neg (by omega)]; decide
  · rw [e, h, Int.sub_self]; decide
  · rw [e, Int.sign_eq_one_of_pos (by omega)]; decide
theorem cmp_self (x : Int) : (x == x) = true := by simp
theorem cmp_gt {a b : Int} (h : b < a) : decide (0 < cmpI a b) = true := by rw [cmpI_gt h]; decide
theorem cmp_ngt {a b : Int} (h : ¬ b < a) : decide (0 < cmpI a b) = false := by
  rcases cmp_three a b with ⟨_, e⟩ | ⟨_, e⟩ | ⟨h', _⟩
  · rw [e]; decide
  · rw [e]; decide
  · exact absurd h' h
theorem cmp_nle {a b : Int} (h : a ≤ b) : decide (cmpI a b ≤ 0) = true := by
  rcases cmp_three a b with ⟨_, e⟩ | ⟨_, e⟩ | ⟨h', _⟩
  · rw [e]; decide
  · rw [e]; decide
  · exact absurd h' (by omega)
theorem cmp_of {a b a' b' : Int} (h1 : a < b → a' < b') (h2 : a = b → a' = b') (h3 : b < a → b' < a') : cmpI a' b' = cmpI a b := by
  rcases cmp_three a b with ⟨h, e⟩ | ⟨h, e⟩ | ⟨h, e⟩
  · rw [e, cmpI_lt (h1 h)]
  · rw [e, cmpI_eq (h2 h)]
  · rw [e, cmpI_gt (h3 h)]
theorem cmp_add (a b c : Int) : (cmpI (a + c) (b + c) == cmpI a b) = true := by
  rw [cmp_of (a := a) (b := b) (by omega) (by omega) (by omega)]
  simp
theorem cmp_mul (a b c : Int) : (cmpI (a * c) (b * c) == cmpI a b * Int.sign c) = true := by
  rcases Int.lt_trichotomy c 0 with h | h | h
  · rw [Int.sign_eq_neg_one_of_neg h]
    have : cmpI (a * c) (b * c) = cmpI b a := cmp_of (fun h' => Int.mul_lt_mul_of_neg_right h' h) (fun h' => by rw [h']) (fun h' => Int.mul_lt_mul_of_neg_right h' h)
    rw [this]
    rcases cmp_three a b with ⟨h, e⟩ | ⟨h, e⟩ | ⟨h, e⟩
    · rw [e, cmpI_gt h]; decide
    · rw [e, cmpI_eq h.symm]; decide
    · rw [e, cmpI_lt h]; decide
  · subst h
    rw [Int.mul_zero, Int.mul_zero, cmpI_eq rfl]
    simp
  · rw [Int.sign_eq_one_of_pos h]
    have : cmpI (a * c) (b * c) = cmpI a b := cmp_of (fun h' => Int.mul_lt_mul_of_pos_right h' h) (fun h' => by rw [h']) (fun h' => Int.mul_lt_mul_of_pos_right h' h)
    rw [this]
    simp
theorem cmp_wrap (a b c : Int) : IntKind.i64.wrap (cmpI a b * Int.sign c) = cmpI a b * Int.sign c := by
  have hs : Int.sign c = -1 ∨ Int.sign c = 0 ∨ Int.sign c = 1 := by
    rcases Int.lt_trichotomy c 0 with h | h | h
    · exact .inl (Int.sign_eq_neg_one_of_neg h)
    · subst h; exact .inr (.inl rfl)
    · exact .inr (.inr (Int.sign_eq_one_of_pos h))
  rcases cmp_three a b with ⟨_, e⟩ | ⟨_, e⟩ | ⟨_, e⟩ <;> rcases hs with s | s | s <;> rw [e, s] <;> decide
end Go.Proofs.YtjajmonhcnmidaaDoor
/- Walks: the law of Valid, given the fixed examples. -/
namespace Go.Proofs.YtjajmonhcnmidaaDoor
open Go.RowKit

/-- The fixed examples hold in every world with the table. -/
def Sanity : Prop := ∀ w : World, P10 w → Calls Tryd.prog 11 #[] w fun e w' => e = .returned (.bool true) ∧ Below w.heap.size w w'
theorem cells2 {w : World} {g : Nat} {x y : Value} {T : TypeId} (h : w.heap[g]? = some (.cells #[x, y] T (0, 0))) : w.cell? ⟨g, 0, none⟩ = some x ∧ w.cell? ⟨g, 1, none⟩ = some y :=
  ⟨by rw [cell_of_row w g 0 _ _ (0, 0) h]; rfl, by rw [cell_of_row w g 1 _ _ (0, 0) h]; rfl⟩
theorem RawMem.more_ {w : World} {B B' : Nat} {A : Option Addr} {ms : List Nat} (h : RawMem w B A ms) (hB : B ≤ B') : RawMem w B' A ms := fun hn => by
  obtain ⟨ad, e, hb, hc⟩ := h hn
  exact ⟨ad, e, by omega, hc⟩
theorem lt_of_some {w : World} {g : Nat} {o : Obj} (h : w.heap[g]? = some o) : g < w.heap.size := by
  rcases Nat.lt_or_ge g w.heap.size with hlt | hge
  · exact hlt
  · rw [Array.getElem?_eq_none hge] at h; cases h

set_option maxRecDepth 100000 in
set_option maxHeartbeats 6400000 in
theorem Valid_law (hS : Sanity) (b : Bool) (A : Option Addr) (k c : Nat) (ms : List Nat) (n : Int) (w : World) (hk : ms.length = k) (hm : RawMem w w.heap.size A ms) (hl : k ≤ 2305843009213693952) (h0 : -9223372036854775808 ≤ n) (h1 : n ≤ 9223372036854775807) (htab : P10 w) :
    Calls Tryd.prog 4 #[.agg #[.slice A k c, .bool b], .int .i64 n] w fun e w' => e = .returned (.bool true) ∧ Below w.heap.size w w' := by
  have HT := Lib.hid htab
  have HM := Lib.hid hm
  have HK := Lib.hid hk
  have HBX0 := Lib.hid (heap1 w (.cells #[.slice A k c, .bool b] 24))
  clear htab hm hk
  go_enter Tryd.func4, Tryd.ntmps4
  go_wp2_with fail
  refine (hS _ (tab_below HT.out (below_alloc _ _))).mono ?_
  rintro e w1 ⟨rfl, hb1⟩
  have HX1 := Lib.hid ((hb1.block _ (lt_of_some HBX0.out)).trans HBX0.out)
  have HB1 := Lib.hid (step_below (below_alloc _ _) hb1)
  have HM1 := Lib.hid (HM.out.below HB1.out)
  clear hb1 HBX0
  have hcc := cells2 HX1.out
  obtain ⟨hx0, hx1⟩ := hcc
  rcases Nat.eq_zero_or_pos k with hz | hz
  · have hv : validB b ms = !b := by simp [validB, HK.out, hz]
    have HV := Lib.hid hv
    subst hz
    clear hv
    cases b
    · go_wp2_with fail
      refine (Of_any n _ h0 h1).mono ?_
      rintro e w2 ⟨vn, rfl, hn, hb2⟩
      obtain ⟨An, cn, rfl, Hn⟩ := hn.parts_ (n := n.natAbs) (b := decide (n < 0)) rfl rfl
      have HN := Lib.hid (IntAt.back (z := n) Hn.out rfl rfl)
      have HB2 := Lib.hid (step_below HB1.out hb2)
      have HX := Lib.hid ((hb2.block _ (lt_of_some HX1.out)).trans HX1.out)
      clear hb2 hn Hn
      obtain ⟨bx, hb3⟩ := one_new HN.out
      have hcc := bx.cells
      obtain ⟨hc0, hc1⟩ := hcc
      have HBX := Lib.hid bx
      have HB3 := Lib.hid (step_below HB2.out hb3)
      have HX3 := Lib.hid ((hb3.block _ (lt_of_some HX.out)).trans HX.out)
      clear bx hb3
      go_wp2_with fail
      generalize w2.alloc (.cells #[.bool (decide (n < 0)), .slice An (len n.natAbs) cn] 27) = W at *
      refine (Small_yes _ n _ HBX.out.int h0 h1).mono ?_
      rintro e w4 ⟨rfl, hb4⟩
      have HB4 := Lib.hid (step_below HB3.out hb4)
      have HBX4 := Lib.hid (HBX.out.into hb4)
      have HX4 := Lib.hid ((hb4.block _ (lt_of_some HX3.out)).trans HX3.out)
      clear hb4 hc0 hc1
      have hcc := HBX4.out.cells
      obtain ⟨hc0, hc1⟩ := hcc
      have hcx := cells2 HX4.out
      obtain ⟨hx0, hx1⟩ := hcx
      go_wp2_with fail
      refine (Valid_raw _ A 0 c ms _ HK.out (RawMem.more_ (HM.out.below HB4.out) HB4.out.size) hl).mono ?_
      rintro e w5 ⟨rfl, hb5⟩
      rw [HV.out]
      have HB5 := Lib.hid (step_below HB4.out hb5)
      have HBX5 := Lib.hid (HBX4.out.into hb5)
      clear hb5 hc0 hc1 hx0 hx1
      have hcc := HBX5.out.cells
      obtain ⟨hc0, hc1⟩ := hcc
      go_wp2_with fail
      refine (Valid_lit _ n _ HBX5.out.int (by omega)).mono ?_
      rintro e w6 ⟨rfl, hb6⟩
      have HB6 := Lib.hid (step_below HB5.out hb6)
      have HBX6 := Lib.hid (HBX5.out.into hb6)
      clear hb6 hc0 hc1
      have hcc := HBX6.out.cells
      obtain ⟨hc0, hc1⟩ := hcc
      go_wp2
      go_ret
      exact ⟨rfl, HB6.out⟩
    · go_wp2_with fail
      refine (Of_any n _ h0 h1).mono ?_
      rintro e w2 ⟨vn, rfl, hn, hb2⟩
      obtain ⟨An, cn, rfl, Hn⟩ := hn.parts_ (n := n.natAbs) (b := decide (n < 0)) rfl rfl
      have HN := Lib.hid (IntAt.back (z := n) Hn.out rfl rfl)
      have HB2 := Lib.hid (step_below HB1.out hb2)
      have HX := Lib.hid ((hb2.block _ (lt_of_some HX1.out)).trans HX1.out)
      clear hb2 hn Hn
      obtain ⟨bx, hb3⟩ := one_new HN.out
      have hcc := bx.cells
      obtain ⟨hc0, hc1⟩ := hcc
      have HBX := Lib.hid bx
      have HB3 := Lib.hid (step_below HB2.out hb3)
      have HX3 := Lib.hid ((hb3.block _ (lt_of_some HX.out)).trans HX.out)
      clear bx hb3
      go_wp2_with fail
      generalize w2.alloc (.cells #[.bool (decide (n < 0)), .slice An (len n.natAbs) cn] 27) = W at *
      refine (Small_yes _ n _ HBX.out.int h0 h1).mono ?_
      rintro e w4 ⟨rfl, hb4⟩
      have HB4 := Lib.hid (step_below HB3.out hb4)
      have HBX4 := Lib.hid (HBX.out.into hb4)
      have HX4 := Lib.hid ((hb4.block _ (lt_of_some HX3.out)).trans HX3.out)
      clear hb4 hc0 hc1
      have hcc := HBX4.out.cells
      obtain ⟨hc0, hc1⟩ := hcc
      have hcx := cells2 HX4.out
      obtain ⟨hx0, hx1⟩ := hcx
      go_wp2_with fail
      refine (Valid_raw _ A 0 c ms _ HK.out (RawMem.more_ (HM.out.below HB4.out) HB4.out.size) hl).mono ?_
      rintro e w5 ⟨rfl, hb5⟩
      rw [HV.out]
      have HB5 := Lib.hid (step_below HB4.out hb5)
      have HBX5 := Lib.hid (HBX4.out.into hb5)
      clear hb5 hc0 hc1 hx0 hx1
      have hcc := HBX5.out.cells
      obtain ⟨hc0, hc1⟩ := hcc
      go_wp2_with fail
      refine (Valid_lit _ n _ HBX5.out.int (by omega)).mono ?_
      rintro e w6 ⟨rfl, hb6⟩
      have HB6 := Lib.hid (step_below HB5.out hb6)
      have HBX6 := Lib.hid (HBX5.out.into hb6)
      clear hb6 hc0 hc1
      have hcc := HBX6.out.cells
      obtain ⟨hc0, hc1⟩ := hcc
      go_wp2
      go_ret
      exact ⟨rfl, HB6.out⟩
  · have hlk : k - 1 < ms.length := by rw [HK.out]; omega
    obtain ⟨ad, rfl, hlt, hcell⟩ := HM1.out.at_ hlk
    have hg := getD_of_lt hlk
    have hv : validB b ms = ((ms[k - 1]'hlk : Int) != 0) := by
      unfold validB
      rw [if_neg (by rw [HK.out]; omega), HK.out, hg, Bool.eq_iff_iff]
      simp
    generalize ms[k - 1]'hlk = p at *
    have HV := Lib.hid hv
    have hne : ((k : Int) == 0) = false := by simp; omega
    have hgt : decide ((0 : Int) < (k : Int)) = true := by simp; omega
    have hgt' : decide (0 < k) = true := by simp; omega
    clear hv hg hlt hlk
    go_wp2_with fail
    refine (Of_any n _ h0 h1).mono ?_
    rintro e w2 ⟨vn, rfl, hn, hb2⟩
    obtain ⟨An, cn, rfl, Hn⟩ := hn.parts_ (n := n.natAbs) (b := decide (n < 0)) rfl rfl
    have HN := Lib.hid (IntAt.back (z := n) Hn.out rfl rfl)
    have HB2 := Lib.hid (step_below HB1.out hb2)
    have HX := Lib.hid ((hb2.block _ (lt_of_some HX1.out)).trans HX1.out)
    clear hb2 hn Hn
    obtain ⟨bx, hb3⟩ := one_new HN.out
    have hcc := bx.cells
    obtain ⟨hc0, hc1⟩ := hcc
    have HBX := Lib.hid bx
    have HB3 := Lib.hid (step_below HB2.out hb3)
    have HX3 := Lib.hid ((hb3.block _ (lt_of_some HX.out)).trans HX.out)
    clear bx hb3
    go_wp2_with fail
    generalize w2.alloc (.cells #[.bool (decide (n < 0)), .slice An (len n.natAbs) cn] 27) = W at *
    refine (Small_yes _ n _ HBX.out.int h0 h1).mono ?_
    rintro e w4 ⟨rfl, hb4⟩
    have HB4 := Lib.hid (step_below HB3.out hb4)
    have HBX4 := Lib.hid (HBX.out.into hb4)
    have HX4 := Lib.hid ((hb4.block _ (lt_of_some HX3.out)).trans HX3.out)
    clear hb4 hc0 hc1
    have hcc := HBX4.out.cells
    obtain ⟨hc0, hc1⟩ := hcc
    have hcx := cells2 HX4.out
    obtain ⟨hx0, hx1⟩ := hcx
    go_wp2_with fail
    refine (Valid_raw _ (some ad) k c ms _ HK.out (RawMem.more_ (HM.out.below HB4.out) HB4.out.size) hl).mono ?_
    rintro e w5 ⟨rfl, hb5⟩
    rw [HV.out]
    have HB5 := Lib.hid (step_below HB4.out hb5)
    have HBX5 := Lib.hid (HBX4.out.into hb5)
    clear hb5 hc0 hc1 hx0 hx1
    have hcc := HBX5.out.cells
    obtain ⟨hc0, hc1⟩ := hcc
    go_wp2_with fail
    refine (Valid_lit _ n _ HBX5.out.int (by omega)).mono ?_
    rintro e w6 ⟨rfl, hb6⟩
    have HB6 := Lib.hid (step_below HB5.out hb6)
    have HBX6 := Lib.hid (HBX5.out.into hb6)
    clear hb6 hc0 hc1
    have hcc := HBX6.out.cells
    obtain ⟨hc0, hc1⟩ := hcc
    go_wp2
    go_ret
    exact ⟨rfl, HB6.out⟩
end Go.Proofs.YtjajmonhcnmidaaDoor
/- The contracts of the arithmetic of integers, in the form that a region's plan asks for. -/
namespace Go.Proofs.YtjajmonhcnmidaaDoor
open Go.RowKit

section
variable {w : World} {va vb : Value} {x y : Int} {i j : Nat}
theorem kOf (z : Int) (h0 : -9223372036854775808 ≤ z) (h1 : z ≤ 9223372036854775807) (hv : (eqF (.int .i64 z)).p va w) : Calls Tryd.prog 30 #[va] w (GivesP (intF z) w) := by
  have hv : va = .int .i64 z := hv
  subst hv
  exact cOf z h0 h1
theorem kAdd (ha : (intF x).p va w) (hb : (intF y).p vb w) (sx : Sm x i) (sy : Sm y j) (hi : i ≤ 1000) (hj : j ≤ 1000) : Calls Tryd.prog 15 #[va, vb] w (GivesP (intF (x + y)) w) := cAdd ha hb sx sy hi hj
theorem kSub (ha : (intF x).p va w) (hb : (intF y).p vb w) (sx : Sm x i) (sy : Sm y j) (hi : i ≤ 1000) (hj : j ≤ 1000) : Calls Tryd.prog 16 #[va, vb] w (GivesP (intF (x - y)) w) := cSub ha hb sx sy hi hj
theorem kMul (ha : (intF x).p va w) (hb : (intF y).p vb w) (sx : Sm x i) (sy : Sm y j) (hi : i ≤ 1000) (hj : j ≤ 1000) : Calls Tryd.prog 17 #[va, vb] w (GivesP (intF (x * y)) w) := cMul ha hb sx sy hi hj
theorem kNeg (ha : (intF x).p va w) (sx : Sm x i) (hi : i ≤ 1000) : Calls Tryd.prog 18 #[va] w (GivesP (intF (-x)) w) := cNeg ha sx hi
theorem kSign (ha : (intF x).p va w) (sx : Sm x i) (hi : i ≤ 1000) : Calls Tryd.prog 28 #[va] w (GivesP (eqF (.int .i64 x.sign)) w) := cSign ha sx hi
theorem kCmp (ha : (intF x).p va w) (hb : (intF y).p vb w) (sx : Sm x i) (sy : Sm y j) (hi : i ≤ 1000) (hj : j ≤ 1000) : Calls Tryd.prog 26 #[va, vb] w (GivesP (eqF (.int .i64 (cmpI x y))) w) := cCmp ha hb sx sy hi hj
theorem kSame (ha : (intF x).p va w) (hb : (intF y).p vb w) (sx : Sm x i) (sy : Sm y j) (hi : i ≤ 1000) (hj : j ≤ 1000) : Calls Tryd.prog 21 #[va, vb] w (GivesP (eqF (.bool (decide (x = y)))) w) := cSame ha hb sx sy hi hj
theorem kSameT (ha : (intF x).p va w) (hb : (intF y).p vb w) (sx : Sm x i) (sy : Sm y j) (hi : i ≤ 1000) (hj : j ≤ 1000) (e : x = y) : Calls Tryd.prog 21 #[va, vb] w (GivesP (eqF (.bool true)) w) := cSameT ha hb sx sy hi hj e
theorem kRAdd (ha : (intF x).p va w) (hb : (intF y).p vb w) (sx : Sm x i) (sy : Sm y j) (hi : i ≤ 1000) (hj : j ≤ 1000) : Calls Tryd.prog 22 #[va, vb] w (GivesP (intF (x + y)) w) := RAdd_any va vb x y w ha hb (sx.len hi) (sy.len hj)
theorem kRSub (ha : (intF x).p va w) (hb : (intF y).p vb w) (sx : Sm x i) (sy : Sm y j) (hi : i ≤ 1000) (hj : j ≤ 1000) : Calls Tryd.prog 23 #[va, vb] w (GivesP (intF (x - y)) w) := RSub_any va vb x y w ha hb (sx.len hi) (sy.len hj)
theorem kRMul (ha : (intF x).p va w) (hb : (intF y).p vb w) (sx : Sm x i) (sy : Sm y j) (hi : i ≤ 1000) (hj : j ≤ 1000) : Calls Tryd.prog 24 #[va, vb] w (GivesP (intF (x * y)) w) := RMul_any va vb x y w ha hb (Nat.le_trans (sx.len hi) (by decide)) (Nat.le_trans (sy.len hj) (by decide))
theorem kRNeg (ha : (intF x).p va w) (sx : Sm x i) (hi : i ≤ 1000) : Calls Tryd.prog 25 #[va] w (GivesP (intF (-x)) w) := RNeg_any va x w ha (Nat.le_trans (sx.len hi) (by decide))
theorem kRSign (ha : (intF x).p va w) (sx : Sm x i) (hi : i ≤ 1000) : Calls Tryd.prog 29 #[va] w (GivesP (eqF (.int .i64 x.sign)) w) :=
  (RSign_any va x w ha (Nat.le_trans (sx.len hi) (by decide))).mono fun _ _ ⟨he, hb⟩ => ⟨_, he, rfl, hb⟩
theorem sm_len' {z : Int} {k : Nat} (h : Sm z k) (hk : k ≤ 1000) : len z.natAbs ≤ 1099511627774 := Nat.le_trans (len_le_pow h) (by omega)
theorem kRCmp (ha : (intF x).p va w) (hb : (intF y).p vb w) (sx : Sm x i) (sy : Sm y j) (hi : i ≤ 1000) (hj : j ≤ 1000) : Calls Tryd.prog 27 #[va, vb] w (GivesP (eqF (.int .i64 (Int.sign (x - y)))) w) :=
  (RCmp_any va vb x y w ha hb (sm_len' sx hi) (sm_len' sy hj)).mono fun _ _ ⟨he, hb⟩ => ⟨_, he, rfl, hb⟩
theorem kRValid (ha : (intF x).p va w) (sx : Sm x i) (hi : i ≤ 1000) : Calls Tryd.prog 20 #[va] w (GivesP (eqF (.bool true)) w) :=
  (RValid_int va x w ha (Nat.le_trans (sx.len hi) (by decide))).mono fun _ _ ⟨he, hb⟩ => ⟨_, he, rfl, hb⟩
theorem kValid (ha : (intF x).p va w) (sx : Sm x i) (hi : i ≤ 1000) : Calls Tryd.prog 19 #[va] w (GivesP (eqF (.bool true)) w) :=
  (Valid_int va x w ha (Nat.le_trans (sx.len hi) (by decide))).mono fun _ _ ⟨he, hb⟩ => ⟨_, he, rfl, hb⟩
theorem kSmallT (ha : (intF x).p va w) (sx : Sm x i) (hi : i ≤ 1000) (h : inI64 x = true) : Calls Tryd.prog 13 #[va] w (GivesP (tup2F (eqF (.int .i64 x)) (eqF (.bool true))) w) :=
  (Small_any va x w ha (Nat.le_trans (sx.len hi) (by decide))).mono fun _ _ ⟨he, hb⟩ => ⟨_, he, ⟨_, _, rfl, by rw [h]; rfl, by rw [h]; rfl⟩, hb⟩
theorem kSmallF (ha : (intF x).p va w) (sx : Sm x i) (hi : i ≤ 1000) (h : inI64 x = false) : Calls Tryd.prog 13 #[va] w (GivesP (tup2F (eqF (.int .i64 0)) (eqF (.bool false))) w) :=
  (Small_any va x w ha (Nat.le_trans (sx.len hi) (by decide))).mono fun _ _ ⟨he, hb⟩ => ⟨_, he, ⟨_, _, rfl, by rw [h]; rfl, by rw [h]; rfl⟩, hb⟩
theorem kRSmallT (ha : (intF x).p va w) (sx : Sm x i) (hi : i ≤ 1000) (h : inI64 x = true) : Calls Tryd.prog 14 #[va] w (GivesP (tup2F (eqF (.int .i64 x)) (eqF (.bool true))) w) :=
  (RSmall_any va x w ha (Nat.le_trans (sx.len hi) (by decide))).mono fun _ _ ⟨r, he, hr, hb⟩ => ⟨_, he, ⟨_, _, rfl, by rw [hr h]; rfl, by rw [h]; rfl⟩, hb⟩
theorem kRSmallF (ha : (intF x).p va w) (sx : Sm x i) (hi : i ≤ 1000) (h : inI64 x = false) : Calls Tryd.prog 14 #[va] w (GivesP (tup2F (i64F fun _ => True) (eqF (.bool false))) w) :=
  (RSmall_any va x w ha (Nat.le_trans (sx.len hi) (by decide))).mono fun _ _ ⟨r, he, hr, hb⟩ => ⟨_, he, ⟨_, _, rfl, ⟨r, rfl, trivial⟩, by rw [h]; rfl⟩, hb⟩
end
/-- A raw argument's box, and what is read from it. -/
def rawBF (r : RawArg) : CF := objF #[.slice r.A r.k r.c, .bool r.b] 24 (by decide)
theorem boxR_run {r : RawArg} (w : World) (v : Value) (h : (eqF r.val_).p v w) : ∃ ob, (Instr.box 24 v).run Tryd.prog w = .ok (.pointer (some ⟨w.heap.size, 0, none⟩)) (w.alloc ob) ∧ (rawBF r).p w.heap.size (w.alloc ob) := by
  have h : v = r.val_ := h
  subst h
  exact ⟨.cells #[.slice r.A r.k r.c, .bool r.b] 24 (0, 0), by simp [go_sem, RawArg.val_], heap1 w _⟩
theorem loadR_raw {r : RawArg} (w : World) (q : Nat) (h : (rawBF r).p q w) : ∃ v, (Instr.loadAt 24 (.pointer (some ⟨q, 0, none⟩))).run Tryd.prog w = .ok v w ∧ (eqF r.val_).p v w := by
  have hh : w.heap[q]? = some (.cells #[.slice r.A r.k r.c, .bool r.b] 24 (0, 0)) := h
  have h0 : w.cell? ⟨q, 0, none⟩ = some (.slice r.A r.k r.c) := by rw [cell_of_row w q 0 _ _ (0, 0) hh]; rfl
  have h1 : w.cell? ⟨q, 1, none⟩ = some (.bool r.b) := by rw [cell_of_row w q 1 _ _ (0, 0) hh]; rfl
  exact ⟨_, by simp [go_sem, h0, h1]; rfl, rfl⟩
theorem kMade {Wb w : World} {va : Value} {r : RawArg} (k : r.Ok Wb) (hb : Below Wb.heap.size Wb w) (h : (eqF r.val_).p va w) : Calls Tryd.prog 12 #[va] w (GivesP (intF r.int) w) := by
  have h : va = r.val_ := h
  subst h
  exact (k.into hb).made
theorem kSanity (hS : Sanity) {Wb w : World} (ht : P10 Wb) (hb : Below Wb.heap.size Wb w) : Calls Tryd.prog 11 #[] w (GivesP (eqF (.bool true)) w) :=
  (hS w (tab_below ht hb)).mono fun _ _ ⟨he, hb⟩ => ⟨_, he, rfl, hb⟩
end Go.Proofs.YtjajmonhcnmidaaDoor
/- What single operations on numbers, booleans and tuples yield, in the form that a region's plan asks for. -/
namespace Go.Proofs.YtjajmonhcnmidaaDoor
open Go.RowKit

/-- An operation yields a value with f, given what its operands are. -/
def Yld (op : Op) (ρ : Operand → Value) (w : World) (f : PF) : Prop := ∃ v w', (∀ o : Oper, o.op = op → (execOp ρ o).run Tryd.prog w = .ok (.value v) w') ∧ Below w.heap.size w w' ∧ f.p v w'
theorem yld_mk {op : Op} {ρ : Operand → Value} {w : World} {u : Value} (h : ∀ o : Oper, o.op = op → (execOp ρ o).run Tryd.prog w = .ok (.value u) w) : Yld op ρ w (eqF u) := ⟨u, w, h, Below.refl _ _, rfl⟩
section
variable {ρ : Operand → Value} {w : World} {ty ty2 : TypeId} {x y : Operand} {k : IntKind} {a b z : Int} {p q r : Bool}
theorem h_eqlI (e : (a == b) = r) (hx : (eqF (.int k a)).p (ρ x) w) (hy : (eqF (.int k b)).p (ρ y) w) : Yld (.binOp .eql ty x y ty2) ρ w (eqF (.bool r)) := by
  have hx : ρ x = .int k a := hx
  have hy : ρ y = .int k b := hy
  subst e
  exact yld_mk fun o ho => by unfold execOp; rw [ho]; simp [go_sem, hx, hy]
theorem h_neqI (e : (a != b) = r) (hx : (eqF (.int k a)).p (ρ x) w) (hy : (eqF (.int k b)).p (ρ y) w) : Yld (.binOp .neq ty x y ty2) ρ w (eqF (.bool r)) := by
  have hx : ρ x = .int k a := hx
  have hy : ρ y = .int k b := hy
  subst e
  exact yld_mk fun o ho => by unfold execOp; rw [ho]; simp [go_sem, hx, hy]
theorem h_eqlB (e : (p == q) = r) (hx : (eqF (.bool p)).p (ρ x) w) (hy : (eqF (.bool q)).p (ρ y) w) : Yld (.binOp .eql 4 x y 4) ρ w (eqF (.bool r)) := by
  have hx : ρ x = .bool p := hx
  have hy : ρ y = .bool q := hy
  subst e
  exact yld_mk fun o ho => by unfold execOp; rw [ho]; cases p <;> cases q <;> simp [go_sem, hx, hy]
theorem h_neqB (e : (p != q) = r) (hx : (eqF (.bool p)).p (ρ x) w) (hy : (eqF (.bool q)).p (ρ y) w) : Yld (.binOp .neq 4 x y 4) ρ w (eqF (.bool r)) := by
  have hx : ρ x = .bool p := hx
  have hy : ρ y = .bool q := hy
  subst e
  exact yld_mk fun o ho => by unfold execOp; rw [ho]; cases p <;> cases q <;> simp [go_sem, hx, hy]
theorem h_gtr (e : decide (b < a) = r) (hx : (eqF (.int k a)).p (ρ x) w) (hy : (eqF (.int k b)).p (ρ y) w) : Yld (.binOp .gtr ty x y ty2) ρ w (eqF (.bool r)) := by
  have hx : ρ x = .int k a := hx
  have hy : ρ y = .int k b := hy
  subst e
  exact yld_mk fun o ho => by unfold execOp; rw [ho]; simp [go_sem, hx, hy]
theorem h_lss (e : decide (a < b) = r) (hx : (eqF (.int k a)).p (ρ x) w) (hy : (eqF (.int k b)).p (ρ y) w) : Yld (.binOp .lss ty x y ty2) ρ w (eqF (.bool r)) := by
  have hx : ρ x = .int k a := hx
  have hy : ρ y = .int k b := hy
  subst e
  exact yld_mk fun o ho => by unfold execOp; rw [ho]; simp [go_sem, hx, hy]
theorem h_leq (e : decide (a ≤ b) = r) (hx : (eqF (.int k a)).p (ρ x) w) (hy : (eqF (.int k b)).p (ρ y) w) : Yld (.binOp .leq ty x y ty2) ρ w (eqF (.bool r)) := by
  have hx : ρ x = .int k a := hx
  have hy : ρ y = .int k b := hy
  subst e
  exact yld_mk fun o ho => by unfold execOp; rw [ho]; simp [go_sem, hx, hy]
theorem h_geq (e : decide (b ≤ a) = r) (hx : (eqF (.int k a)).p (ρ x) w) (hy : (eqF (.int k b)).p (ρ y) w) : Yld (.binOp .geq ty x y ty2) ρ w (eqF (.bool r)) := by
  have hx : ρ x = .int k a := hx
  have hy : ρ y = .int k b := hy
  subst e
  exact yld_mk fun o ho => by unfold execOp; rw [ho]; simp [go_sem, hx, hy]
theorem h_not (e : (!p) = r) (hx : (eqF (.bool p)).p (ρ x) w) : Yld (.unOp .not ty x) ρ w (eqF (.bool r)) := by
  have hx : ρ x = .bool p := hx
  subst e
  exact yld_mk fun o ho => by unfold execOp; rw [ho]; simp [go_sem, hx]
theorem h_neg (e : k.wrap (-a) = z) (hx : (eqF (.int k a)).p (ρ x) w) : Yld (.unOp .neg ty x) ρ w (eqF (.int k z)) := by
  have hx : ρ x = .int k a := hx
  subst e
  exact yld_mk fun o ho => by unfold execOp; rw [ho]; simp [go_sem, hx]
theorem h_add (e : k.wrap (a + b) = z) (hx : (eqF (.int k a)).p (ρ x) w) (hy : (eqF (.int k b)).p (ρ y) w) : Yld (.binOp .add ty x y ty2) ρ w (eqF (.int k z)) := by
  have hx : ρ x = .int k a := hx
  have hy : ρ y = .int k b := hy
  subst e
  exact yld_mk fun o ho => by unfold execOp; rw [ho]; simp [go_sem, hx, hy]
theorem h_sub (e : k.wrap (a - b) = z) (hx : (eqF (.int k a)).p (ρ x) w) (hy : (eqF (.int k b)).p (ρ y) w) : Yld (.binOp .sub ty x y ty2) ρ w (eqF (.int k z)) := by
  have hx : ρ x = .int k a := hx
  have hy : ρ y = .int k b := hy
  subst e
  exact yld_mk fun o ho => by unfold execOp; rw [ho]; simp [go_sem, hx, hy]
theorem h_mul (e : k.wrap (a * b) = z) (hx : (eqF (.int k a)).p (ρ x) w) (hy : (eqF (.int k b)).p (ρ y) w) : Yld (.binOp .mul ty x y ty2) ρ w (eqF (.int k z)) := by
  have hx : ρ x = .int k a := hx
  have hy : ρ y = .int k b := hy
  subst e
  exact yld_mk fun o ho => by unfold execOp; rw [ho]; simp [go_sem, hx, hy]
/-- Some number that nobody looks at, compared. -/
theorem h_ext2_0 {f g : PF} (hx : (tup2F f g).p (ρ x) w) : Yld (.extract x 0) ρ w f := by
  obtain ⟨u, v, e, h1, h2⟩ := hx
  exact ⟨u, w, fun o ho => by unfold execOp; rw [ho]; simp [go_sem, e], Below.refl _ _, h1⟩
theorem h_ext2_1 {f g : PF} (hx : (tup2F f g).p (ρ x) w) : Yld (.extract x 1) ρ w g := by
  obtain ⟨u, v, e, h1, h2⟩ := hx
  exact ⟨v, w, fun o ho => by unfold execOp; rw [ho]; simp [go_sem, e], Below.refl _ _, h2⟩
theorem h_ext3_0 {f g h : PF} (hx : (tup3F f g h).p (ρ x) w) : Yld (.extract x 0) ρ w f := by
  obtain ⟨u, v, t, e, h1, h2, h3⟩ := hx
  exact ⟨u, w, fun o ho => by unfold execOp; rw [ho]; simp [go_sem, e], Below.refl _ _, h1⟩
theorem h_ext3_1 {f g h : PF} (hx : (tup3F f g h).p (ρ x) w) : Yld (.extract x 1) ρ w g := by
  obtain ⟨u, v, t, e, h1, h2, h3⟩ := hx
  exact ⟨v, w, fun o ho => by unfold execOp; rw [ho]; simp [go_sem, e], Below.refl _ _, h2⟩
theorem h_ext3_2 {f g h : PF} (hx : (tup3F f g h).p (ρ x) w) : Yld (.extract x 2) ρ w h := by
  obtain ⟨u, v, t, e, h1, h2, h3⟩ := hx
  exact ⟨t, w, fun o ho => by unfold execOp; rw [ho]; simp [go_sem, e], Below.refl _ _, h3⟩
end
end Go.Proofs.YtjajmonhcnmidaaDoor
