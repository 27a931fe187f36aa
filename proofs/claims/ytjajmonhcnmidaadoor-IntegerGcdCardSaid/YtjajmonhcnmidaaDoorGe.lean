/- Walks: the reference's Neg, Sign, Valid; Valid; Sub. -/
import Derived.Test.YtjajmonhcnmidaaDoorGd
import Derived.Deep.RegionHeld3
namespace Go.Proofs.YtjajmonhcnmidaaDoor
open Go.RowKit

set_option maxHeartbeats 400000 in
theorem RNeg_any (v : Value) (z : Int) (w : World) (h : IntAt w v z) (hl : len z.natAbs ≤ 1099511627776) :
    Calls Tryd.prog 25 #[v] w (GivesInt (-z) w) := by
  obtain ⟨n, hn⟩ : ∃ n, z.natAbs = n := ⟨_, rfl⟩
  obtain ⟨b, hb⟩ : ∃ b, decide (z < 0) = b := ⟨_, rfl⟩
  obtain ⟨A, c, rfl, H⟩ := h.parts_ hn hb
  have hz : sgn (!b) n = -z := by
    subst hn hb
    by_cases h : z < 0
    · simp [sgn, h]; omega
    · simp [sgn, h]; omega
  have HZ := Lib.hid hz
  rw [hn] at hl
  clear hn hb h hz
  go_enter Tryd.func25, Tryd.ntmps25
  go_wp2_with fail
  refine (Made_nat _ n (!b) _ (H.out.into (below2 _ _ _)) (by omega)).mono ?_
  rintro e w2 ⟨v2, rfl, hv2, hb2⟩
  rw [HZ.out] at hv2
  obtain ⟨b', A', k', c', rfl, H'⟩ := hv2.open_
  have hg := (heap2 w (.cells #[.bool b, .slice A (len n) c] 27) (.cells #[.bool false, .slice none 0 0] 27)).2
  obtain ⟨hc0, hc1, hf0, hf1, hs⟩ := box_in hg hb2
  have HE := Lib.hid (box_end (x' := .bool b') (y' := .slice A' k' c') hg hb2 H'.out (below2 _ _ _) (by omega))
  clear hg hb2
  go_wp2
  refine bodyPost_ret (v := .agg #[.bool b', .slice A' k' c']) (by simp [results, Tryd.results25, go_sem, hc0, hc1]) rfl ⟨_, rfl, HE.out.1, HE.out.2⟩

set_option maxHeartbeats 400000 in
theorem RSign_any (v : Value) (z : Int) (w : World) (h : IntAt w v z) (hl : len z.natAbs ≤ 1099511627776) :
    Calls Tryd.prog 29 #[v] w fun e w' => e = .returned (.int .i64 z.sign) ∧ Below w.heap.size w w' := by
  obtain ⟨n, hn⟩ : ∃ n, z.natAbs = n := ⟨_, rfl⟩
  obtain ⟨b, hb⟩ : ∃ b, decide (z < 0) = b := ⟨_, rfl⟩
  obtain ⟨A, c, rfl, H⟩ := h.parts_ hn hb
  rw [hn] at hl
  rcases Nat.eq_zero_or_pos n with h0 | h0
  · have hz : z.sign = 0 := by have : z = 0 := by omega
                               rw [this]; rfl
    have HZ := Lib.hid hz
    subst h0
    clear hz hn hb h H
    rw [len_zero] at *
    go_enter Tryd.func29, Tryd.ntmps29
    go_wp2
    go_ret
    rw [HZ.out]
    exact ⟨rfl, below_alloc _ _⟩
  · have hne : ((len n : Int) == 0) = false := by
      have : len n ≠ 0 := fun h => by have := len_eq_zero.1 h; omega
      simp; omega
    have hz : z.sign = if b then -1 else 1 := by
      subst hb
      by_cases h : z < 0
      · simp [h, Int.sign_eq_neg_one_of_neg h]
      · simp [h]; omega
    have HZ := Lib.hid hz
    clear hz hn hb h
    cases b
    all_goals
      go_enter Tryd.func29, Tryd.ntmps29
      go_wp2
      go_ret
      rw [HZ.out]
      exact ⟨rfl, below_alloc _ _⟩

/-- Valid agrees with the definition, of limbs that came in. -/
def validB (b : Bool) (ms : List Nat) : Bool := if ms.length = 0 then !b else decide (ms.getD (ms.length - 1) 0 ≠ 0)

set_option maxHeartbeats 400000 in
theorem Valid_raw (b : Bool) (A : Option Addr) (n c : Nat) (ms : List Nat) (w : World) (hn : ms.length = n) (hm : RawMem w w.heap.size A ms) (hl : n ≤ 2305843009213693952) :
    Calls Tryd.prog 19 #[.agg #[.bool b, .slice A n c]] w fun e w' => e = .returned (.bool (validB b ms)) ∧ Below w.heap.size w w' := by
  rcases Nat.eq_zero_or_pos n with h0 | h0
  · have hv : validB b ms = !b := by simp [validB, hn, h0]
    have HV := Lib.hid hv
    subst h0
    clear hv hn
    go_enter Tryd.func19, Tryd.ntmps19
    go_wp2
    go_ret
    rw [HV.out]
    exact ⟨rfl, below_alloc _ _⟩
  · have hlk : n - 1 < ms.length := by omega
    obtain ⟨ad, rfl, hlt, hcell0⟩ := hm.at_ hlk
    have hcell := (Below.cell (below_alloc w (.cells #[.bool b, .slice (some ad) n c] 27)) (p := ad.add (n - 1)) (by rw [block_of_add']; exact hlt)).trans hcell0
    have hg := getD_of_lt hlk
    have hv : validB b ms = ((ms[n - 1]'hlk : Int) != 0) := by
      unfold validB
      rw [if_neg (by omega), hn, hg, Bool.eq_iff_iff]
      simp
    generalize ms[n - 1]'hlk = p at *
    have HV := Lib.hid hv
    have hne : ((n : Int) == 0) = false := by simp; omega
    clear hv hn hcell0 hg
    go_enter Tryd.func19, Tryd.ntmps19
    go_wp2
    go_ret
    rw [HV.out]
    exact ⟨rfl, below_alloc _ _⟩
set_option maxHeartbeats 400000 in
theorem RValid_raw (b : Bool) (A : Option Addr) (n c : Nat) (ms : List Nat) (w : World) (hn : ms.length = n) (hm : RawMem w w.heap.size A ms) (hl : n ≤ 2305843009213693952) :
    Calls Tryd.prog 20 #[.agg #[.bool b, .slice A n c]] w fun e w' => e = .returned (.bool (validB b ms)) ∧ Below w.heap.size w w' := by
  rcases Nat.eq_zero_or_pos n with h0 | h0
  · have hv : validB b ms = !b := by simp [validB, hn, h0]
    have HV := Lib.hid hv
    subst h0
    clear hv hn
    go_enter Tryd.func20, Tryd.ntmps20
    go_wp2
    go_ret
    rw [HV.out]
    exact ⟨rfl, below_alloc _ _⟩
  · have hlk : n - 1 < ms.length := by omega
    obtain ⟨ad, rfl, hlt, hcell0⟩ := hm.at_ hlk
    have hcell := (Below.cell (below_alloc w (.cells #[.bool b, .slice (some ad) n c] 27)) (p := ad.add (n - 1)) (by rw [block_of_add']; exact hlt)).trans hcell0
    have hg := getD_of_lt hlk
    have hv : validB b ms = ((ms[n - 1]'hlk : Int) != 0) := by
      unfold validB
      rw [if_neg (by omega), hn, hg, Bool.eq_iff_iff]
      simp
    generalize ms[n - 1]'hlk = p at *
    have HV := Lib.hid hv
    have hne : ((n : Int) == 0) = false := by simp; omega
    clear hv hn hcell0 hg
    go_enter Tryd.func20, Tryd.ntmps20
    go_wp2
    go_ret
    rw [HV.out]
    exact ⟨rfl, below_alloc _ _⟩

theorem validB_int {z : Int} : validB (decide (z < 0)) (limbs z.natAbs) = true := by
  unfold validB
  rw [len_limbs]
  by_cases h : len z.natAbs = 0
  · rw [if_pos h]
    have := len_eq_zero.1 h
    have : z = 0 := by omega
    subst this
    rfl
  · rw [if_neg h]
    have hp : 0 < z.natAbs := by
      rcases Nat.eq_zero_or_pos z.natAbs with h0 | h0
      · exact absurd (by rw [h0, len_zero]) h
      · exact h0
    simpa using limbs_last hp
theorem Valid_int (v : Value) (z : Int) (w : World) (h : IntAt w v z) (hl : len z.natAbs ≤ 1099511627776) :
    Calls Tryd.prog 19 #[v] w fun e w' => e = .returned (.bool true) ∧ Below w.heap.size w w' := by
  obtain ⟨s, rfl, A, c, rfl, hc, hm⟩ := h
  have := Valid_raw (decide (z < 0)) A (len z.natAbs) c (limbs z.natAbs) w rfl hm.raw (by omega)
  rwa [validB_int] at this
theorem RValid_int (v : Value) (z : Int) (w : World) (h : IntAt w v z) (hl : len z.natAbs ≤ 1099511627776) :
    Calls Tryd.prog 20 #[v] w fun e w' => e = .returned (.bool true) ∧ Below w.heap.size w w' := by
  obtain ⟨s, rfl, A, c, rfl, hc, hm⟩ := h
  have := RValid_raw (decide (z < 0)) A (len z.natAbs) c (limbs z.natAbs) w rfl hm.raw (by omega)
  rwa [validB_int] at this
end Go.Proofs.YtjajmonhcnmidaaDoor
namespace Go.Proofs.YtjajmonhcnmidaaDoor
open Go.RowKit

set_option maxHeartbeats 1600000 in
theorem Sub_any (va vb : Value) (a b : Int) (w : World) (ha : IntAt w va a) (hb : IntAt w vb b) (hla : len a.natAbs ≤ 1099511627775) (hlb : len b.natAbs ≤ 1099511627775) :
    Calls Tryd.prog 16 #[va, vb] w (GivesInt (a - b) w) := by
  obtain ⟨x, hx⟩ : ∃ n, a.natAbs = n := ⟨_, rfl⟩
  obtain ⟨y, hy⟩ : ∃ n, b.natAbs = n := ⟨_, rfl⟩
  obtain ⟨p, hp⟩ : ∃ s, decide (a < 0) = s := ⟨_, rfl⟩
  obtain ⟨q, hq⟩ : ∃ s, decide (b < 0) = s := ⟨_, rfl⟩
  have sa := sgn_of a
  have sb := sgn_of b
  rw [hx, hp] at sa
  rw [hy, hq] at sb
  rw [hx] at hla
  rw [hy] at hlb
  obtain ⟨A, c, rfl, HA⟩ := ha.parts_ hx hp
  obtain ⟨B, d, rfl, HB⟩ := hb.parts_ hy hq
  have HIA := Lib.hid (IntAt.back HA.out hx hp)
  have HIB := Lib.hid (IntAt.back HB.out hy hq)
  have HX := Lib.hid hx
  have HY := Lib.hid hy
  have HP := Lib.hid hp
  have HQ := Lib.hid hq
  have SA := Lib.hid sa
  have SB := Lib.hid sb
  clear hx hy hp hq ha hb HA HB sa sb
  have HH := Lib.hid (heap3 w (.cells #[.bool p, .slice A (len x) c] 27) (.cells #[.bool q, .slice B (len y) d] 27) (.cells #[.bool false, .slice none 0 0] 27))
  have HW := Lib.hid (below3 w (.cells #[.bool p, .slice A (len x) c] 27) (.cells #[.bool q, .slice B (len y) d] 27) (.cells #[.bool false, .slice none 0 0] 27))
  obtain ⟨ca0, ca1, _, _, _⟩ := box_in HH.out.1 (Below.refl _ _)
  obtain ⟨cb0, cb1, _, _, _⟩ := box_in HH.out.2.1 (Below.refl _ _)
  obtain ⟨cc0, cc1, cf0, cf1, cs⟩ := box_in HH.out.2.2 (Below.refl _ _)
  go_enter Tryd.func16, Tryd.ntmps16
  go_wp2_with fail
  generalize ((w.alloc (.cells #[.bool p, .slice A (len x) c] 27)).alloc (.cells #[.bool q, .slice B (len y) d] 27)).alloc (.cells #[.bool false, .slice none 0 0] 27) = W at *
  have HELD : ∀ w' : World, Below W.heap.size W w' → w'.cell? ⟨w.heap.size, 0, none⟩ = some (.bool p) ∧ w'.cell? ⟨w.heap.size, 1, none⟩ = some (.slice A (len x) c) ∧ w'.cell? ⟨w.heap.size + 1, 0, none⟩ = some (.bool q) ∧ w'.cell? ⟨w.heap.size + 1, 1, none⟩ = some (.slice B (len y) d) := fun w' hb => by
    obtain ⟨a0, a1, _, _, _⟩ := box_in HH.out.1 hb
    obtain ⟨b0, b1, _, _, _⟩ := box_in HH.out.2.1 hb
    exact ⟨a0, a1, b0, b1⟩
  have HELD2 : ∀ w' : World, Below W.heap.size W w' → ∀ (i j : Nat) (u v : Value), ((w'.setCell ⟨w.heap.size + 1 + 1, i, none⟩ u).setCell ⟨w.heap.size + 1 + 1, j, none⟩ v).cell? ⟨w.heap.size, 0, none⟩ = some (.bool p) ∧ ((w'.setCell ⟨w.heap.size + 1 + 1, i, none⟩ u).setCell ⟨w.heap.size + 1 + 1, j, none⟩ v).cell? ⟨w.heap.size, 1, none⟩ = some (.slice A (len x) c) ∧ ((w'.setCell ⟨w.heap.size + 1 + 1, i, none⟩ u).setCell ⟨w.heap.size + 1 + 1, j, none⟩ v).cell? ⟨w.heap.size + 1, 0, none⟩ = some (.bool q) ∧ ((w'.setCell ⟨w.heap.size + 1 + 1, i, none⟩ u).setCell ⟨w.heap.size + 1 + 1, j, none⟩ v).cell? ⟨w.heap.size + 1, 1, none⟩ = some (.slice B (len y) d) := fun w' hb i j u v => by
    obtain ⟨a0, a1, b0, b1⟩ := HELD w' hb
    refine ⟨?_, ?_, ?_, ?_⟩
    all_goals
      rw [World.cell?_setCell_far _ _ _ _ (by simp; try omega), World.cell?_setCell_far _ _ _ _ (by simp; try omega)]
      assumption
  have HELD' := Lib.hid HELD
  have HELD2' := Lib.hid HELD2
  clear HELD2
  have HWW := Lib.hid (Below.refl W.heap.size W)
  clear HELD
  go_region_held3 (fun w' => w'.cell? ⟨w.heap.size, 0, none⟩ = some (.bool p) ∧ w'.cell? ⟨w.heap.size, 1, none⟩ = some (.slice A (len x) c) ∧ w'.cell? ⟨w.heap.size + 1, 0, none⟩ = some (.bool q) ∧ w'.cell? ⟨w.heap.size + 1, 1, none⟩ = some (.slice B (len y) d))
    (first | (go_keep; done) | exact HELD'.out _ HB1.out | exact HELD'.out _ HB1.out.drew | exact HELD'.out _ HB2.out | exact HELD'.out _ HB2.out.drew | exact HELD2'.out _ HB2.out _ _ _ _)
    (first
      | (go_at_call 18
         refine (Neg_any _ b _ (HIB.out.into (by first | exact HW.out | exact HW.out.drew | exact HW.out.drew.drew)) (by rw [HY.out]; omega)).mono ?_
         rintro e w1 ⟨v1, rfl, hv1, hb1⟩
         obtain ⟨b1, A1, k1, c1, rfl, H1⟩ := hv1.open_
         have HB1 : Hid (Below W.heap.size W w1) := step_below (by first | exact HWW.out | exact HWW.out.drew | exact HWW.out.drew.drew) hb1
         clear hb1 hv1)
      | (go_at_call 15
         refine (Add_any _ _ a (-b) _ (HIA.out.into (step_below HW.out HB1.out)) H1.out (by rw [HX.out]; omega) (by rw [Int.natAbs_neg, HY.out]; omega)).mono ?_
         rintro e w2 ⟨v2, rfl, hv2, hb2⟩
         obtain ⟨b2, A2, k2, c2, rfl, H2⟩ := hv2.open_
         have HB2 : Hid (Below W.heap.size W w2) := step_below HB1.out hb2
         obtain ⟨dc0, dc1, df0, df1, ds⟩ := box_in HH.out.2.2 HB2.out
         have HE := Lib.hid (box_end (x' := .bool b2) (y' := .slice A2 k2 c2) HH.out.2.2 HB2.out H2.out HW.out (by omega))
         clear hb2 hv2))
  go_wp2
  refine bodyPost_ret (v := .agg #[.bool b2, .slice A2 k2 c2]) (by simp [results, Tryd.results16, go_sem, dc0, dc1]) rfl ⟨_, rfl, HE.out.1, HE.out.2⟩
end Go.Proofs.YtjajmonhcnmidaaDoor
