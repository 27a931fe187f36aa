/- Walks: Of, Sign, Neg, Mul on integers. -/
import Derived.Test.YtdofolejfdfocaaDoorqW3
import Derived.Test.YtdofolejfdfocaaDoorqW2
namespace Go.Proofs.YtdofolejfdfocaaDoor
open Go.RowKit

theorem wrap_neg (n : Nat) (hn : n ≤ 9223372036854775808) (h1 : 0 < n) : IntKind.u64.wrap (-IntKind.u64.wrap (-(n : Int))) = (n : Int) := by
  rw [IntKind.wrap_u64, IntKind.wrap_u64]; omega

set_option maxHeartbeats 400000 in
theorem Of_neg (n : Nat) (w : World) (hn : n ≤ 9223372036854775808) (h1 : 0 < n) :
    Calls Tryd.prog 12 #[.int .i64 (-(n : Int))] w (GivesInt (sgn true n) w) := by
  have h0 : decide (-(n : Int) < 0) = true := by simp; omega
  have hl : len n ≤ 2 := len_le_two (by omega)
  go_enter Tryd.func12, Tryd.ntmps12
  go_wp2_with fail
  rw [wrap_neg n hn h1]
  refine (fromWord_any n _ (by omega)).mono ?_
  rintro e w1 ⟨v, rfl, hv, hb⟩
  go_wp2_with fail
  refine (build_any true v n _ hv (by omega)).mono ?_
  rintro e w2 ⟨v2, rfl, hv2, hb2⟩
  obtain ⟨b, A, k, c, rfl, H⟩ := hv2.open_
  have hB := step_below hb hb2
  obtain ⟨hc0, hc1, hf0, hf1, hs⟩ := box2 hB
  have HE := Lib.hid (box2_end (x' := .bool b) (y' := .slice A k c) hB H.out)
  clear hB
  go_wp2
  refine bodyPost_ret (v := .agg #[.bool b, .slice A k c]) (by simp [results, Tryd.results12, go_sem, hc0, hc1]) rfl ⟨_, rfl, HE.out.1, HE.out.2⟩

theorem Of_any (z : Int) (w : World) (h0 : -9223372036854775808 ≤ z) (h1 : z ≤ 9223372036854775807) : Calls Tryd.prog 12 #[.int .i64 z] w (GivesInt z w) := by
  rcases Int.lt_or_le z 0 with h | h
  · obtain ⟨n, rfl⟩ : ∃ n : Nat, z = -(n : Int) := ⟨z.natAbs, by omega⟩
    exact Of_neg n w (by omega) (by omega)
  · obtain ⟨n, rfl⟩ := Int.eq_ofNat_of_zero_le h
    exact Of_nonneg n w (by omega)

set_option maxHeartbeats 400000 in
theorem Sign_any (v : Value) (z : Int) (w : World) (h : IntAt w v z) (hl : len z.natAbs ≤ 1099511627776) :
    Calls Tryd.prog 17 #[v] w fun e w' => e = .returned (.int .i64 z.sign) ∧ Below w.heap.size w w' := by
  obtain ⟨n, hn⟩ : ∃ n, z.natAbs = n := ⟨_, rfl⟩
  obtain ⟨b, hb⟩ : ∃ b, decide (z < 0) = b := ⟨_, rfl⟩
  obtain ⟨A, c, rfl, H⟩ := h.parts_ hn hb
  have HI := Lib.hid (IntAt.back H.out hn hb)
  rw [hn] at hl
  have HN := Lib.hid hn
  have HB := Lib.hid hb
  clear hn hb h
  cases b
  all_goals
    go_enter Tryd.func17, Tryd.ntmps17
    go_wp2_with fail
    refine (parts_is _ z n _ _ (HI.out.into (below_alloc _ _)) HN.out HB.out (by omega)).mono ?_
    rintro e w1 ⟨A1, c1, rfl, H1, hb1⟩
    have HD := Lib.hid (step_below (below_alloc _ _) hb1)
    clear hb1
  · rcases Nat.eq_zero_or_pos n with h0 | h0
    · have hz : z.sign = 0 := by have := HN.out; have : z = 0 := by omega
                                 rw [this]; rfl
      have HZ := Lib.hid hz
      clear hz
      subst h0
      rw [len_zero] at *
      go_wp2
      go_ret
      rw [HZ.out]
      exact ⟨rfl, HD.out⟩
    · have hz : z.sign = 1 := Int.sign_eq_one_of_pos (by have := HN.out; have := of_decide_eq_false HB.out; omega)
      have HZ := Lib.hid hz
      clear hz
      have hne : ((len n : Int) == 0) = false := by
        have : len n ≠ 0 := fun h => by have := len_eq_zero.1 h; omega
        simp; omega
      go_wp2
      go_ret
      rw [HZ.out]
      exact ⟨rfl, HD.out⟩
  · have hz : z.sign = -1 := Int.sign_eq_neg_one_of_neg (of_decide_eq_true HB.out)
    have HZ := Lib.hid hz
    clear hz
    go_wp2
    go_ret
    rw [HZ.out]
    exact ⟨rfl, HD.out⟩

theorem sgn_mul (a b : Int) : sgn (decide (a < 0) != decide (b < 0)) (a.natAbs * b.natAbs) = a * b := by
  have h : ∀ (p q : Bool) (x y : Nat), sgn (p != q) (x * y) = sgn p x * sgn q y := by
    intro p q x y
    cases p <;> cases q <;> simp [sgn, Int.neg_mul, Int.mul_neg]
  rw [h, sgn_of, sgn_of]

set_option maxHeartbeats 800000 in
theorem Mul_any (va vb : Value) (a b : Int) (w : World) (ha : IntAt w va a) (hb : IntAt w vb b) (hla : len a.natAbs ≤ 1099511627776) (hlb : len b.natAbs ≤ 1099511627776) :
    Calls Tryd.prog 40 #[va, vb] w (GivesInt (a * b) w) := by
  obtain ⟨x, hx⟩ : ∃ n, a.natAbs = n := ⟨_, rfl⟩
  obtain ⟨y, hy⟩ : ∃ n, b.natAbs = n := ⟨_, rfl⟩
  obtain ⟨p, hp⟩ : ∃ s, decide (a < 0) = s := ⟨_, rfl⟩
  obtain ⟨q, hq⟩ : ∃ s, decide (b < 0) = s := ⟨_, rfl⟩
  have hz := sgn_mul a b
  rw [hx, hy, hp, hq] at hz
  rw [hx] at hla
  rw [hy] at hlb
  obtain ⟨A, c, rfl, HA⟩ := ha.parts_ hx hp
  obtain ⟨B, d, rfl, HB⟩ := hb.parts_ hy hq
  have HIA := Lib.hid (IntAt.back HA.out hx hp)
  have HIB := Lib.hid (IntAt.back HB.out hy hq)
  have HX := Lib.hid hx
  have HY := Lib.hid hy
  have HP := Lib.hid hp
  have HQ := Lib.hid hq
  have HZ := Lib.hid hz
  clear hx hy hp hq hz ha hb HA HB
  have HH := Lib.hid (heap3 w (.cells #[.bool p, .slice A (len x) c] 27) (.cells #[.bool q, .slice B (len y) d] 27) (.cells #[.bool false, .slice none 0 0] 27))
  have HW := Lib.hid (below3 w (.cells #[.bool p, .slice A (len x) c] 27) (.cells #[.bool q, .slice B (len y) d] 27) (.cells #[.bool false, .slice none 0 0] 27))
  go_enter Tryd.func40, Tryd.ntmps40
  go_wp2_with fail
  generalize ((w.alloc (.cells #[.bool p, .slice A (len x) c] 27)).alloc (.cells #[.bool q, .slice B (len y) d] 27)).alloc (.cells #[.bool false, .slice none 0 0] 27) = W at *
  refine (parts_is _ a x p _ (HIA.out.into HW.out) HX.out HP.out (by omega)).mono ?_
  rintro e w1 ⟨A1, c1, rfl, H1, hb1⟩
  have hB1 := Lib.hid hb1
  obtain ⟨hc0, hc1, hf0, hf1, hs⟩ := box_in HH.out.2.1 hb1
  clear hb1
  go_wp2_with fail
  refine (parts_is _ b y q _ (HIB.out.into (step_below HW.out hB1.out)) HY.out HQ.out (by omega)).mono ?_
  rintro e w2 ⟨B1, d1, rfl, H2, hb2⟩
  have hB2 := Lib.hid hb2
  clear hb2 hc0 hc1 hf0 hf1 hs
  go_wp2_with fail
  refine (product_any _ _ x y _ (H1.out.into hB2.out) H2.out hla hlb).mono ?_
  rintro e w3 ⟨v3, rfl, hv3, hb3⟩
  have hB3 := Lib.hid (step_below (step_below hB1.out hB2.out) hb3)
  clear hb3 hB1 hB2
  go_wp2_with fail
  refine (build_any (p != q) v3 (x * y) _ hv3 (by have := len_mul x y; omega)).mono ?_
  rintro e w4 ⟨v4, rfl, hv4, hb4⟩
  rw [HZ.out] at hv4
  obtain ⟨b', A', k', c', rfl, H'⟩ := hv4.open_
  have hb := step_below hB3.out hb4
  obtain ⟨hc0, hc1, hf0, hf1, hs⟩ := box_in HH.out.2.2 hb
  have HE := Lib.hid (box_end (x' := .bool b') (y' := .slice A' k' c') HH.out.2.2 hb H'.out HW.out (by omega))
  clear hb hb4
  go_wp2
  refine bodyPost_ret (v := .agg #[.bool b', .slice A' k' c']) (by simp [results, Tryd.results40, go_sem, hc0, hc1]) rfl ⟨_, rfl, HE.out.1, HE.out.2⟩
end Go.Proofs.YtdofolejfdfocaaDoor
namespace Go.Proofs.YtdofolejfdfocaaDoor
open Go.RowKit

def cmpI (a b : Int) : Int := if a < b then -1 else if a = b then 0 else 1
theorem cmpI_lt {a b : Int} (h : a < b) : cmpI a b = -1 := by simp [cmpI, h]
theorem cmpI_eq {a b : Int} (h : a = b) : cmpI a b = 0 := by simp [cmpI, h]
theorem cmpI_gt {a b : Int} (h : b < a) : cmpI a b = 1 := by unfold cmpI; rw [if_neg (by omega), if_neg (by omega)]
theorem cmpI_nat (x y : Nat) : cmpI (x : Int) (y : Int) = cmpN x y := by
  rcases Nat.lt_trichotomy x y with h | h | h
  · rw [cmpN_lt h, cmpI_lt (by omega)]
  · rw [cmpN_eq h, cmpI_eq (by omega)]
  · rw [cmpN_gt h, cmpI_gt (by omega)]
theorem cmpI_neg (x y : Nat) : cmpI (-(x : Int)) (-(y : Int)) = cmpN y x := by
  rcases Nat.lt_trichotomy x y with h | h | h
  · rw [cmpN_gt h, cmpI_gt (by omega)]
  · rw [cmpN_eq h.symm, cmpI_eq (by omega)]
  · rw [cmpN_lt h, cmpI_lt (by omega)]

end Go.Proofs.YtdofolejfdfocaaDoor
