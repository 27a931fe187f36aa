/- Walks: Add, Cmp on integers. -/
import Derived.Test.YtjajmonhcnmidaaDoorW5
namespace Go.Proofs.YtjajmonhcnmidaaDoor
open Go.RowKit

set_option maxHeartbeats 1600000 in
theorem Add_any (va vb : Value) (a b : Int) (w : World) (ha : IntAt w va a) (hb : IntAt w vb b) (hla : len a.natAbs ≤ 1099511627776) (hlb : len b.natAbs ≤ 1099511627776) :
    Calls Tryd.prog 15 #[va, vb] w (GivesInt (a + b) w) := by
  obtain ⟨x, hx⟩ : ∃ n, a.natAbs = n := ⟨_, rfl⟩
  obtain ⟨y, hy⟩ : ∃ n, b.natAbs = n := ⟨_, rfl⟩
  obtain ⟨p, hp⟩ : ∃ s, decide (a < 0) = s := ⟨_, rfl⟩
  obtain ⟨q, hq⟩ : ∃ s, decide (b < 0) = s := ⟨_, rfl⟩
  have sa := sgn_of a
  have sb := sgn_of b
  rw [hx, hp] at sa
  rw [hy, hq] at sb
  rw [hx] at hla
  rw [hy] at hlb
  obtain ⟨A, c, rfl, HA⟩ := ha.parts_ hx hp
  obtain ⟨B, d, rfl, HB⟩ := hb.parts_ hy hq
  have HIA := Lib.hid (IntAt.back HA.out hx hp)
  have HIB := Lib.hid (IntAt.back HB.out hy hq)
  have HX := Lib.hid hx
  have HY := Lib.hid hy
  have HP := Lib.hid hp
  have HQ := Lib.hid hq
  have SA := Lib.hid sa
  have SB := Lib.hid sb
  clear hx hy hp hq ha hb HA HB sa sb
  cases p <;> cases q
  · have HH := Lib.hid (heap3 w (.cells #[.bool false, .slice A (len x) c] 27) (.cells #[.bool false, .slice B (len y) d] 27) (.cells #[.bool false, .slice none 0 0] 27))
    have HW := Lib.hid (below3 w (.cells #[.bool false, .slice A (len x) c] 27) (.cells #[.bool false, .slice B (len y) d] 27) (.cells #[.bool false, .slice none 0 0] 27))
    go_enter Tryd.func15, Tryd.ntmps15
    go_wp2_with fail
    generalize ((w.alloc (.cells #[.bool false, .slice A (len x) c] 27)).alloc (.cells #[.bool false, .slice B (len y) d] 27)).alloc (.cells #[.bool false, .slice none 0 0] 27) = W at *
    refine (parts_is _ a x false _ (HIA.out.into HW.out) HX.out HP.out (by omega)).mono ?_
    rintro e w1 ⟨A1, c1, rfl, H1, hb1⟩
    have hB1 := Lib.hid hb1
    obtain ⟨hc0, hc1, hf0, hf1, hs⟩ := box_in HH.out.2.1 hb1
    clear hb1
    go_wp2_with fail
    refine (parts_is _ b y false _ (HIB.out.into (step_below HW.out hB1.out)) HY.out HQ.out (by omega)).mono ?_
    rintro e w2 ⟨B1, d1, rfl, H2, hb2⟩
    have hB2 := Lib.hid (step_below hB1.out hb2)
    have H1' := Lib.hid (H1.out.into hb2)
    clear hb2 hc0 hc1 hf0 hf1 hs hB1 H1
    go_wp2_with fail
    refine (sum_any _ _ x y _ H1'.out H2.out hla hlb).mono ?_
    rintro e w3 ⟨v3, rfl, hv3, hb3⟩
    have hB3 := Lib.hid (step_below hB2.out hb3)
    clear hb3 hB2
    go_wp2_with fail
    refine (build_any false v3 (x + y) _ hv3 (by have := len_add x y; omega)).mono ?_
    rintro e w4 ⟨v4, rfl, hv4, hb4⟩
    rw [show sgn false (x + y) = a + b from by have h1 := SA.out; have h2 := SB.out; simp only [sgn] at h1 h2 ⊢; simp at h1 h2 ⊢; omega] at hv4
    obtain ⟨b', A', k', c', rfl, H'⟩ := hv4.open_
    have hb := step_below hB3.out hb4
    obtain ⟨hc0, hc1, hf0, hf1, hs⟩ := box_in HH.out.2.2 hb
    have HE := Lib.hid (box_end (x' := .bool b') (y' := .slice A' k' c') HH.out.2.2 hb H'.out HW.out (by omega))
    clear hb hb4
    go_wp2
    refine bodyPost_ret (v := .agg #[.bool b', .slice A' k' c']) (by simp [results, Tryd.results15, go_sem, hs, hc0, hc1]) rfl ⟨_, rfl, HE.out.1, HE.out.2⟩
  · have HH := Lib.hid (heap3 w (.cells #[.bool false, .slice A (len x) c] 27) (.cells #[.bool true, .slice B (len y) d] 27) (.cells #[.bool false, .slice none 0 0] 27))
    have HW := Lib.hid (below3 w (.cells #[.bool false, .slice A (len x) c] 27) (.cells #[.bool true, .slice B (len y) d] 27) (.cells #[.bool false, .slice none 0 0] 27))
    go_enter Tryd.func15, Tryd.ntmps15
    go_wp2_with fail
    generalize ((w.alloc (.cells #[.bool false, .slice A (len x) c] 27)).alloc (.cells #[.bool true, .slice B (len y) d] 27)).alloc (.cells #[.bool false, .slice none 0 0] 27) = W at *
    refine (parts_is _ a x false _ (HIA.out.into HW.out) HX.out HP.out (by omega)).mono ?_
    rintro e w1 ⟨A1, c1, rfl, H1, hb1⟩
    have hB1 := Lib.hid hb1
    obtain ⟨hc0, hc1, hf0, hf1, hs⟩ := box_in HH.out.2.1 hb1
    clear hb1
    go_wp2_with fail
    refine (parts_is _ b y true _ (HIB.out.into (step_below HW.out hB1.out)) HY.out HQ.out (by omega)).mono ?_
    rintro e w2 ⟨B1, d1, rfl, H2, hb2⟩
    have hB2 := Lib.hid (step_below hB1.out hb2)
    have H1' := Lib.hid (H1.out.into hb2)
    clear hb2 hc0 hc1 hf0 hf1 hs hB1 H1
    go_wp2_with fail
    refine (compare_any _ _ _ _ x y _ H1'.out.mem.2.2 H2.out.mem.2.2 hla hlb).mono ?_
    rintro e w2' ⟨rfl, nd, rfl⟩
    have hbd := below_drewN w2 nd
    have hB2' := Lib.hid (step_below hB2.out hbd)
    have H1 := Lib.hid (H1'.out.into hbd)
    have H2' := Lib.hid (H2.out.into hbd)
    clear hbd hB2 H1' H2
    rcases Nat.lt_or_ge x y with hlt | hge
    · rw [cmpN_lt hlt]
      go_wp2_with fail
      refine (difference_any _ _ y x _ H2'.out H1.out hlb (by omega)).mono ?_
      rintro e w3 ⟨v3, rfl, hv3, hb3⟩
      have hB3 := Lib.hid (step_below hB2'.out hb3)
      clear hb3 hB2'
      go_wp2_with fail
      refine (build_any true v3 (y - x) _ hv3 (by have := len_mono (Nat.sub_le y x); omega)).mono ?_
      rintro e w4 ⟨v4, rfl, hv4, hb4⟩
      rw [show sgn true (y - x) = a + b from by have h1 := SA.out; have h2 := SB.out; simp only [sgn] at h1 h2 ⊢; simp at h1 h2 ⊢; omega] at hv4
      obtain ⟨b', A', k', c', rfl, H'⟩ := hv4.open_
      have hb := step_below hB3.out hb4
      obtain ⟨hc0, hc1, hf0, hf1, hs⟩ := box_in HH.out.2.2 hb
      have HE := Lib.hid (box_end (x' := .bool b') (y' := .slice A' k' c') HH.out.2.2 hb H'.out HW.out (by omega))
      clear hb hb4
      go_wp2
      refine bodyPost_ret (v := .agg #[.bool b', .slice A' k' c']) (by simp [results, Tryd.results15, go_sem, hs, hc0, hc1]) rfl ⟨_, rfl, HE.out.1, HE.out.2⟩
    · obtain ⟨v, hv, hv0⟩ : ∃ v : Int, cmpN x y = v ∧ 0 ≤ v := ⟨_, rfl, by rcases Nat.lt_or_ge y x with h | h; rw [cmpN_gt h]; omega; rw [cmpN_eq (by omega)]; omega⟩
      rw [hv]
      clear hv
      go_wp2_with fail
      refine (difference_any _ _ x y _ H1.out H2'.out hla hge).mono ?_
      rintro e w3 ⟨v3, rfl, hv3, hb3⟩
      have hB3 := Lib.hid (step_below hB2'.out hb3)
      clear hb3 hB2'
      go_wp2_with fail
      refine (build_any false v3 (x - y) _ hv3 (by have := len_mono (Nat.sub_le x y); omega)).mono ?_
      rintro e w4 ⟨v4, rfl, hv4, hb4⟩
      rw [show sgn false (x - y) = a + b from by have h1 := SA.out; have h2 := SB.out; simp only [sgn] at h1 h2 ⊢; simp at h1 h2 ⊢; omega] at hv4
      obtain ⟨b', A', k', c', rfl, H'⟩ := hv4.open_
      have hb := step_below hB3.out hb4
      obtain ⟨hc0, hc1, hf0, hf1, hs⟩ := box_in HH.out.2.2 hb
      have HE := Lib.hid (box_end (x' := .bool b') (y' := .slice A' k' c') HH.out.2.2 hb H'.out HW.out (by omega))
      clear hb hb4
      go_wp2
      refine bodyPost_ret (v := .agg #[.bool b', .slice A' k' c']) (by simp [results, Tryd.results15, go_sem, hs, hc0, hc1]) rfl ⟨_, rfl, HE.out.1, HE.out.2⟩
  · have HH := Lib.hid (heap3 w (.cells #[.bool true, .slice A (len x) c] 27) (.cells #[.bool false, .slice B (len y) d] 27) (.cells #[.bool false, .slice none 0 0] 27))
    have HW := Lib.hid (below3 w (.cells #[.bool true, .slice A (len x) c] 27) (.cells #[.bool false, .slice B (len y) d] 27) (.cells #[.bool false, .slice none 0 0] 27))
    go_enter Tryd.func15, Tryd.ntmps15
    go_wp2_with fail
    generalize ((w.alloc (.cells #[.bool true, .slice A (len x) c] 27)).alloc (.cells #[.bool false, .slice B (len y) d] 27)).alloc (.cells #[.bool false, .slice none 0 0] 27) = W at *
    refine (parts_is _ a x true _ (HIA.out.into HW.out) HX.out HP.out (by omega)).mono ?_
    rintro e w1 ⟨A1, c1, rfl, H1, hb1⟩
    have hB1 := Lib.hid hb1
    obtain ⟨hc0, hc1, hf0, hf1, hs⟩ := box_in HH.out.2.1 hb1
    clear hb1
    go_wp2_with fail
    refine (parts_is _ b y false _ (HIB.out.into (step_below HW.out hB1.out)) HY.out HQ.out (by omega)).mono ?_
    rintro e w2 ⟨B1, d1, rfl, H2, hb2⟩
    have hB2 := Lib.hid (step_below hB1.out hb2)
    have H1' := Lib.hid (H1.out.into hb2)
    clear hb2 hc0 hc1 hf0 hf1 hs hB1 H1
    go_wp2_with fail
    refine (compare_any _ _ _ _ x y _ H1'.out.mem.2.2 H2.out.mem.2.2 hla hlb).mono ?_
    rintro e w2' ⟨rfl, nd, rfl⟩
    have hbd := below_drewN w2 nd
    have hB2' := Lib.hid (step_below hB2.out hbd)
    have H1 := Lib.hid (H1'.out.into hbd)
    have H2' := Lib.hid (H2.out.into hbd)
    clear hbd hB2 H1' H2
    rcases Nat.lt_or_ge x y with hlt | hge
    · rw [cmpN_lt hlt]
      go_wp2_with fail
      refine (difference_any _ _ y x _ H2'.out H1.out hlb (by omega)).mono ?_
      rintro e w3 ⟨v3, rfl, hv3, hb3⟩
      have hB3 := Lib.hid (step_below hB2'.out hb3)
      clear hb3 hB2'
      go_wp2_with fail
      refine (build_any false v3 (y - x) _ hv3 (by have := len_mono (Nat.sub_le y x); omega)).mono ?_
      rintro e w4 ⟨v4, rfl, hv4, hb4⟩
      rw [show sgn false (y - x) = a + b from by have h1 := SA.out; have h2 := SB.out; simp only [sgn] at h1 h2 ⊢; simp at h1 h2 ⊢; omega] at hv4
      obtain ⟨b', A', k', c', rfl, H'⟩ := hv4.open_
      have hb := step_below hB3.out hb4
      obtain ⟨hc0, hc1, hf0, hf1, hs⟩ := box_in HH.out.2.2 hb
      have HE := Lib.hid (box_end (x' := .bool b') (y' := .slice A' k' c') HH.out.2.2 hb H'.out HW.out (by omega))
      clear hb hb4
      go_wp2
      refine bodyPost_ret (v := .agg #[.bool b', .slice A' k' c']) (by simp [results, Tryd.results15, go_sem, hs, hc0, hc1]) rfl ⟨_, rfl, HE.out.1, HE.out.2⟩
    · obtain ⟨v, hv, hv0⟩ : ∃ v : Int, cmpN x y = v ∧ 0 ≤ v := ⟨_, rfl, by rcases Nat.lt_or_ge y x with h | h; rw [cmpN_gt h]; omega; rw [cmpN_eq (by omega)]; omega⟩
      rw [hv]
      clear hv
      go_wp2_with fail
      refine (difference_any _ _ x y _ H1.out H2'.out hla hge).mono ?_
      rintro e w3 ⟨v3, rfl, hv3, hb3⟩
      have hB3 := Lib.hid (step_below hB2'.out hb3)
      clear hb3 hB2'
      go_wp2_with fail
      refine (build_any true v3 (x - y) _ hv3 (by have := len_mono (Nat.sub_le x y); omega)).mono ?_
      rintro e w4 ⟨v4, rfl, hv4, hb4⟩
      rw [show sgn true (x - y) = a + b from by have h1 := SA.out; have h2 := SB.out; simp only [sgn] at h1 h2 ⊢; simp at h1 h2 ⊢; omega] at hv4
      obtain ⟨b', A', k', c', rfl, H'⟩ := hv4.open_
      have hb := step_below hB3.out hb4
      obtain ⟨hc0, hc1, hf0, hf1, hs⟩ := box_in HH.out.2.2 hb
      have HE := Lib.hid (box_end (x' := .bool b') (y' := .slice A' k' c') HH.out.2.2 hb H'.out HW.out (by omega))
      clear hb hb4
      go_wp2
      refine bodyPost_ret (v := .agg #[.bool b', .slice A' k' c']) (by simp [results, Tryd.results15, go_sem, hs, hc0, hc1]) rfl ⟨_, rfl, HE.out.1, HE.out.2⟩
  · have HH := Lib.hid (heap3 w (.cells #[.bool true, .slice A (len x) c] 27) (.cells #[.bool true, .slice B (len y) d] 27) (.cells #[.bool false, .slice none 0 0] 27))
    have HW := Lib.hid (below3 w (.cells #[.bool true, .slice A (len x) c] 27) (.cells #[.bool true, .slice B (len y) d] 27) (.cells #[.bool false, .slice none 0 0] 27))
    go_enter Tryd.func15, Tryd.ntmps15
    go_wp2_with fail
    generalize ((w.alloc (.cells #[.bool true, .slice A (len x) c] 27)).alloc (.cells #[.bool true, .slice B (len y) d] 27)).alloc (.cells #[.bool false, .slice none 0 0] 27) = W at *
    refine (parts_is _ a x true _ (HIA.out.into HW.out) HX.out HP.out (by omega)).mono ?_
    rintro e w1 ⟨A1, c1, rfl, H1, hb1⟩
    have hB1 := Lib.hid hb1
    obtain ⟨hc0, hc1, hf0, hf1, hs⟩ := box_in HH.out.2.1 hb1
    clear hb1
    go_wp2_with fail
    refine (parts_is _ b y true _ (HIB.out.into (step_below HW.out hB1.out)) HY.out HQ.out (by omega)).mono ?_
    rintro e w2 ⟨B1, d1, rfl, H2, hb2⟩
    have hB2 := Lib.hid (step_below hB1.out hb2)
    have H1' := Lib.hid (H1.out.into hb2)
    clear hb2 hc0 hc1 hf0 hf1 hs hB1 H1
    go_wp2_with fail
    refine (sum_any _ _ x y _ H1'.out H2.out hla hlb).mono ?_
    rintro e w3 ⟨v3, rfl, hv3, hb3⟩
    have hB3 := Lib.hid (step_below hB2.out hb3)
    clear hb3 hB2
    go_wp2_with fail
    refine (build_any true v3 (x + y) _ hv3 (by have := len_add x y; omega)).mono ?_
    rintro e w4 ⟨v4, rfl, hv4, hb4⟩
    rw [show sgn true (x + y) = a + b from by have h1 := SA.out; have h2 := SB.out; simp only [sgn] at h1 h2 ⊢; simp at h1 h2 ⊢; omega] at hv4
    obtain ⟨b', A', k', c', rfl, H'⟩ := hv4.open_
    have hb := step_below hB3.out hb4
    obtain ⟨hc0, hc1, hf0, hf1, hs⟩ := box_in HH.out.2.2 hb
    have HE := Lib.hid (box_end (x' := .bool b') (y' := .slice A' k' c') HH.out.2.2 hb H'.out HW.out (by omega))
    clear hb hb4
    go_wp2
    refine bodyPost_ret (v := .agg #[.bool b', .slice A' k' c']) (by simp [results, Tryd.results15, go_sem, hs, hc0, hc1]) rfl ⟨_, rfl, HE.out.1, HE.out.2⟩

def cmpI (a b : Int) : Int := if a < b then -1 else if a = b then 0 else 1
theorem cmpI_lt {a b : Int} (h : a < b) : cmpI a b = -1 := by simp [cmpI, h]
theorem cmpI_eq {a b : Int} (h : a = b) : cmpI a b = 0 := by simp [cmpI, h]
theorem cmpI_gt {a b : Int} (h : b < a) : cmpI a b = 1 := by unfold cmpI; rw [if_neg (by omega), if_neg (by omega)]
theorem cmpI_nat (x y : Nat) : cmpI (x : Int) (y : Int) = cmpN x y := by
  rcases Nat.lt_trichotomy x y with h | h | h
  · rw [cmpN_lt h, cmpI_lt (by omega)]
  · rw [cmpN_eq h, cmpI_eq (by omega)]
  · rw [cmpN_gt h, cmpI_gt (by omega)]
theorem cmpI_neg (x y : Nat) : cmpI (-(x : Int)) (-(y : Int)) = cmpN y x := by
  rcases Nat.lt_trichotomy x y with h | h | h
  · rw [cmpN_gt h, cmpI_gt (by omega)]
  · rw [cmpN_eq h.symm, cmpI_eq (by omega)]
  · rw [cmpN_lt h, cmpI_lt (by omega)]

set_option maxHeartbeats 1600000 in
theorem Cmp_any (va vb : Value) (a b : Int) (w : World) (ha : IntAt w va a) (hb : IntAt w vb b) (hla : len a.natAbs ≤ 1099511627776) (hlb : len b.natAbs ≤ 1099511627776) :
    Calls Tryd.prog 26 #[va, vb] w fun e w' => e = .returned (.int .i64 (cmpI a b)) ∧ Below w.heap.size w w' := by
  obtain ⟨x, hx⟩ : ∃ n, a.natAbs = n := ⟨_, rfl⟩
  obtain ⟨y, hy⟩ : ∃ n, b.natAbs = n := ⟨_, rfl⟩
  obtain ⟨p, hp⟩ : ∃ s, decide (a < 0) = s := ⟨_, rfl⟩
  obtain ⟨q, hq⟩ : ∃ s, decide (b < 0) = s := ⟨_, rfl⟩
  have sa := sgn_of a
  have sb := sgn_of b
  rw [hx, hp] at sa
  rw [hy, hq] at sb
  rw [hx] at hla
  rw [hy] at hlb
  obtain ⟨A, c, rfl, HA⟩ := ha.parts_ hx hp
  obtain ⟨B, d, rfl, HB⟩ := hb.parts_ hy hq
  have HIA := Lib.hid (IntAt.back HA.out hx hp)
  have HIB := Lib.hid (IntAt.back HB.out hy hq)
  have HX := Lib.hid hx
  have HY := Lib.hid hy
  have HP := Lib.hid hp
  have HQ := Lib.hid hq
  have SA := Lib.hid sa
  have SB := Lib.hid sb
  clear hx hy hp hq ha hb HA HB sa sb
  cases p <;> cases q
  · have HH := Lib.hid (heap2 w (.cells #[.bool false, .slice A (len x) c] 27) (.cells #[.bool false, .slice B (len y) d] 27))
    have HW := Lib.hid (below2 w (.cells #[.bool false, .slice A (len x) c] 27) (.cells #[.bool false, .slice B (len y) d] 27))
    go_enter Tryd.func26, Tryd.ntmps26
    go_wp2_with fail
    generalize (w.alloc (.cells #[.bool false, .slice A (len x) c] 27)).alloc (.cells #[.bool false, .slice B (len y) d] 27) = W at *
    refine (parts_is _ a x false _ (HIA.out.into HW.out) HX.out HP.out (by omega)).mono ?_
    rintro e w1 ⟨A1, c1, rfl, H1, hb1⟩
    have hB1 := Lib.hid hb1
    obtain ⟨hc0, hc1, hf0, hf1, hs⟩ := box_in HH.out.2 hb1
    clear hb1
    go_wp2_with fail
    refine (parts_is _ b y false _ (HIB.out.into (step_below HW.out hB1.out)) HY.out HQ.out (by omega)).mono ?_
    rintro e w2 ⟨B1, d1, rfl, H2, hb2⟩
    have hB2 := Lib.hid (step_below hB1.out hb2)
    have H1' := Lib.hid (H1.out.into hb2)
    clear hb2 hc0 hc1 hf0 hf1 hs hB1 H1
    have HC : Hid (cmpI a b = cmpN x y) := by
      have h1 := SA.out
      have h2 := SB.out
      rw [← h1, ← h2]
      exact cmpI_nat x y
    go_wp2_with fail
    refine (compare_any _ _ _ _ x y _ H1'.out.mem.2.2 H2.out.mem.2.2 hla hlb).mono ?_
    rintro e w2' ⟨rfl, nd, rfl⟩
    have HD := Lib.hid (step_below HW.out (step_below hB2.out (below_drewN w2 nd)))
    rw [← HC.out]
    go_wp2
    go_ret
    exact ⟨rfl, HD.out⟩
  · have HH := Lib.hid (heap2 w (.cells #[.bool false, .slice A (len x) c] 27) (.cells #[.bool true, .slice B (len y) d] 27))
    have HW := Lib.hid (below2 w (.cells #[.bool false, .slice A (len x) c] 27) (.cells #[.bool true, .slice B (len y) d] 27))
    go_enter Tryd.func26, Tryd.ntmps26
    go_wp2_with fail
    generalize (w.alloc (.cells #[.bool false, .slice A (len x) c] 27)).alloc (.cells #[.bool true, .slice B (len y) d] 27) = W at *
    refine (parts_is _ a x false _ (HIA.out.into HW.out) HX.out HP.out (by omega)).mono ?_
    rintro e w1 ⟨A1, c1, rfl, H1, hb1⟩
    have hB1 := Lib.hid hb1
    obtain ⟨hc0, hc1, hf0, hf1, hs⟩ := box_in HH.out.2 hb1
    clear hb1
    go_wp2_with fail
    refine (parts_is _ b y true _ (HIB.out.into (step_below HW.out hB1.out)) HY.out HQ.out (by omega)).mono ?_
    rintro e w2 ⟨B1, d1, rfl, H2, hb2⟩
    have hB2 := Lib.hid (step_below hB1.out hb2)
    have H1' := Lib.hid (H1.out.into hb2)
    clear hb2 hc0 hc1 hf0 hf1 hs hB1 H1
    have HC : Hid (cmpI a b = 1) := cmpI_gt (by have := of_decide_eq_false HP.out; have := of_decide_eq_true HQ.out; omega)
    have HD := Lib.hid (step_below HW.out hB2.out)
    go_wp2
    go_ret
    rw [HC.out]
    exact ⟨rfl, HD.out⟩
  · have HH := Lib.hid (heap2 w (.cells #[.bool true, .slice A (len x) c] 27) (.cells #[.bool false, .slice B (len y) d] 27))
    have HW := Lib.hid (below2 w (.cells #[.bool true, .slice A (len x) c] 27) (.cells #[.bool false, .slice B (len y) d] 27))
    go_enter Tryd.func26, Tryd.ntmps26
    go_wp2_with fail
    generalize (w.alloc (.cells #[.bool true, .slice A (len x) c] 27)).alloc (.cells #[.bool false, .slice B (len y) d] 27) = W at *
    refine (parts_is _ a x true _ (HIA.out.into HW.out) HX.out HP.out (by omega)).mono ?_
    rintro e w1 ⟨A1, c1, rfl, H1, hb1⟩
    have hB1 := Lib.hid hb1
    obtain ⟨hc0, hc1, hf0, hf1, hs⟩ := box_in HH.out.2 hb1
    clear hb1
    go_wp2_with fail
    refine (parts_is _ b y false _ (HIB.out.into (step_below HW.out hB1.out)) HY.out HQ.out (by omega)).mono ?_
    rintro e w2 ⟨B1, d1, rfl, H2, hb2⟩
    have hB2 := Lib.hid (step_below hB1.out hb2)
    have H1' := Lib.hid (H1.out.into hb2)
    clear hb2 hc0 hc1 hf0 hf1 hs hB1 H1
    have HC : Hid (cmpI a b = -1) := cmpI_lt (by have := of_decide_eq_true HP.out; have := of_decide_eq_false HQ.out; omega)
    have HD := Lib.hid (step_below HW.out hB2.out)
    go_wp2
    go_ret
    rw [HC.out]
    exact ⟨rfl, HD.out⟩
  · have HH := Lib.hid (heap2 w (.cells #[.bool true, .slice A (len x) c] 27) (.cells #[.bool true, .slice B (len y) d] 27))
    have HW := Lib.hid (below2 w (.cells #[.bool true, .slice A (len x) c] 27) (.cells #[.bool true, .slice B (len y) d] 27))
    go_enter Tryd.func26, Tryd.ntmps26
    go_wp2_with fail
    generalize (w.alloc (.cells #[.bool true, .slice A (len x) c] 27)).alloc (.cells #[.bool true, .slice B (len y) d] 27) = W at *
    refine (parts_is _ a x true _ (HIA.out.into HW.out) HX.out HP.out (by omega)).mono ?_
    rintro e w1 ⟨A1, c1, rfl, H1, hb1⟩
    have hB1 := Lib.hid hb1
    obtain ⟨hc0, hc1, hf0, hf1, hs⟩ := box_in HH.out.2 hb1
    clear hb1
    go_wp2_with fail
    refine (parts_is _ b y true _ (HIB.out.into (step_below HW.out hB1.out)) HY.out HQ.out (by omega)).mono ?_
    rintro e w2 ⟨B1, d1, rfl, H2, hb2⟩
    have hB2 := Lib.hid (step_below hB1.out hb2)
    have H1' := Lib.hid (H1.out.into hb2)
    clear hb2 hc0 hc1 hf0 hf1 hs hB1 H1
    have HC : Hid (cmpI a b = cmpN y x) := by
      have h1 := SA.out
      have h2 := SB.out
      rw [← h1, ← h2]
      exact cmpI_neg x y
    go_wp2_with fail
    refine (compare_any _ _ _ _ y x _ H2.out.mem.2.2 H1'.out.mem.2.2 hlb hla).mono ?_
    rintro e w2' ⟨rfl, nd, rfl⟩
    have HD := Lib.hid (step_below HW.out (step_below hB2.out (below_drewN w2 nd)))
    rw [← HC.out]
    go_wp2
    go_ret
    exact ⟨rfl, HD.out⟩
end Go.Proofs.YtjajmonhcnmidaaDoor
