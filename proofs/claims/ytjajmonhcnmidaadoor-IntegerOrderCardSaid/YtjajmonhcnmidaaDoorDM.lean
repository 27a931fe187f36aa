/- Walks: DivMod, wherever divide is right. -/
import Derived.Test.YtjajmonhcnmidaaDoorDM0
namespace Go.Proofs.YtjajmonhcnmidaaDoor
open Go.RowKit

set_option maxHeartbeats 3200000 in
theorem DivMod_from (va vb : Value) (a b : Int) (w : World) (ha : IntAt w va a) (hb : IntAt w vb b) (hla : len a.natAbs ≤ 549755813888) (hlb : len b.natAbs ≤ 549755813888) (hb0 : b ≠ 0)
    (hD : ∀ (u v : Value) (W : World), NatAt W u a.natAbs → NatAt W v b.natAbs → Calls Tryd.prog 54 #[u, v] W (GivesDiv (a.natAbs / b.natAbs) (a.natAbs % b.natAbs) W)) :
    Calls Tryd.prog 31 #[va, vb] w (GivesDM (a / b) (a % b) 0 w) := by
  have hy0 : 0 < b.natAbs := by omega
  obtain ⟨x, hx⟩ : ∃ n, a.natAbs = n := ⟨_, rfl⟩
  obtain ⟨y, hy⟩ : ∃ n, b.natAbs = n := ⟨_, rfl⟩
  obtain ⟨p, hp⟩ : ∃ s, decide (a < 0) = s := ⟨_, rfl⟩
  obtain ⟨q, hq⟩ : ∃ s, decide (b < 0) = s := ⟨_, rfl⟩
  have sa := sgn_of a
  have sb := sgn_of b
  rw [hx, hp] at sa
  rw [hy, hq] at sb
  rw [hx] at hla hD
  rw [hy] at hlb hD hy0
  have HDD := Lib.hid hD
  clear hD hb0
  obtain ⟨A, c, rfl, HA⟩ := ha.parts_ hx hp
  obtain ⟨B, d, rfl, HB⟩ := hb.parts_ hy hq
  have HIA := Lib.hid (IntAt.back HA.out hx hp)
  have HIB := Lib.hid (IntAt.back HB.out hy hq)
  have HX := Lib.hid hx
  have HY := Lib.hid hy
  have HP := Lib.hid hp
  have HQ := Lib.hid hq
  have SA := Lib.hid sa
  have SB := Lib.hid sb
  clear hx hy hp hq ha hb HA HB sa sb
  cases p <;> cases q
  · have HH := Lib.hid (heap4 w (.cells #[.bool false, .slice A (len x) c] 27) (.cells #[.bool false, .slice B (len y) d] 27) (.cells #[.bool false, .slice none 0 0] 27) (.cells #[.bool false, .slice none 0 0] 27))
    have HW := Lib.hid (below4 w (.cells #[.bool false, .slice A (len x) c] 27) (.cells #[.bool false, .slice B (len y) d] 27) (.cells #[.bool false, .slice none 0 0] 27) (.cells #[.bool false, .slice none 0 0] 27))
    go_enter Tryd.func31, Tryd.ntmps31
    go_wp2_with fail
    generalize (((w.alloc (.cells #[.bool false, .slice A (len x) c] 27)).alloc (.cells #[.bool false, .slice B (len y) d] 27)).alloc (.cells #[.bool false, .slice none 0 0] 27)).alloc (.cells #[.bool false, .slice none 0 0] 27) = W at *
    refine (parts_is _ a x false _ (HIA.out.into HW.out) HX.out HP.out (by omega)).mono ?_
    rintro e w1 ⟨A1, c1, rfl, H1, hb1⟩
    have hB1 := Lib.hid hb1
    obtain ⟨hc0, hc1, hf0, hf1, hs⟩ := box_in HH.out.2.1 hb1
    clear hb1
    go_wp2_with fail
    refine (parts_is _ b y false _ (HIB.out.into (step_below HW.out hB1.out)) HY.out HQ.out (by omega)).mono ?_
    rintro e w2 ⟨B1, d1, rfl, H2, hb2⟩
    have hB2 := Lib.hid (step_below hB1.out hb2)
    have H1' := Lib.hid (H1.out.into hb2)
    clear hb2 hc0 hc1 hf0 hf1 hs hB1 H1
    have hle : len (x / y) ≤ len x := len_mono (Nat.div_le_self x y)
    have hle2 : len (x % y) ≤ len y := len_mono (Nat.le_of_lt (Nat.mod_lt x hy0))
    have hyn : ((len y : Int) == 0) = false := by
      have : len y ≠ 0 := fun h => by have := len_eq_zero.1 h; omega
      simp; omega
    go_wp2_with fail
    refine (HDD.out _ _ _ H1'.out H2.out).mono ?_
    rintro e w3 ⟨vq, vr, rfl, hvq, hvr, hb3⟩
    obtain ⟨Aq, cq, rfl, Hq⟩ := hvq.open_
    obtain ⟨Ar, cr, rfl, Hr⟩ := hvr.open_
    have H2' := Lib.hid (H2.out.into hb3)
    have hB3 := Lib.hid (step_below hB2.out hb3)
    clear hb3 hvq hvr hB2
    go_wp2_with fail
    refine (build_any false _ (x / y) _ Hq.out (by first | omega | (have := len_add (x / y) 1; have := len_le_one (show 1 < 4294967296 by decide); omega))).mono ?_
    rintro e w5 ⟨v5, rfl, hv5, hb5⟩
    rw [show sgn false (x / y) = a / b from (dm_false_false SA.out SB.out hy0).1] at hv5
    obtain ⟨b5, A5, k5, c5, rfl, H5⟩ := hv5.open_
    have HR5 := Lib.hid (Hr.out.into hb5)
    have hB5 := Lib.hid (step_below hB3.out hb5)
    clear hb5 hv5
    go_wp2_with fail
    refine (build_any false _ (x % y) _ HR5.out (by omega)).mono ?_
    rintro e w6 ⟨v6, rfl, hv6, hb6⟩
    rw [show sgn false (x % y) = a % b from (dm_false_false SA.out SB.out hy0).2] at hv6
    obtain ⟨b6, A6, k6, c6, rfl, H6⟩ := hv6.open_
    have H5' := Lib.hid (H5.out.into hb6)
    have hB6 := step_below hB5.out hb6
    obtain ⟨hc0, hc1, hf0, hf1, hs⟩ := box_in HH.out.2.2.1 hB6
    obtain ⟨gc0, gc1, gf0, gf1, gs⟩ := box_in HH.out.2.2.2 hB6
    have HE := Lib.hid (box_end2 (x' := .bool b5) (y' := .slice A5 k5 c5) (x'' := .bool b6) (y'' := .slice A6 k6 c6) HH.out.2.2.1 HH.out.2.2.2 hB6 H5'.out H6.out HW.out (by omega) (by omega))
    clear hB6 hb6 hv6
    go_wp2
    refine bodyPost_ret (v := .tuple #[.agg #[.bool b5, .slice A5 k5 c5], .agg #[.bool b6, .slice A6 k6 c6], .int .i64 0]) (by simp [results, Tryd.results31, go_sem, hs, hc0, hc1, gs, gc0, gc1]) rfl ⟨_, _, rfl, HE.out.1, HE.out.2.1, HE.out.2.2⟩
  · have HH := Lib.hid (heap4 w (.cells #[.bool false, .slice A (len x) c] 27) (.cells #[.bool true, .slice B (len y) d] 27) (.cells #[.bool false, .slice none 0 0] 27) (.cells #[.bool false, .slice none 0 0] 27))
    have HW := Lib.hid (below4 w (.cells #[.bool false, .slice A (len x) c] 27) (.cells #[.bool true, .slice B (len y) d] 27) (.cells #[.bool false, .slice none 0 0] 27) (.cells #[.bool false, .slice none 0 0] 27))
    go_enter Tryd.func31, Tryd.ntmps31
    go_wp2_with fail
    generalize (((w.alloc (.cells #[.bool false, .slice A (len x) c] 27)).alloc (.cells #[.bool true, .slice B (len y) d] 27)).alloc (.cells #[.bool false, .slice none 0 0] 27)).alloc (.cells #[.bool false, .slice none 0 0] 27) = W at *
    refine (parts_is _ a x false _ (HIA.out.into HW.out) HX.out HP.out (by omega)).mono ?_
    rintro e w1 ⟨A1, c1, rfl, H1, hb1⟩
    have hB1 := Lib.hid hb1
    obtain ⟨hc0, hc1, hf0, hf1, hs⟩ := box_in HH.out.2.1 hb1
    clear hb1
    go_wp2_with fail
    refine (parts_is _ b y true _ (HIB.out.into (step_below HW.out hB1.out)) HY.out HQ.out (by omega)).mono ?_
    rintro e w2 ⟨B1, d1, rfl, H2, hb2⟩
    have hB2 := Lib.hid (step_below hB1.out hb2)
    have H1' := Lib.hid (H1.out.into hb2)
    clear hb2 hc0 hc1 hf0 hf1 hs hB1 H1
    have hle : len (x / y) ≤ len x := len_mono (Nat.div_le_self x y)
    have hle2 : len (x % y) ≤ len y := len_mono (Nat.le_of_lt (Nat.mod_lt x hy0))
    have hyn : ((len y : Int) == 0) = false := by
      have : len y ≠ 0 := fun h => by have := len_eq_zero.1 h; omega
      simp; omega
    go_wp2_with fail
    refine (HDD.out _ _ _ H1'.out H2.out).mono ?_
    rintro e w3 ⟨vq, vr, rfl, hvq, hvr, hb3⟩
    obtain ⟨Aq, cq, rfl, Hq⟩ := hvq.open_
    obtain ⟨Ar, cr, rfl, Hr⟩ := hvr.open_
    have H2' := Lib.hid (H2.out.into hb3)
    have hB3 := Lib.hid (step_below hB2.out hb3)
    clear hb3 hvq hvr hB2
    go_wp2_with fail
    refine (build_any true _ (x / y) _ Hq.out (by first | omega | (have := len_add (x / y) 1; have := len_le_one (show 1 < 4294967296 by decide); omega))).mono ?_
    rintro e w5 ⟨v5, rfl, hv5, hb5⟩
    rw [show sgn true (x / y) = a / b from (dm_false_true SA.out SB.out hy0).1] at hv5
    obtain ⟨b5, A5, k5, c5, rfl, H5⟩ := hv5.open_
    have HR5 := Lib.hid (Hr.out.into hb5)
    have hB5 := Lib.hid (step_below hB3.out hb5)
    clear hb5 hv5
    go_wp2_with fail
    refine (build_any false _ (x % y) _ HR5.out (by omega)).mono ?_
    rintro e w6 ⟨v6, rfl, hv6, hb6⟩
    rw [show sgn false (x % y) = a % b from (dm_false_true SA.out SB.out hy0).2] at hv6
    obtain ⟨b6, A6, k6, c6, rfl, H6⟩ := hv6.open_
    have H5' := Lib.hid (H5.out.into hb6)
    have hB6 := step_below hB5.out hb6
    obtain ⟨hc0, hc1, hf0, hf1, hs⟩ := box_in HH.out.2.2.1 hB6
    obtain ⟨gc0, gc1, gf0, gf1, gs⟩ := box_in HH.out.2.2.2 hB6
    have HE := Lib.hid (box_end2 (x' := .bool b5) (y' := .slice A5 k5 c5) (x'' := .bool b6) (y'' := .slice A6 k6 c6) HH.out.2.2.1 HH.out.2.2.2 hB6 H5'.out H6.out HW.out (by omega) (by omega))
    clear hB6 hb6 hv6
    go_wp2
    refine bodyPost_ret (v := .tuple #[.agg #[.bool b5, .slice A5 k5 c5], .agg #[.bool b6, .slice A6 k6 c6], .int .i64 0]) (by simp [results, Tryd.results31, go_sem, hs, hc0, hc1, gs, gc0, gc1]) rfl ⟨_, _, rfl, HE.out.1, HE.out.2.1, HE.out.2.2⟩
  · have HH := Lib.hid (heap4 w (.cells #[.bool true, .slice A (len x) c] 27) (.cells #[.bool false, .slice B (len y) d] 27) (.cells #[.bool false, .slice none 0 0] 27) (.cells #[.bool false, .slice none 0 0] 27))
    have HW := Lib.hid (below4 w (.cells #[.bool true, .slice A (len x) c] 27) (.cells #[.bool false, .slice B (len y) d] 27) (.cells #[.bool false, .slice none 0 0] 27) (.cells #[.bool false, .slice none 0 0] 27))
    go_enter Tryd.func31, Tryd.ntmps31
    go_wp2_with fail
    generalize (((w.alloc (.cells #[.bool true, .slice A (len x) c] 27)).alloc (.cells #[.bool false, .slice B (len y) d] 27)).alloc (.cells #[.bool false, .slice none 0 0] 27)).alloc (.cells #[.bool false, .slice none 0 0] 27) = W at *
    refine (parts_is _ a x true _ (HIA.out.into HW.out) HX.out HP.out (by omega)).mono ?_
    rintro e w1 ⟨A1, c1, rfl, H1, hb1⟩
    have hB1 := Lib.hid hb1
    obtain ⟨hc0, hc1, hf0, hf1, hs⟩ := box_in HH.out.2.1 hb1
    clear hb1
    go_wp2_with fail
    refine (parts_is _ b y false _ (HIB.out.into (step_below HW.out hB1.out)) HY.out HQ.out (by omega)).mono ?_
    rintro e w2 ⟨B1, d1, rfl, H2, hb2⟩
    have hB2 := Lib.hid (step_below hB1.out hb2)
    have H1' := Lib.hid (H1.out.into hb2)
    clear hb2 hc0 hc1 hf0 hf1 hs hB1 H1
    have hle : len (x / y) ≤ len x := len_mono (Nat.div_le_self x y)
    have hle2 : len (x % y) ≤ len y := len_mono (Nat.le_of_lt (Nat.mod_lt x hy0))
    have hyn : ((len y : Int) == 0) = false := by
      have : len y ≠ 0 := fun h => by have := len_eq_zero.1 h; omega
      simp; omega
    go_wp2_with fail
    refine (HDD.out _ _ _ H1'.out H2.out).mono ?_
    rintro e w3 ⟨vq, vr, rfl, hvq, hvr, hb3⟩
    obtain ⟨Aq, cq, rfl, Hq⟩ := hvq.open_
    obtain ⟨Ar, cr, rfl, Hr⟩ := hvr.open_
    have H2' := Lib.hid (H2.out.into hb3)
    have hB3 := Lib.hid (step_below hB2.out hb3)
    clear hb3 hvq hvr hB2
    rcases Nat.eq_zero_or_pos (x % y) with hr0 | hr0
    · have hp : decide ((0 : Int) < (len (x % y) : Int)) = false := by rw [hr0, len_zero]; rfl
      have hp' : decide (0 < len (x % y)) = false := by rw [hr0, len_zero]; rfl
      have HR0 := Lib.hid hr0
      clear hr0
      go_wp2_with fail
      refine (build_any true _ (x / y) _ Hq.out (by first | omega | (have := len_add (x / y) 1; have := len_le_one (show 1 < 4294967296 by decide); omega))).mono ?_
      rintro e w5 ⟨v5, rfl, hv5, hb5⟩
      rw [show sgn true (x / y) = a / b from (dm0_true_false SA.out SB.out hy0 HR0.out).1] at hv5
      obtain ⟨b5, A5, k5, c5, rfl, H5⟩ := hv5.open_
      have HR5 := Lib.hid (Hr.out.into hb5)
      have hB5 := Lib.hid (step_below hB3.out hb5)
      clear hb5 hv5
      go_wp2_with fail
      refine (build_any false _ (x % y) _ HR5.out (by omega)).mono ?_
      rintro e w6 ⟨v6, rfl, hv6, hb6⟩
      rw [show sgn false (x % y) = a % b from (dm0_true_false SA.out SB.out hy0 HR0.out).2] at hv6
      obtain ⟨b6, A6, k6, c6, rfl, H6⟩ := hv6.open_
      have H5' := Lib.hid (H5.out.into hb6)
      have hB6 := step_below hB5.out hb6
      obtain ⟨hc0, hc1, hf0, hf1, hs⟩ := box_in HH.out.2.2.1 hB6
      obtain ⟨gc0, gc1, gf0, gf1, gs⟩ := box_in HH.out.2.2.2 hB6
      have HE := Lib.hid (box_end2 (x' := .bool b5) (y' := .slice A5 k5 c5) (x'' := .bool b6) (y'' := .slice A6 k6 c6) HH.out.2.2.1 HH.out.2.2.2 hB6 H5'.out H6.out HW.out (by omega) (by omega))
      clear hB6 hb6 hv6
      go_wp2
      refine bodyPost_ret (v := .tuple #[.agg #[.bool b5, .slice A5 k5 c5], .agg #[.bool b6, .slice A6 k6 c6], .int .i64 0]) (by simp [results, Tryd.results31, go_sem, hs, hc0, hc1, gs, gc0, gc1]) rfl ⟨_, _, rfl, HE.out.1, HE.out.2.1, HE.out.2.2⟩
    · have hp' : decide (0 < len (x % y)) = true := by
        have : len (x % y) ≠ 0 := fun h => by have := len_eq_zero.1 h; omega
        simp; omega
      have hrl := Nat.mod_lt x hy0
      go_wp2_with fail
      have hm1 := one_nat w3
      refine (sum_any _ _ (x / y) 1 _ (Hq.out.into (below_alloc _ _)) hm1 (by omega) (by have := len_le_one (show 1 < 4294967296 by decide); omega)).mono ?_
      rintro e w4 ⟨v4, rfl, hv4, hb4⟩
      obtain ⟨A4, c4, rfl, H4⟩ := hv4.open_
      have hB4 := Lib.hid (step_below hB3.out (step_below (below_alloc _ _) hb4))
      have Hr' := Lib.hid (Hr.out.into (step_below (below_alloc _ _) hb4))
      have H2'' := Lib.hid (H2'.out.into (step_below (below_alloc _ _) hb4))
      clear hb4 hv4 hm1
      go_wp2_with fail
      refine (difference_any _ _ y (x % y) _ H2''.out Hr'.out (by omega) (by omega)).mono ?_
      rintro e w4' ⟨v4', rfl, hv4', hb4'⟩
      obtain ⟨A4', c4', rfl, H4'⟩ := hv4'.open_
      have hB4' := Lib.hid (step_below hB4.out hb4')
      have H4'' := Lib.hid (H4.out.into hb4')
      have hle3 : len (y - x % y) ≤ len y := len_mono (Nat.sub_le _ _)
      clear hb4' hv4'
      go_wp2_with fail
      refine (build_any true _ (x / y + 1) _ H4''.out (by first | omega | (have := len_add (x / y) 1; have := len_le_one (show 1 < 4294967296 by decide); omega))).mono ?_
      rintro e w5 ⟨v5, rfl, hv5, hb5⟩
      rw [show sgn true (x / y + 1) = a / b from (dm1_true_false SA.out SB.out hy0 hr0).1] at hv5
      obtain ⟨b5, A5, k5, c5, rfl, H5⟩ := hv5.open_
      have HR5 := Lib.hid (H4'.out.into hb5)
      have hB5 := Lib.hid (step_below hB4'.out hb5)
      clear hb5 hv5
      go_wp2_with fail
      refine (build_any false _ (y - x % y) _ HR5.out (by omega)).mono ?_
      rintro e w6 ⟨v6, rfl, hv6, hb6⟩
      rw [show sgn false (y - x % y) = a % b from (dm1_true_false SA.out SB.out hy0 hr0).2] at hv6
      obtain ⟨b6, A6, k6, c6, rfl, H6⟩ := hv6.open_
      have H5' := Lib.hid (H5.out.into hb6)
      have hB6 := step_below hB5.out hb6
      obtain ⟨hc0, hc1, hf0, hf1, hs⟩ := box_in HH.out.2.2.1 hB6
      obtain ⟨gc0, gc1, gf0, gf1, gs⟩ := box_in HH.out.2.2.2 hB6
      have HE := Lib.hid (box_end2 (x' := .bool b5) (y' := .slice A5 k5 c5) (x'' := .bool b6) (y'' := .slice A6 k6 c6) HH.out.2.2.1 HH.out.2.2.2 hB6 H5'.out H6.out HW.out (by omega) (by omega))
      clear hB6 hb6 hv6
      go_wp2
      refine bodyPost_ret (v := .tuple #[.agg #[.bool b5, .slice A5 k5 c5], .agg #[.bool b6, .slice A6 k6 c6], .int .i64 0]) (by simp [results, Tryd.results31, go_sem, hs, hc0, hc1, gs, gc0, gc1]) rfl ⟨_, _, rfl, HE.out.1, HE.out.2.1, HE.out.2.2⟩
  · have HH := Lib.hid (heap4 w (.cells #[.bool true, .slice A (len x) c] 27) (.cells #[.bool true, .slice B (len y) d] 27) (.cells #[.bool false, .slice none 0 0] 27) (.cells #[.bool false, .slice none 0 0] 27))
    have HW := Lib.hid (below4 w (.cells #[.bool true, .slice A (len x) c] 27) (.cells #[.bool true, .slice B (len y) d] 27) (.cells #[.bool false, .slice none 0 0] 27) (.cells #[.bool false, .slice none 0 0] 27))
    go_enter Tryd.func31, Tryd.ntmps31
    go_wp2_with fail
    generalize (((w.alloc (.cells #[.bool true, .slice A (len x) c] 27)).alloc (.cells #[.bool true, .slice B (len y) d] 27)).alloc (.cells #[.bool false, .slice none 0 0] 27)).alloc (.cells #[.bool false, .slice none 0 0] 27) = W at *
    refine (parts_is _ a x true _ (HIA.out.into HW.out) HX.out HP.out (by omega)).mono ?_
    rintro e w1 ⟨A1, c1, rfl, H1, hb1⟩
    have hB1 := Lib.hid hb1
    obtain ⟨hc0, hc1, hf0, hf1, hs⟩ := box_in HH.out.2.1 hb1
    clear hb1
    go_wp2_with fail
    refine (parts_is _ b y true _ (HIB.out.into (step_below HW.out hB1.out)) HY.out HQ.out (by omega)).mono ?_
    rintro e w2 ⟨B1, d1, rfl, H2, hb2⟩
    have hB2 := Lib.hid (step_below hB1.out hb2)
    have H1' := Lib.hid (H1.out.into hb2)
    clear hb2 hc0 hc1 hf0 hf1 hs hB1 H1
    have hle : len (x / y) ≤ len x := len_mono (Nat.div_le_self x y)
    have hle2 : len (x % y) ≤ len y := len_mono (Nat.le_of_lt (Nat.mod_lt x hy0))
    have hyn : ((len y : Int) == 0) = false := by
      have : len y ≠ 0 := fun h => by have := len_eq_zero.1 h; omega
      simp; omega
    go_wp2_with fail
    refine (HDD.out _ _ _ H1'.out H2.out).mono ?_
    rintro e w3 ⟨vq, vr, rfl, hvq, hvr, hb3⟩
    obtain ⟨Aq, cq, rfl, Hq⟩ := hvq.open_
    obtain ⟨Ar, cr, rfl, Hr⟩ := hvr.open_
    have H2' := Lib.hid (H2.out.into hb3)
    have hB3 := Lib.hid (step_below hB2.out hb3)
    clear hb3 hvq hvr hB2
    rcases Nat.eq_zero_or_pos (x % y) with hr0 | hr0
    · have hp : decide ((0 : Int) < (len (x % y) : Int)) = false := by rw [hr0, len_zero]; rfl
      have hp' : decide (0 < len (x % y)) = false := by rw [hr0, len_zero]; rfl
      have HR0 := Lib.hid hr0
      clear hr0
      go_wp2_with fail
      refine (build_any false _ (x / y) _ Hq.out (by first | omega | (have := len_add (x / y) 1; have := len_le_one (show 1 < 4294967296 by decide); omega))).mono ?_
      rintro e w5 ⟨v5, rfl, hv5, hb5⟩
      rw [show sgn false (x / y) = a / b from (dm0_true_true SA.out SB.out hy0 HR0.out).1] at hv5
      obtain ⟨b5, A5, k5, c5, rfl, H5⟩ := hv5.open_
      have HR5 := Lib.hid (Hr.out.into hb5)
      have hB5 := Lib.hid (step_below hB3.out hb5)
      clear hb5 hv5
      go_wp2_with fail
      refine (build_any false _ (x % y) _ HR5.out (by omega)).mono ?_
      rintro e w6 ⟨v6, rfl, hv6, hb6⟩
      rw [show sgn false (x % y) = a % b from (dm0_true_true SA.out SB.out hy0 HR0.out).2] at hv6
      obtain ⟨b6, A6, k6, c6, rfl, H6⟩ := hv6.open_
      have H5' := Lib.hid (H5.out.into hb6)
      have hB6 := step_below hB5.out hb6
      obtain ⟨hc0, hc1, hf0, hf1, hs⟩ := box_in HH.out.2.2.1 hB6
      obtain ⟨gc0, gc1, gf0, gf1, gs⟩ := box_in HH.out.2.2.2 hB6
      have HE := Lib.hid (box_end2 (x' := .bool b5) (y' := .slice A5 k5 c5) (x'' := .bool b6) (y'' := .slice A6 k6 c6) HH.out.2.2.1 HH.out.2.2.2 hB6 H5'.out H6.out HW.out (by omega) (by omega))
      clear hB6 hb6 hv6
      go_wp2
      refine bodyPost_ret (v := .tuple #[.agg #[.bool b5, .slice A5 k5 c5], .agg #[.bool b6, .slice A6 k6 c6], .int .i64 0]) (by simp [results, Tryd.results31, go_sem, hs, hc0, hc1, gs, gc0, gc1]) rfl ⟨_, _, rfl, HE.out.1, HE.out.2.1, HE.out.2.2⟩
    · have hp' : decide (0 < len (x % y)) = true := by
        have : len (x % y) ≠ 0 := fun h => by have := len_eq_zero.1 h; omega
        simp; omega
      have hrl := Nat.mod_lt x hy0
      go_wp2_with fail
      have hm1 := one_nat w3
      refine (sum_any _ _ (x / y) 1 _ (Hq.out.into (below_alloc _ _)) hm1 (by omega) (by have := len_le_one (show 1 < 4294967296 by decide); omega)).mono ?_
      rintro e w4 ⟨v4, rfl, hv4, hb4⟩
      obtain ⟨A4, c4, rfl, H4⟩ := hv4.open_
      have hB4 := Lib.hid (step_below hB3.out (step_below (below_alloc _ _) hb4))
      have Hr' := Lib.hid (Hr.out.into (step_below (below_alloc _ _) hb4))
      have H2'' := Lib.hid (H2'.out.into (step_below (below_alloc _ _) hb4))
      clear hb4 hv4 hm1
      go_wp2_with fail
      refine (difference_any _ _ y (x % y) _ H2''.out Hr'.out (by omega) (by omega)).mono ?_
      rintro e w4' ⟨v4', rfl, hv4', hb4'⟩
      obtain ⟨A4', c4', rfl, H4'⟩ := hv4'.open_
      have hB4' := Lib.hid (step_below hB4.out hb4')
      have H4'' := Lib.hid (H4.out.into hb4')
      have hle3 : len (y - x % y) ≤ len y := len_mono (Nat.sub_le _ _)
      clear hb4' hv4'
      go_wp2_with fail
      refine (build_any false _ (x / y + 1) _ H4''.out (by first | omega | (have := len_add (x / y) 1; have := len_le_one (show 1 < 4294967296 by decide); omega))).mono ?_
      rintro e w5 ⟨v5, rfl, hv5, hb5⟩
      rw [show sgn false (x / y + 1) = a / b from (dm1_true_true SA.out SB.out hy0 hr0).1] at hv5
      obtain ⟨b5, A5, k5, c5, rfl, H5⟩ := hv5.open_
      have HR5 := Lib.hid (H4'.out.into hb5)
      have hB5 := Lib.hid (step_below hB4'.out hb5)
      clear hb5 hv5
      go_wp2_with fail
      refine (build_any false _ (y - x % y) _ HR5.out (by omega)).mono ?_
      rintro e w6 ⟨v6, rfl, hv6, hb6⟩
      rw [show sgn false (y - x % y) = a % b from (dm1_true_true SA.out SB.out hy0 hr0).2] at hv6
      obtain ⟨b6, A6, k6, c6, rfl, H6⟩ := hv6.open_
      have H5' := Lib.hid (H5.out.into hb6)
      have hB6 := step_below hB5.out hb6
      obtain ⟨hc0, hc1, hf0, hf1, hs⟩ := box_in HH.out.2.2.1 hB6
      obtain ⟨gc0, gc1, gf0, gf1, gs⟩ := box_in HH.out.2.2.2 hB6
      have HE := Lib.hid (box_end2 (x' := .bool b5) (y' := .slice A5 k5 c5) (x'' := .bool b6) (y'' := .slice A6 k6 c6) HH.out.2.2.1 HH.out.2.2.2 hB6 H5'.out H6.out HW.out (by omega) (by omega))
      clear hB6 hb6 hv6
      go_wp2
      refine bodyPost_ret (v := .tuple #[.agg #[.bool b5, .slice A5 k5 c5], .agg #[.bool b6, .slice A6 k6 c6], .int .i64 0]) (by simp [results, Tryd.results31, go_sem, hs, hc0, hc1, gs, gc0, gc1]) rfl ⟨_, _, rfl, HE.out.1, HE.out.2.1, HE.out.2.2⟩

end Go.Proofs.YtjajmonhcnmidaaDoor
