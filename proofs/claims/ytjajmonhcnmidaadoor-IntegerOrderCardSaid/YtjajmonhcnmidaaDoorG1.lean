/- Walks: wordDivisor; divisor on at most two limbs; Gcd, wherever divisor is right. -/
import Derived.Test.YtjajmonhcnmidaaDoorD1
namespace Go.Proofs.YtjajmonhcnmidaaDoor
open Go.RowKit

set_option maxHeartbeats 1000000 in
theorem wordDivisor_any (x y : Nat) (w : World) (hx : x < 18446744073709551616) (hy : y < 18446744073709551616) :
    Calls Tryd.prog 70 #[.int .u64 x, .int .u64 y] w fun e w' => e = .returned (.int .u64 (Nat.gcd x y : Nat)) ∧ Below w.heap.size w w' := by
  go_enter Tryd.func70, Tryd.ntmps70
  go_wp2_with fail
  go_loopw [0, 1] (fun a b wr => ∃ p q : Nat, a = .int .u64 p ∧ b = .int .u64 q ∧ p < 18446744073709551616 ∧ q < 18446744073709551616 ∧ Nat.gcd p q = Nat.gcd x y ∧ Below w.heap.size w wr) (fun _ b _ => (intOf b).toNat)
  case atStart => exact ⟨x, y, rfl, rfl, hx, hy, rfl, Below.refl _ _⟩
  case round =>
    obtain ⟨p, q, rfl, rfl, hp, hq, hg, hb⟩ := hrel
    have HG := Lib.hid hg
    clear hg
    rcases Nat.eq_zero_or_pos q with h0 | h0
    · subst h0
      have hgp : Nat.gcd p 0 = p := Nat.gcd_zero_right p
      have hg' := HG.out
      rw [hgp] at hg'
      have HG' := Lib.hid hg'
      clear hgp hg'
      go_wp2
      go_ret
      rw [← HG'.out]
      exact ⟨rfl, hb⟩
    · have ht : ((q : Int) != 0) = true := by simp; omega
      have hn : ¬ q = 0 := by omega
      have hwr : (p : Int).tmod (q : Int) = ((p % q : Nat) : Int) := rfl
      have hlt : p % q < q := Nat.mod_lt _ h0
      go_wp2_with fail
      go_quiet (fail)
      go_wp2_with fail
      go_roundw
      case rel => exact ⟨q, p % q, rfl, by first | rfl | go_num, hq, by omega, by rw [← HG.out, Nat.gcd_comm p q, Nat.gcd_rec q p, Nat.gcd_comm], by exact ⟨hb.os, hb.tape, hb.output, hb.size, hb.block⟩⟩
      case measure => simp [intOf]; omega

set_option maxHeartbeats 1600000 in
theorem divisor_small (va vb : Value) (x y : Nat) (w : World) (ha : NatAt w va x) (hb : NatAt w vb y) (hx : x < 18446744073709551616) (hy : y < 18446744073709551616) :
    Calls Tryd.prog 55 #[va, vb] w (GivesNat (Nat.gcd x y) w) := by
  obtain ⟨A, c, rfl, HA⟩ := ha.open_
  obtain ⟨B, d, rfl, HB⟩ := hb.open_
  have hlx := len_le_two hx
  have hly := len_le_two hy
  clear ha hb
  go_enter Tryd.func55, Tryd.ntmps55
  go_wp2_with fail
  refine (compare_b _ _ _ _ x y _ HA.out HB.out (by omega) (by omega)).mono ?_
  rintro e w1 ⟨rfl, hb1⟩
  have HB1 := Lib.hid hb1
  clear hb1
  rcases Nat.lt_or_ge x y with hlt | hge
  · rw [cmpN_lt hlt]
    go_wp2_with fail
    go_loopw [0, 1] (fun a b wr => a = .slice B (len y) d ∧ b = .slice A (len x) c ∧ Below w.heap.size w wr) (fun _ _ _ => 0)
    case atStart => exact ⟨rfl, rfl, HB1.out⟩
    case round =>
      obtain ⟨rfl, rfl, hbr⟩ := hrel
      have HBR := Lib.hid hbr
      clear hbr
      have hgt : decide (2 < (len x : Int)) = false := by simp; omega
      rcases Nat.eq_zero_or_pos x with h0 | h0
      · have hq0 : ((len x : Int) == 0) = true := by rw [h0, len_zero]; rfl
        have HG : Hid (Nat.gcd x y = y) := by rw [h0]; exact Nat.gcd_zero_left y
        have HN : Hid (NatAt wr (.slice B (len y) d) y) := HB.out.into HBR.out
        clear h0
        go_wp2
        go_ret
        rw [HG.out]
        exact ⟨_, rfl, HN.out, HBR.out⟩
      · have hq0 : ((len x : Int) == 0) = false := by
          have : len x ≠ 0 := fun h => by have := len_eq_zero.1 h; omega
          simp; omega
        have hr := Nat.mod_lt y h0
        go_wp2_with fail
        refine (divide_small _ _ y x _ (HB.out.into HBR.out) (HA.out.into HBR.out) h0 (by omega) (by omega)).mono ?_
        rintro e w2 ⟨vq, vr, rfl, hvq, hvr, hb2⟩
        obtain ⟨A2, c2, rfl, H2⟩ := hvr.open_
        have HB2 := Lib.hid (step_below HBR.out hb2)
        clear hvq hvr hb2
        go_wp2_with fail
        refine (toWord_any A c x _ (HA.out.into HB2.out).mem.2.2 (by omega)).mono ?_
        rintro e w3 ⟨rfl, rfl⟩
        go_wp2_with fail
        refine (toWord_any A2 c2 (y % x) _ H2.out.mem.2.2 (by omega)).mono ?_
        rintro e w3 ⟨rfl, rfl⟩
        go_wp2_with fail
        refine (wordDivisor_any x (y % x) _ (by omega) (by omega)).mono ?_
        rintro e w3 ⟨rfl, hb3⟩
        have HB3 := Lib.hid (step_below HB2.out hb3)
        clear hb3
        go_wp2_with fail
        refine (fromWord_any (Nat.gcd x (y % x)) _ (by have := Nat.gcd_le_left (y % x) h0; omega)).mono ?_
        rintro e w4 ⟨v4, rfl, hv4, hb4⟩
        have HB4 := Lib.hid (step_below HB3.out hb4)
        obtain ⟨A4, c4, rfl, H4⟩ := hv4.open_
        have HG : Hid (Nat.gcd x y = Nat.gcd x (y % x)) := by
          rw [Nat.gcd_rec x y, Nat.gcd_comm]; exact rfl
        clear hb4 hv4
        generalize Nat.gcd x (y % x) = g at *
        go_wp2
        go_ret
        rw [HG.out]
        exact ⟨_, rfl, H4.out, HB4.out⟩
  · obtain ⟨v, hc, hv0⟩ : ∃ v : Int, cmpN x y = v ∧ 0 ≤ v := ⟨_, rfl, by rcases Nat.lt_or_ge y x with h | h; rw [cmpN_gt h]; omega; rw [cmpN_eq (by omega)]; omega⟩
    rw [hc]
    clear hc
    have hv2 : decide (v < 0) = false := by simp; omega
    go_wp2_with fail
    go_loopw [0, 1] (fun a b wr => a = .slice A (len x) c ∧ b = .slice B (len y) d ∧ Below w.heap.size w wr) (fun _ _ _ => 0)
    case atStart => exact ⟨rfl, rfl, HB1.out⟩
    case round =>
      obtain ⟨rfl, rfl, hbr⟩ := hrel
      have HBR := Lib.hid hbr
      clear hbr
      have hgt : decide (2 < (len y : Int)) = false := by simp; omega
      rcases Nat.eq_zero_or_pos y with h0 | h0
      · have hq0 : ((len y : Int) == 0) = true := by rw [h0, len_zero]; rfl
        have HG : Hid (Nat.gcd x y = x) := by rw [h0]; exact Nat.gcd_zero_right x
        have HN : Hid (NatAt wr (.slice A (len x) c) x) := HA.out.into HBR.out
        clear h0
        go_wp2
        go_ret
        rw [HG.out]
        exact ⟨_, rfl, HN.out, HBR.out⟩
      · have hq0 : ((len y : Int) == 0) = false := by
          have : len y ≠ 0 := fun h => by have := len_eq_zero.1 h; omega
          simp; omega
        have hr := Nat.mod_lt x h0
        go_wp2_with fail
        refine (divide_small _ _ x y _ (HA.out.into HBR.out) (HB.out.into HBR.out) h0 (by omega) (by omega)).mono ?_
        rintro e w2 ⟨vq, vr, rfl, hvq, hvr, hb2⟩
        obtain ⟨A2, c2, rfl, H2⟩ := hvr.open_
        have HB2 := Lib.hid (step_below HBR.out hb2)
        clear hvq hvr hb2
        go_wp2_with fail
        refine (toWord_any B d y _ (HB.out.into HB2.out).mem.2.2 (by omega)).mono ?_
        rintro e w3 ⟨rfl, rfl⟩
        go_wp2_with fail
        refine (toWord_any A2 c2 (x % y) _ H2.out.mem.2.2 (by omega)).mono ?_
        rintro e w3 ⟨rfl, rfl⟩
        go_wp2_with fail
        refine (wordDivisor_any y (x % y) _ (by omega) (by omega)).mono ?_
        rintro e w3 ⟨rfl, hb3⟩
        have HB3 := Lib.hid (step_below HB2.out hb3)
        clear hb3
        go_wp2_with fail
        refine (fromWord_any (Nat.gcd y (x % y)) _ (by have := Nat.gcd_le_left (x % y) h0; omega)).mono ?_
        rintro e w4 ⟨v4, rfl, hv4, hb4⟩
        have HB4 := Lib.hid (step_below HB3.out hb4)
        obtain ⟨A4, c4, rfl, H4⟩ := hv4.open_
        have HG : Hid (Nat.gcd x y = Nat.gcd y (x % y)) := by
          rw [Nat.gcd_comm x y, Nat.gcd_rec y x, Nat.gcd_comm]; exact rfl
        clear hb4 hv4
        generalize Nat.gcd y (x % y) = g at *
        go_wp2
        go_ret
        rw [HG.out]
        exact ⟨_, rfl, H4.out, HB4.out⟩


set_option maxHeartbeats 1600000 in
theorem Gcd_from (va vb : Value) (a b : Int) (w : World) (ha : IntAt w va a) (hb : IntAt w vb b) (hla : len a.natAbs ≤ 1099511627776) (hlb : len b.natAbs ≤ 1099511627776)
    (hD : ∀ (u v : Value) (W : World), NatAt W u a.natAbs → NatAt W v b.natAbs → Calls Tryd.prog 55 #[u, v] W (GivesNat (Nat.gcd a.natAbs b.natAbs) W)) :
    Calls Tryd.prog 33 #[va, vb] w (GivesInt (Nat.gcd a.natAbs b.natAbs : Nat) w) := by
  obtain ⟨x, hx⟩ : ∃ n, a.natAbs = n := ⟨_, rfl⟩
  obtain ⟨y, hy⟩ : ∃ n, b.natAbs = n := ⟨_, rfl⟩
  obtain ⟨p, hp⟩ : ∃ s, decide (a < 0) = s := ⟨_, rfl⟩
  obtain ⟨q, hq⟩ : ∃ s, decide (b < 0) = s := ⟨_, rfl⟩
  have sa := sgn_of a
  have sb := sgn_of b
  rw [hx, hp] at sa
  rw [hy, hq] at sb
  rw [hx] at hla hD
  rw [hy] at hlb hD
  rw [hx, hy]
  have HDD := Lib.hid hD
  clear hD
  obtain ⟨A, c, rfl, HA⟩ := ha.parts_ hx hp
  obtain ⟨B, d, rfl, HB⟩ := hb.parts_ hy hq
  have HIA := Lib.hid (IntAt.back HA.out hx hp)
  have HIB := Lib.hid (IntAt.back HB.out hy hq)
  have HX := Lib.hid hx
  have HY := Lib.hid hy
  have HP := Lib.hid hp
  have HQ := Lib.hid hq
  have SA := Lib.hid sa
  have SB := Lib.hid sb
  clear hx hy hp hq ha hb HA HB sa sb
  have HH := Lib.hid (heap3 w (.cells #[.bool p, .slice A (len x) c] 27) (.cells #[.bool q, .slice B (len y) d] 27) (.cells #[.bool false, .slice none 0 0] 27))
  have HW := Lib.hid (below3 w (.cells #[.bool p, .slice A (len x) c] 27) (.cells #[.bool q, .slice B (len y) d] 27) (.cells #[.bool false, .slice none 0 0] 27))
  go_enter Tryd.func33, Tryd.ntmps33
  go_wp2_with fail
  generalize ((w.alloc (.cells #[.bool p, .slice A (len x) c] 27)).alloc (.cells #[.bool q, .slice B (len y) d] 27)).alloc (.cells #[.bool false, .slice none 0 0] 27) = W at *
  refine (parts_is _ a x p _ (HIA.out.into HW.out) HX.out HP.out (by omega)).mono ?_
  rintro e w1 ⟨A1, c1, rfl, H1, hb1⟩
  have hB1 := Lib.hid hb1
  obtain ⟨hc0, hc1, hf0, hf1, hs⟩ := box_in HH.out.2.1 hb1
  clear hb1
  go_wp2_with fail
  refine (parts_is _ b y q _ (HIB.out.into (step_below HW.out hB1.out)) HY.out HQ.out (by omega)).mono ?_
  rintro e w2 ⟨B1, d1, rfl, H2, hb2⟩
  have hB2 := Lib.hid (step_below hB1.out hb2)
  have H1' := Lib.hid (H1.out.into hb2)
  clear hb2 hc0 hc1 hf0 hf1 hs hB1 H1
  go_wp2_with fail
  refine (HDD.out _ _ _ H1'.out H2.out).mono ?_
  rintro e w3 ⟨v3, rfl, hv3, hb3⟩
  have hB3 := Lib.hid (step_below hB2.out hb3)
  clear hb3 hB2
  go_wp2_with fail
  refine (build_any false v3 (Nat.gcd x y) _ hv3 (by
    rcases Nat.eq_zero_or_pos x with h | h
    · rw [h, Nat.gcd_zero_left]; omega
    · have := len_mono (Nat.gcd_le_left y h); omega)).mono ?_
  rintro e w4 ⟨v4, rfl, hv4, hb4⟩
  obtain ⟨b', A', k', c', rfl, H'⟩ := hv4.open_
  have hb := step_below hB3.out hb4
  obtain ⟨hc0, hc1, hf0, hf1, hs⟩ := box_in HH.out.2.2 hb
  have HE := Lib.hid (box_end (x' := .bool b') (y' := .slice A' k' c') HH.out.2.2 hb H'.out HW.out (by omega))
  clear hb hb4
  go_wp2
  refine bodyPost_ret (v := .agg #[.bool b', .slice A' k' c']) (by simp [results, Tryd.results33, go_sem, hs, hc0, hc1]) rfl ⟨_, rfl, HE.out.1, HE.out.2⟩

theorem Gcd_small (va vb : Value) (a b : Int) (w : World) (ha : IntAt w va a) (hb : IntAt w vb b) (hx : a.natAbs < 18446744073709551616) (hy : b.natAbs < 18446744073709551616) :
    Calls Tryd.prog 33 #[va, vb] w (GivesInt (Nat.gcd a.natAbs b.natAbs : Nat) w) :=
  Gcd_from va vb a b w ha hb (by have := len_le_two hx; omega) (by have := len_le_two hy; omega) fun u v W hu hv => divisor_small u v _ _ W hu hv hx hy
end Go.Proofs.YtjajmonhcnmidaaDoor
