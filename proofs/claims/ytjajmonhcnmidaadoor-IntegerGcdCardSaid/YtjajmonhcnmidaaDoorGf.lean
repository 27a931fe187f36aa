/- Walks: divide on numbers of at most two limbs; DivMod, wherever divide is right. -/
import Derived.Test.YtjajmonhcnmidaaDoorGe
import Derived.Deep.DeepFit
namespace Go.Proofs.YtjajmonhcnmidaaDoor
open Go.RowKit

def GivesDiv (q r : Nat) (w : World) (e : Ending) (w' : World) : Prop := ∃ vq vr, e = .returned (.tuple #[vq, vr]) ∧ NatAt w' vq q ∧ NatAt w' vr r ∧ Below w.heap.size w w'

set_option maxHeartbeats 1000000 in
theorem divide_lt (va vb : Value) (x y : Nat) (w : World) (ha : NatAt w va x) (hb : NatAt w vb y) (hla : len x ≤ 1099511627776) (hlb : len y ≤ 1099511627776) (hlt : x < y) :
    Calls Tryd.prog 54 #[va, vb] w (GivesDiv (x / y) (x % y) w) := by
  obtain ⟨A, c, rfl, HA⟩ := ha.open_
  obtain ⟨B, d, rfl, HB⟩ := hb.open_
  have hc := cmpN_lt hlt
  have HC := Lib.hid hc
  have H0 : Hid (x / y = 0 ∧ x % y = x) := ⟨Nat.div_eq_of_lt hlt, Nat.mod_eq_of_lt hlt⟩
  clear hc
  go_enter Tryd.func54, Tryd.ntmps54
  go_wp2_with fail
  refine (compare_any _ _ _ _ x y _ HA.out.mem.2.2 HB.out.mem.2.2 hla hlb).mono ?_
  rintro e w1 ⟨rfl, k, rfl⟩
  rw [HC.out]
  go_wp2
  go_ret2
  rw [H0.out.1, H0.out.2]
  exact ⟨_, _, rfl, NatAt.zero _ _ _, HA.out.into (below_drewN w k), below_drewN w k⟩

theorem compare_b (A B : Option Addr) (c d x y : Nat) (w : World) (ha : NatAt w (.slice A (len x) c) x) (hb : NatAt w (.slice B (len y) d) y) (hx : len x ≤ 1099511627776) (hy : len y ≤ 1099511627776) :
    Calls Tryd.prog 47 #[.slice A (len x) c, .slice B (len y) d] w fun e w' => e = .returned (.int .i64 (cmpN x y)) ∧ Below w.heap.size w w' :=
  (compare_any A B c d x y w ha.mem.2.2 hb.mem.2.2 hx hy).mono fun _ _ ⟨he, k, hk⟩ => ⟨he, hk ▸ below_drewN w k⟩
theorem run_quo_u64 (T : TypeId) (x y : Nat) (W : World) (hy : 0 < y) (hx : x < 18446744073709551616) : (binOp .quo T (.int .u64 (x : Int)) (.int .u64 (y : Int))).run Tryd.prog W = .ok (.int .u64 ((x / y : Nat) : Int)) W := by
  have hn : ¬ y = 0 := by omega
  have h : x / y < 18446744073709551616 := Nat.lt_of_le_of_lt (Nat.div_le_self x y) hx
  simp [binOp, go_sem, hn]
  rw [show (x : Int) / (y : Int) = ((x / y : Nat) : Int) from rfl, wrap_u64_nat _ h]
theorem run_rem_u64 (T : TypeId) (x y : Nat) (W : World) (hy : 0 < y) : (binOp .rem T (.int .u64 (x : Int)) (.int .u64 (y : Int))).run Tryd.prog W = .ok (.int .u64 ((x % y : Nat) : Int)) W := by
  have hn : ¬ y = 0 := by omega
  simp [binOp, go_sem, hn]
  rfl

set_option maxHeartbeats 1000000 in
theorem divide_small (va vb : Value) (x y : Nat) (w : World) (ha : NatAt w va x) (hb : NatAt w vb y) (hy : 0 < y) (hle : y ≤ x) (hx : x < 18446744073709551616) :
    Calls Tryd.prog 54 #[va, vb] w (GivesDiv (x / y) (x % y) w) := by
  obtain ⟨A, c, rfl, HA⟩ := ha.open_
  obtain ⟨B, d, rfl, HB⟩ := hb.open_
  have hlx := len_le_two hx
  have hly := len_le_two (show y < 18446744073709551616 by omega)
  obtain ⟨v, hc, hv0⟩ : ∃ v : Int, cmpN x y = v ∧ 0 ≤ v := ⟨_, rfl, by rcases Nat.lt_or_ge y x with h | h; rw [cmpN_gt h]; omega; rw [cmpN_eq (by omega)]; omega⟩
  have HC := Lib.hid hc
  clear hc
  have hq : x / y < 18446744073709551616 := Nat.lt_of_le_of_lt (Nat.div_le_self x y) hx
  have hr : x % y < 18446744073709551616 := Nat.lt_of_le_of_lt (Nat.mod_le x y) hx
  go_enter Tryd.func54, Tryd.ntmps54
  go_wp2_with fail
  refine (compare_b _ _ _ _ x y _ HA.out HB.out (by omega) (by omega)).mono ?_
  rintro e w1 ⟨rfl, hb1⟩
  have HB1 := Lib.hid hb1
  clear hb1
  rw [HC.out]
  have hl2 : decide ((len x : Int) ≤ 2) = true := by simp; omega
  have hv2 : decide (v < 0) = false := by simp; omega
  go_wp2_with fail
  refine (toWord_any A c x _ (HA.out.into HB1.out).mem.2.2 hx).mono ?_
  rintro e w2 ⟨rfl, rfl⟩
  go_wp2_with fail
  refine (toWord_any B d y _ (HB.out.into HB1.out).mem.2.2 (by omega)).mono ?_
  rintro e w2 ⟨rfl, rfl⟩
  have tok : True := trivial
  have hn : ¬ y = 0 := by omega
  have hwq : IntKind.u64.wrap ((x : Int) / (y : Int)) = ((x / y : Nat) : Int) := wrap_u64_nat _ hq
  have hwr : (x : Int).tmod (y : Int) = ((x % y : Nat) : Int) := rfl
  go_wp2_with fail
  go_region_held3 (fun w' => Below w1.heap.size w1 w')
    (first | exact Below.refl _ _ | exact (Below.refl _ _).drew | exact HF1.out | exact HF1.out.drew | exact HF2.out | exact HF2.out.drew)
    (first
      | (go_at_call 53
         have tok0 := tok
         clear tok
         refine (fromWord_any (x / y) _ hq).mono ?_
         rintro e w3 ⟨v3, rfl, hv3, hb3⟩
         obtain ⟨A3, c3, rfl, H3⟩ := hv3.open_
         have HF1 : Hid (Below w1.heap.size w1 w3) := step_below (by first | exact Below.refl _ _ | exact (Below.refl _ _).drew | exact (Below.refl _ _).drew.drew) hb3
         clear hb3 hv3)
      | (go_at_call 53
         refine (fromWord_any (x % y) _ hr).mono ?_
         rintro e w4 ⟨v4, rfl, hv4, hb4⟩
         obtain ⟨A4, c4, rfl, H4⟩ := hv4.open_
         have H3' := Lib.hid (H3.out.into (by first | exact hb4 | exact (Below.refl _ _).drew.trans hb4))
         have HF2 : Hid (Below w1.heap.size w1 w4) := step_below (by first | exact HF1.out | exact HF1.out.drew | exact HF1.out.drew.drew) hb4
         clear hb4 hv4))
  go_wp2
  go_ret2
  exact ⟨_, _, rfl, H3'.out, H4.out, step_below HB1.out HF2.out⟩
end Go.Proofs.YtjajmonhcnmidaaDoor
namespace Go.Proofs.YtjajmonhcnmidaaDoor
open Go.RowKit

set_option maxHeartbeats 1000000 in
theorem wordDivisor_any (x y : Nat) (w : World) (hx : x < 18446744073709551616) (hy : y < 18446744073709551616) :
    Calls Tryd.prog 70 #[.int .u64 x, .int .u64 y] w fun e w' => e = .returned (.int .u64 (Nat.gcd x y : Nat)) ∧ Below w.heap.size w w' := by
  go_enter Tryd.func70, Tryd.ntmps70
  go_wp2_with fail
  go_loopw [0, 1] (fun a b wr => ∃ p q : Nat, a = .int .u64 p ∧ b = .int .u64 q ∧ p < 18446744073709551616 ∧ q < 18446744073709551616 ∧ Nat.gcd p q = Nat.gcd x y ∧ Below w.heap.size w wr) (fun _ b _ => (intOf b).toNat)
  case atStart => exact ⟨x, y, rfl, rfl, hx, hy, rfl, Below.refl _ _⟩
  case round =>
    obtain ⟨p, q, rfl, rfl, hp, hq, hg, hb⟩ := hrel
    have HG := Lib.hid hg
    clear hg
    rcases Nat.eq_zero_or_pos q with h0 | h0
    · subst h0
      have hgp : Nat.gcd p 0 = p := Nat.gcd_zero_right p
      have hg' := HG.out
      rw [hgp] at hg'
      have HG' := Lib.hid hg'
      clear hgp hg'
      go_wp2
      go_ret
      rw [← HG'.out]
      exact ⟨rfl, hb⟩
    · have ht : ((q : Int) != 0) = true := by simp; omega
      have hn : ¬ q = 0 := by omega
      have hwr : (p : Int).tmod (q : Int) = ((p % q : Nat) : Int) := rfl
      have hlt : p % q < q := Nat.mod_lt _ h0
      go_wp2_with fail
      go_quiet (fail)
      go_wp2_with fail
      go_roundw
      case rel => exact ⟨q, p % q, rfl, by first | rfl | go_num, hq, by omega, by rw [← HG.out, Nat.gcd_comm p q, Nat.gcd_rec q p, Nat.gcd_comm], by exact ⟨hb.os, hb.tape, hb.output, hb.size, hb.block⟩⟩
      case measure => simp [intOf]; omega

set_option maxHeartbeats 1600000 in
theorem divisor_small (va vb : Value) (x y : Nat) (w : World) (ha : NatAt w va x) (hb : NatAt w vb y) (hx : x < 18446744073709551616) (hy : y < 18446744073709551616) :
    Calls Tryd.prog 55 #[va, vb] w (GivesNat (Nat.gcd x y) w) := by
  obtain ⟨A, c, rfl, HA⟩ := ha.open_
  obtain ⟨B, d, rfl, HB⟩ := hb.open_
  have hlx := len_le_two hx
  have hly := len_le_two hy
  clear ha hb
  go_enter Tryd.func55, Tryd.ntmps55
  go_wp2_with fail
  refine (compare_b _ _ _ _ x y _ HA.out HB.out (by omega) (by omega)).mono ?_
  rintro e w1 ⟨rfl, hb1⟩
  have HB1 := Lib.hid hb1
  clear hb1
  rcases Nat.lt_or_ge x y with hlt | hge
  · rw [cmpN_lt hlt]
    go_wp2_with fail
    go_loopw [0, 1] (fun a b wr => a = .slice B (len y) d ∧ b = .slice A (len x) c ∧ Below w.heap.size w wr) (fun _ _ _ => 0)
    case atStart => exact ⟨rfl, rfl, HB1.out⟩
    case round =>
      obtain ⟨rfl, rfl, hbr⟩ := hrel
      have HBR := Lib.hid hbr
      clear hbr
      have hgt : decide (2 < (len x : Int)) = false := by simp; omega
      rcases Nat.eq_zero_or_pos x with h0 | h0
      · have hq0 : ((len x : Int) == 0) = true := by rw [h0, len_zero]; rfl
        have HG : Hid (Nat.gcd x y = y) := by rw [h0]; exact Nat.gcd_zero_left y
        have HN : Hid (NatAt wr (.slice B (len y) d) y) := HB.out.into HBR.out
        clear h0
        go_wp2
        go_ret
        rw [HG.out]
        exact ⟨_, rfl, HN.out, HBR.out⟩
      · have hq0 : ((len x : Int) == 0) = false := by
          have : len x ≠ 0 := fun h => by have := len_eq_zero.1 h; omega
          simp; omega
        have hr := Nat.mod_lt y h0
        go_wp2_with fail
        refine (divide_small _ _ y x _ (HB.out.into HBR.out) (HA.out.into HBR.out) h0 (by omega) (by omega)).mono ?_
        rintro e w2 ⟨vq, vr, rfl, hvq, hvr, hb2⟩
        obtain ⟨A2, c2, rfl, H2⟩ := hvr.open_
        have HB2 := Lib.hid (step_below HBR.out hb2)
        clear hvq hvr hb2
        go_wp2_with fail
        refine (toWord_any A c x _ (HA.out.into HB2.out).mem.2.2 (by omega)).mono ?_
        rintro e w3 ⟨rfl, rfl⟩
        go_wp2_with fail
        refine (toWord_any A2 c2 (y % x) _ H2.out.mem.2.2 (by omega)).mono ?_
        rintro e w3 ⟨rfl, rfl⟩
        go_wp2_with fail
        refine (wordDivisor_any x (y % x) _ (by omega) (by omega)).mono ?_
        rintro e w3 ⟨rfl, hb3⟩
        have HB3 := Lib.hid (step_below HB2.out hb3)
        clear hb3
        go_wp2_with fail
        refine (fromWord_any (Nat.gcd x (y % x)) _ (by have := Nat.gcd_le_left (y % x) h0; omega)).mono ?_
        rintro e w4 ⟨v4, rfl, hv4, hb4⟩
        have HB4 := Lib.hid (step_below HB3.out hb4)
        obtain ⟨A4, c4, rfl, H4⟩ := hv4.open_
        have HG : Hid (Nat.gcd x y = Nat.gcd x (y % x)) := by
          rw [Nat.gcd_rec x y, Nat.gcd_comm]; exact rfl
        clear hb4 hv4
        generalize Nat.gcd x (y % x) = g at *
        go_wp2
        go_ret
        rw [HG.out]
        exact ⟨_, rfl, H4.out, HB4.out⟩
  · obtain ⟨v, hc, hv0⟩ : ∃ v : Int, cmpN x y = v ∧ 0 ≤ v := ⟨_, rfl, by rcases Nat.lt_or_ge y x with h | h; rw [cmpN_gt h]; omega; rw [cmpN_eq (by omega)]; omega⟩
    rw [hc]
    clear hc
    have hv2 : decide (v < 0) = false := by simp; omega
    go_wp2_with fail
    go_loopw [0, 1] (fun a b wr => a = .slice A (len x) c ∧ b = .slice B (len y) d ∧ Below w.heap.size w wr) (fun _ _ _ => 0)
    case atStart => exact ⟨rfl, rfl, HB1.out⟩
    case round =>
      obtain ⟨rfl, rfl, hbr⟩ := hrel
      have HBR := Lib.hid hbr
      clear hbr
      have hgt : decide (2 < (len y : Int)) = false := by simp; omega
      rcases Nat.eq_zero_or_pos y with h0 | h0
      · have hq0 : ((len y : Int) == 0) = true := by rw [h0, len_zero]; rfl
        have HG : Hid (Nat.gcd x y = x) := by rw [h0]; exact Nat.gcd_zero_right x
        have HN : Hid (NatAt wr (.slice A (len x) c) x) := HA.out.into HBR.out
        clear h0
        go_wp2
        go_ret
        rw [HG.out]
        exact ⟨_, rfl, HN.out, HBR.out⟩
      · have hq0 : ((len y : Int) == 0) = false := by
          have : len y ≠ 0 := fun h => by have := len_eq_zero.1 h; omega
          simp; omega
        have hr := Nat.mod_lt x h0
        go_wp2_with fail
        refine (divide_small _ _ x y _ (HA.out.into HBR.out) (HB.out.into HBR.out) h0 (by omega) (by omega)).mono ?_
        rintro e w2 ⟨vq, vr, rfl, hvq, hvr, hb2⟩
        obtain ⟨A2, c2, rfl, H2⟩ := hvr.open_
        have HB2 := Lib.hid (step_below HBR.out hb2)
        clear hvq hvr hb2
        go_wp2_with fail
        refine (toWord_any B d y _ (HB.out.into HB2.out).mem.2.2 (by omega)).mono ?_
        rintro e w3 ⟨rfl, rfl⟩
        go_wp2_with fail
        refine (toWord_any A2 c2 (x % y) _ H2.out.mem.2.2 (by omega)).mono ?_
        rintro e w3 ⟨rfl, rfl⟩
        go_wp2_with fail
        refine (wordDivisor_any y (x % y) _ (by omega) (by omega)).mono ?_
        rintro e w3 ⟨rfl, hb3⟩
        have HB3 := Lib.hid (step_below HB2.out hb3)
        clear hb3
        go_wp2_with fail
        refine (fromWord_any (Nat.gcd y (x % y)) _ (by have := Nat.gcd_le_left (x % y) h0; omega)).mono ?_
        rintro e w4 ⟨v4, rfl, hv4, hb4⟩
        have HB4 := Lib.hid (step_below HB3.out hb4)
        obtain ⟨A4, c4, rfl, H4⟩ := hv4.open_
        have HG : Hid (Nat.gcd x y = Nat.gcd y (x % y)) := by
          rw [Nat.gcd_comm x y, Nat.gcd_rec y x, Nat.gcd_comm]; exact rfl
        clear hb4 hv4
        generalize Nat.gcd y (x % y) = g at *
        go_wp2
        go_ret
        rw [HG.out]
        exact ⟨_, rfl, H4.out, HB4.out⟩


set_option maxHeartbeats 1600000 in
theorem Gcd_from (va vb : Value) (a b : Int) (w : World) (ha : IntAt w va a) (hb : IntAt w vb b) (hla : len a.natAbs ≤ 1099511627776) (hlb : len b.natAbs ≤ 1099511627776)
    (hD : ∀ (u v : Value) (W : World), NatAt W u a.natAbs → NatAt W v b.natAbs → Calls Tryd.prog 55 #[u, v] W (GivesNat (Nat.gcd a.natAbs b.natAbs) W)) :
    Calls Tryd.prog 33 #[va, vb] w (GivesInt (Nat.gcd a.natAbs b.natAbs : Nat) w) := by
  obtain ⟨x, hx⟩ : ∃ n, a.natAbs = n := ⟨_, rfl⟩
  obtain ⟨y, hy⟩ : ∃ n, b.natAbs = n := ⟨_, rfl⟩
  obtain ⟨p, hp⟩ : ∃ s, decide (a < 0) = s := ⟨_, rfl⟩
  obtain ⟨q, hq⟩ : ∃ s, decide (b < 0) = s := ⟨_, rfl⟩
  have sa := sgn_of a
  have sb := sgn_of b
  rw [hx, hp] at sa
  rw [hy, hq] at sb
  rw [hx] at hla hD
  rw [hy] at hlb hD
  rw [hx, hy]
  have HDD := Lib.hid hD
  clear hD
  obtain ⟨A, c, rfl, HA⟩ := ha.parts_ hx hp
  obtain ⟨B, d, rfl, HB⟩ := hb.parts_ hy hq
  have HIA := Lib.hid (IntAt.back HA.out hx hp)
  have HIB := Lib.hid (IntAt.back HB.out hy hq)
  have HX := Lib.hid hx
  have HY := Lib.hid hy
  have HP := Lib.hid hp
  have HQ := Lib.hid hq
  have SA := Lib.hid sa
  have SB := Lib.hid sb
  clear hx hy hp hq ha hb HA HB sa sb
  have HH := Lib.hid (heap3 w (.cells #[.bool p, .slice A (len x) c] 27) (.cells #[.bool q, .slice B (len y) d] 27) (.cells #[.bool false, .slice none 0 0] 27))
  have HW := Lib.hid (below3 w (.cells #[.bool p, .slice A (len x) c] 27) (.cells #[.bool q, .slice B (len y) d] 27) (.cells #[.bool false, .slice none 0 0] 27))
  go_enter Tryd.func33, Tryd.ntmps33
  go_wp2_with fail
  generalize ((w.alloc (.cells #[.bool p, .slice A (len x) c] 27)).alloc (.cells #[.bool q, .slice B (len y) d] 27)).alloc (.cells #[.bool false, .slice none 0 0] 27) = W at *
  refine (parts_is _ a x p _ (HIA.out.into HW.out) HX.out HP.out (by omega)).mono ?_
  rintro e w1 ⟨A1, c1, rfl, H1, hb1⟩
  have hB1 := Lib.hid hb1
  obtain ⟨hc0, hc1, hf0, hf1, hs⟩ := box_in HH.out.2.1 hb1
  clear hb1
  go_wp2_with fail
  refine (parts_is _ b y q _ (HIB.out.into (step_below HW.out hB1.out)) HY.out HQ.out (by omega)).mono ?_
  rintro e w2 ⟨B1, d1, rfl, H2, hb2⟩
  have hB2 := Lib.hid (step_below hB1.out hb2)
  have H1' := Lib.hid (H1.out.into hb2)
  clear hb2 hc0 hc1 hf0 hf1 hs hB1 H1
  go_wp2_with fail
  refine (HDD.out _ _ _ H1'.out H2.out).mono ?_
  rintro e w3 ⟨v3, rfl, hv3, hb3⟩
  have hB3 := Lib.hid (step_below hB2.out hb3)
  clear hb3 hB2
  go_wp2_with fail
  refine (build_any false v3 (Nat.gcd x y) _ hv3 (by
    rcases Nat.eq_zero_or_pos x with h | h
    · rw [h, Nat.gcd_zero_left]; omega
    · have := len_mono (Nat.gcd_le_left y h); omega)).mono ?_
  rintro e w4 ⟨v4, rfl, hv4, hb4⟩
  obtain ⟨b', A', k', c', rfl, H'⟩ := hv4.open_
  have hb := step_below hB3.out hb4
  obtain ⟨hc0, hc1, hf0, hf1, hs⟩ := box_in HH.out.2.2 hb
  have HE := Lib.hid (box_end (x' := .bool b') (y' := .slice A' k' c') HH.out.2.2 hb H'.out HW.out (by omega))
  clear hb hb4
  go_wp2
  refine bodyPost_ret (v := .agg #[.bool b', .slice A' k' c']) (by simp [results, Tryd.results33, go_sem, hc0, hc1]) rfl ⟨_, rfl, HE.out.1, HE.out.2⟩

theorem Gcd_small (va vb : Value) (a b : Int) (w : World) (ha : IntAt w va a) (hb : IntAt w vb b) (hx : a.natAbs < 18446744073709551616) (hy : b.natAbs < 18446744073709551616) :
    Calls Tryd.prog 33 #[va, vb] w (GivesInt (Nat.gcd a.natAbs b.natAbs : Nat) w) :=
  Gcd_from va vb a b w ha hb (by have := len_le_two hx; omega) (by have := len_le_two hy; omega) fun u v W hu hv => divisor_small u v _ _ W hu hv hx hy
end Go.Proofs.YtjajmonhcnmidaaDoor
namespace Go.Proofs.YtjajmonhcnmidaaDoor
open Go.RowKit

theorem heap4 (w : World) (o1 o2 o3 o4 : Obj) : ((((w.alloc o1).alloc o2).alloc o3).alloc o4).heap[w.heap.size]? = some o1 ∧ ((((w.alloc o1).alloc o2).alloc o3).alloc o4).heap[w.heap.size + 1]? = some o2 ∧ ((((w.alloc o1).alloc o2).alloc o3).alloc o4).heap[w.heap.size + 2]? = some o3 ∧ ((((w.alloc o1).alloc o2).alloc o3).alloc o4).heap[w.heap.size + 3]? = some o4 :=
  ⟨(Below.heap_alloc _ _ _ (by simp; try omega)).trans (heap3 w o1 o2 o3).1, (Below.heap_alloc _ _ _ (by simp; try omega)).trans (heap3 w o1 o2 o3).2.1, (Below.heap_alloc _ _ _ (by simp; try omega)).trans (heap3 w o1 o2 o3).2.2, by have := heap1 (((w.alloc o1).alloc o2).alloc o3) o4; rwa [size_alloc', size_alloc', size_alloc'] at this⟩
theorem below4 (w : World) (o1 o2 o3 o4 : Obj) : Below w.heap.size w ((((w.alloc o1).alloc o2).alloc o3).alloc o4) := (below3 w o1 o2 o3).alloc (by simp; omega) o4
/-- The end of a function with two integers in boxes of its own. -/
theorem box_end2 {w W w1 : World} {g g2 : Nat} {x y x' y' x2 y2 x'' y'' v v2 : Value} {z z2 : Int} (hg : W.heap[g]? = some (.cells #[x, y] 27 (0, 0))) (hg2 : W.heap[g2]? = some (.cells #[x2, y2] 27 (0, 0)))
    (hb : Below W.heap.size W w1) (h : IntAt w1 v z) (h2 : IntAt w1 v2 z2) (hw : Below w.heap.size w W) (hgw : w.heap.size ≤ g) (hne2 : g < g2) :
    IntAt ((((w1.setCell ⟨g, 0, none⟩ x').setCell ⟨g, 1, none⟩ y').setCell ⟨g2, 0, none⟩ x'').setCell ⟨g2, 1, none⟩ y'') v z ∧ IntAt ((((w1.setCell ⟨g, 0, none⟩ x').setCell ⟨g, 1, none⟩ y').setCell ⟨g2, 0, none⟩ x'').setCell ⟨g2, 1, none⟩ y'') v2 z2 ∧
      Below w.heap.size w ((((w1.setCell ⟨g, 0, none⟩ x').setCell ⟨g, 1, none⟩ y').setCell ⟨g2, 0, none⟩ x'').setCell ⟨g2, 1, none⟩ y'') := by
  have lt_of : ∀ {k : Nat} {o : Obj}, W.heap[k]? = some o → k < W.heap.size := fun {k o} hk => by
    rcases Nat.lt_or_ge k W.heap.size with hlt | hge
    · exact hlt
    · rw [Array.getElem?_eq_none hge] at hk; cases hk
  have h1 : w1.heap[g]? = some (.cells #[x, y] 27 (0, 0)) := (hb.block g (lt_of hg)).trans hg
  have h1' : w1.heap[g2]? = some (.cells #[x2, y2] 27 (0, 0)) := (hb.block g2 (lt_of hg2)).trans hg2
  have hne : (27 : TypeId) ≠ 38 := by decide
  have e1 := block_setCell h1 0 x'
  have k1 : (w1.setCell ⟨g, 0, none⟩ x').heap[g2]? = some (.cells #[x2, y2] 27 (0, 0)) := (Below.heap_setCell _ _ _ _ (by simp; omega)).trans h1'
  have k2 : ((w1.setCell ⟨g, 0, none⟩ x').setCell ⟨g, 1, none⟩ y').heap[g2]? = some (.cells #[x2, y2] 27 (0, 0)) := (Below.heap_setCell _ _ _ _ (by simp; omega)).trans k1
  have k3 := block_setCell k2 0 x''
  refine ⟨(((h.far h1 hne 0 x').far e1 hne 1 y').far k2 hne 0 x'').far k3 hne 1 y'', (((h2.far h1 hne 0 x').far e1 hne 1 y').far k2 hne 0 x'').far k3 hne 1 y'', ?_⟩
  exact ((((step_below hw hb).setCell (by simpa using hgw) _).setCell (by simpa using hgw) _).setCell (by simp; omega) _).setCell (by simp; omega) _
theorem one_nat (w : World) : NatAt (w.alloc (.cells #[.int .u32 1] 38)) (.slice (some ⟨w.heap.size, 0, none⟩) 1 1) 1 := by
  have h := (Row.new w [1]).nat (L32.mk (by decide) L32.nil_) (c := 1) (by decide)
  have e : val [1] = 1 := rfl
  rw [e] at h
  have e2 : len 1 = 1 := by rw [len_pos (by decide)]; simp [len_zero]
  rw [e2] at h
  exact h
theorem div_of {a b q r : Int} (h : a = b * q + r) (h0 : 0 ≤ r) (h1 : r < b ∨ r < -b) : q = a / b ∧ r = a % b := by
  have hb : b ≠ 0 := by omega
  have hr : r / b = 0 ∧ r % b = r := by
    rcases h1 with h1 | h1
    · exact ⟨Int.ediv_eq_zero_of_lt h0 h1, Int.emod_eq_of_lt h0 h1⟩
    · have e : b = -(-b) := by omega
      constructor
      · rw [e, Int.ediv_neg, Int.ediv_eq_zero_of_lt h0 h1]; rfl
      · rw [e, Int.emod_neg]; exact Int.emod_eq_of_lt h0 h1
  subst h
  constructor
  · rw [Int.mul_comm, Int.add_comm, Int.add_mul_ediv_right _ _ hb, hr.1]; omega
  · rw [Int.mul_comm, Int.add_comm, Int.add_mul_emod_self_right, hr.2]
theorem dm_false_false {a b : Int} {x y : Nat} (h1 : sgn false x = a) (h2 : sgn false y = b) (hy : 0 < y) : sgn false (x / y) = a / b ∧ sgn false (x % y) = a % b := by
  have h3 := Nat.div_add_mod x y
  have h4 := Nat.mod_lt x hy
  generalize x / y = d at *
  generalize x % y = r at *
  have hx : (x : Int) = (y : Int) * (d : Int) + (r : Int) := by rw [← Int.natCast_mul]; omega
  refine div_of ?_ ?_ ?_
  · rw [← h1, ← h2]
    simp only [sgn, Bool.false_eq_true, if_false]
    omega
  · simp only [sgn, Bool.false_eq_true, if_false]; omega
  · rw [← h2]
    simp only [sgn, Bool.false_eq_true, if_false]
    omega
theorem dm_false_true {a b : Int} {x y : Nat} (h1 : sgn false x = a) (h2 : sgn true y = b) (hy : 0 < y) : sgn true (x / y) = a / b ∧ sgn false (x % y) = a % b := by
  have h3 := Nat.div_add_mod x y
  have h4 := Nat.mod_lt x hy
  generalize x / y = d at *
  generalize x % y = r at *
  have hx : (x : Int) = (y : Int) * (d : Int) + (r : Int) := by rw [← Int.natCast_mul]; omega
  refine div_of ?_ ?_ ?_
  · rw [← h1, ← h2]
    simp only [sgn, Bool.false_eq_true, if_false, if_true, Int.mul_neg, Int.neg_mul, Int.neg_neg]
    omega
  · simp only [sgn, Bool.false_eq_true, if_false]; omega
  · rw [← h2]
    simp only [sgn, Bool.false_eq_true, if_false, if_true]
    omega
theorem dm0_true_false {a b : Int} {x y : Nat} (h1 : sgn true x = a) (h2 : sgn false y = b) (hy : 0 < y) (hr : x % y = 0) : sgn true (x / y) = a / b ∧ sgn false (x % y) = a % b := by
  have h3 := Nat.div_add_mod x y
  have h4 := Nat.mod_lt x hy
  generalize x / y = d at *
  generalize x % y = r at *
  have hx : (x : Int) = (y : Int) * (d : Int) + (r : Int) := by rw [← Int.natCast_mul]; omega
  refine div_of ?_ ?_ ?_
  · rw [← h1, ← h2]
    simp only [sgn, Bool.false_eq_true, if_false, if_true, Int.mul_neg]
    omega
  · simp only [sgn, Bool.false_eq_true, if_false]; omega
  · rw [← h2]
    simp only [sgn, Bool.false_eq_true, if_false]
    omega
theorem dm0_true_true {a b : Int} {x y : Nat} (h1 : sgn true x = a) (h2 : sgn true y = b) (hy : 0 < y) (hr : x % y = 0) : sgn false (x / y) = a / b ∧ sgn false (x % y) = a % b := by
  have h3 := Nat.div_add_mod x y
  have h4 := Nat.mod_lt x hy
  generalize x / y = d at *
  generalize x % y = r at *
  have hx : (x : Int) = (y : Int) * (d : Int) + (r : Int) := by rw [← Int.natCast_mul]; omega
  refine div_of ?_ ?_ ?_
  · rw [← h1, ← h2]
    simp only [sgn, Bool.false_eq_true, if_false, if_true, Int.neg_mul]
    omega
  · simp only [sgn, Bool.false_eq_true, if_false]; omega
  · rw [← h2]
    simp only [sgn, Bool.false_eq_true, if_false, if_true]
    omega
theorem dm1_true_false {a b : Int} {x y : Nat} (h1 : sgn true x = a) (h2 : sgn false y = b) (hy : 0 < y) (hr : 0 < x % y) : sgn true (x / y + 1) = a / b ∧ sgn false (y - x % y) = a % b := by
  have h3 := Nat.div_add_mod x y
  have h4 := Nat.mod_lt x hy
  generalize x / y = d at *
  generalize x % y = r at *
  have hx : (x : Int) = (y : Int) * (d : Int) + (r : Int) := by rw [← Int.natCast_mul]; omega
  refine div_of ?_ ?_ ?_
  · rw [← h1, ← h2]
    simp only [sgn, Bool.false_eq_true, if_false, if_true, Int.natCast_add, Int.mul_neg, Int.mul_add]
    omega
  · simp only [sgn, Bool.false_eq_true, if_false]; omega
  · rw [← h2]
    simp only [sgn, Bool.false_eq_true, if_false]
    omega
theorem dm1_true_true {a b : Int} {x y : Nat} (h1 : sgn true x = a) (h2 : sgn true y = b) (hy : 0 < y) (hr : 0 < x % y) : sgn false (x / y + 1) = a / b ∧ sgn false (y - x % y) = a % b := by
  have h3 := Nat.div_add_mod x y
  have h4 := Nat.mod_lt x hy
  generalize x / y = d at *
  generalize x % y = r at *
  have hx : (x : Int) = (y : Int) * (d : Int) + (r : Int) := by rw [← Int.natCast_mul]; omega
  refine div_of ?_ ?_ ?_
  · rw [← h1, ← h2]
    simp only [sgn, Bool.false_eq_true, if_false, if_true, Int.natCast_add, Int.neg_mul, Int.mul_add]
    omega
  · simp only [sgn, Bool.false_eq_true, if_false]; omega
  · rw [← h2]
    simp only [sgn, Bool.false_eq_true, if_false, if_true]
    omega

def GivesDM (q r ec : Int) (w : World) (e : Ending) (w' : World) : Prop := ∃ vq vr, e = .returned (.tuple #[vq, vr, .int .i64 ec]) ∧ IntAt w' vq q ∧ IntAt w' vr r ∧ Below w.heap.size w w'
end Go.Proofs.YtjajmonhcnmidaaDoor
namespace Go.Proofs.YtjajmonhcnmidaaDoor
open Go.RowKit

set_option maxHeartbeats 3200000 in
theorem DivMod_from (va vb : Value) (a b : Int) (w : World) (ha : IntAt w va a) (hb : IntAt w vb b) (hla : len a.natAbs ≤ 549755813888) (hlb : len b.natAbs ≤ 549755813888) (hb0 : b ≠ 0)
    (hD : ∀ (u v : Value) (W : World), NatAt W u a.natAbs → NatAt W v b.natAbs → Calls Tryd.prog 54 #[u, v] W (GivesDiv (a.natAbs / b.natAbs) (a.natAbs % b.natAbs) W)) :
    Calls Tryd.prog 31 #[va, vb] w (GivesDM (a / b) (a % b) 0 w) := by
  have hy0 : 0 < b.natAbs := by omega
  obtain ⟨x, hx⟩ : ∃ n, a.natAbs = n := ⟨_, rfl⟩
  obtain ⟨y, hy⟩ : ∃ n, b.natAbs = n := ⟨_, rfl⟩
  obtain ⟨p, hp⟩ : ∃ s, decide (a < 0) = s := ⟨_, rfl⟩
  obtain ⟨q, hq⟩ : ∃ s, decide (b < 0) = s := ⟨_, rfl⟩
  have sa := sgn_of a
  have sb := sgn_of b
  rw [hx, hp] at sa
  rw [hy, hq] at sb
  rw [hx] at hla hD
  rw [hy] at hlb hD hy0
  have HDD := Lib.hid hD
  clear hD hb0
  obtain ⟨A, c, rfl, HA⟩ := ha.parts_ hx hp
  obtain ⟨B, d, rfl, HB⟩ := hb.parts_ hy hq
  have HIA := Lib.hid (IntAt.back HA.out hx hp)
  have HIB := Lib.hid (IntAt.back HB.out hy hq)
  have HX := Lib.hid hx
  have HY := Lib.hid hy
  have HP := Lib.hid hp
  have HQ := Lib.hid hq
  have SA := Lib.hid sa
  have SB := Lib.hid sb
  clear hx hy hp hq ha hb HA HB sa sb
  cases p <;> cases q
  · have HH := Lib.hid (heap4 w (.cells #[.bool false, .slice A (len x) c] 27) (.cells #[.bool false, .slice B (len y) d] 27) (.cells #[.bool false, .slice none 0 0] 27) (.cells #[.bool false, .slice none 0 0] 27))
    have HW := Lib.hid (below4 w (.cells #[.bool false, .slice A (len x) c] 27) (.cells #[.bool false, .slice B (len y) d] 27) (.cells #[.bool false, .slice none 0 0] 27) (.cells #[.bool false, .slice none 0 0] 27))
    go_enter Tryd.func31, Tryd.ntmps31
    go_wp2_with fail
    generalize (((w.alloc (.cells #[.bool false, .slice A (len x) c] 27)).alloc (.cells #[.bool false, .slice B (len y) d] 27)).alloc (.cells #[.bool false, .slice none 0 0] 27)).alloc (.cells #[.bool false, .slice none 0 0] 27) = W at *
    refine (parts_is _ a x false _ (HIA.out.into HW.out) HX.out HP.out (by omega)).mono ?_
    rintro e w1 ⟨A1, c1, rfl, H1, hb1⟩
    have hB1 := Lib.hid hb1
    obtain ⟨hc0, hc1, hf0, hf1, hs⟩ := box_in HH.out.2.1 hb1
    clear hb1
    go_wp2_with fail
    refine (parts_is _ b y false _ (HIB.out.into (step_below HW.out hB1.out)) HY.out HQ.out (by omega)).mono ?_
    rintro e w2 ⟨B1, d1, rfl, H2, hb2⟩
    have hB2 := Lib.hid (step_below hB1.out hb2)
    have H1' := Lib.hid (H1.out.into hb2)
    clear hb2 hc0 hc1 hf0 hf1 hs hB1 H1
    have hle : len (x / y) ≤ len x := len_mono (Nat.div_le_self x y)
    have hle2 : len (x % y) ≤ len y := len_mono (Nat.le_of_lt (Nat.mod_lt x hy0))
    have hyn : ((len y : Int) == 0) = false := by
      have : len y ≠ 0 := fun h => by have := len_eq_zero.1 h; omega
      simp; omega
    go_wp2_with fail
    refine (HDD.out _ _ _ H1'.out H2.out).mono ?_
    rintro e w3 ⟨vq, vr, rfl, hvq, hvr, hb3⟩
    obtain ⟨Aq, cq, rfl, Hq⟩ := hvq.open_
    obtain ⟨Ar, cr, rfl, Hr⟩ := hvr.open_
    have H2' := Lib.hid (H2.out.into hb3)
    have hB3 := Lib.hid (step_below hB2.out hb3)
    clear hb3 hvq hvr hB2
    go_wp2_with fail
    refine (build_any false _ (x / y) _ Hq.out (by first | omega | (have := len_add (x / y) 1; have := len_le_one (show 1 < 4294967296 by decide); omega))).mono ?_
    rintro e w5 ⟨v5, rfl, hv5, hb5⟩
    rw [show sgn false (x / y) = a / b from (dm_false_false SA.out SB.out hy0).1] at hv5
    obtain ⟨b5, A5, k5, c5, rfl, H5⟩ := hv5.open_
    have HR5 := Lib.hid (Hr.out.into hb5)
    have hB5 := Lib.hid (step_below hB3.out hb5)
    clear hb5 hv5
    go_wp2_with fail
    refine (build_any false _ (x % y) _ HR5.out (by omega)).mono ?_
    rintro e w6 ⟨v6, rfl, hv6, hb6⟩
    rw [show sgn false (x % y) = a % b from (dm_false_false SA.out SB.out hy0).2] at hv6
    obtain ⟨b6, A6, k6, c6, rfl, H6⟩ := hv6.open_
    have H5' := Lib.hid (H5.out.into hb6)
    have hB6 := step_below hB5.out hb6
    obtain ⟨hc0, hc1, hf0, hf1, hs⟩ := box_in HH.out.2.2.1 hB6
    obtain ⟨gc0, gc1, gf0, gf1, gs⟩ := box_in HH.out.2.2.2 hB6
    have HE := Lib.hid (box_end2 (x' := .bool b5) (y' := .slice A5 k5 c5) (x'' := .bool b6) (y'' := .slice A6 k6 c6) HH.out.2.2.1 HH.out.2.2.2 hB6 H5'.out H6.out HW.out (by omega) (by omega))
    clear hB6 hb6 hv6
    go_wp2
    refine bodyPost_ret (v := .tuple #[.agg #[.bool b5, .slice A5 k5 c5], .agg #[.bool b6, .slice A6 k6 c6], .int .i64 0]) (by simp [results, Tryd.results31, go_sem, hc0, hc1, gc0, gc1]) rfl ⟨_, _, rfl, HE.out.1, HE.out.2.1, HE.out.2.2⟩
  · have HH := Lib.hid (heap4 w (.cells #[.bool false, .slice A (len x) c] 27) (.cells #[.bool true, .slice B (len y) d] 27) (.cells #[.bool false, .slice none 0 0] 27) (.cells #[.bool false, .slice none 0 0] 27))
    have HW := Lib.hid (below4 w (.cells #[.bool false, .slice A (len x) c] 27) (.cells #[.bool true, .slice B (len y) d] 27) (.cells #[.bool false, .slice none 0 0] 27) (.cells #[.bool false, .slice none 0 0] 27))
    go_enter Tryd.func31, Tryd.ntmps31
    go_wp2_with fail
    generalize (((w.alloc (.cells #[.bool false, .slice A (len x) c] 27)).alloc (.cells #[.bool true, .slice B (len y) d] 27)).alloc (.cells #[.bool false, .slice none 0 0] 27)).alloc (.cells #[.bool false, .slice none 0 0] 27) = W at *
    refine (parts_is _ a x false _ (HIA.out.into HW.out) HX.out HP.out (by omega)).mono ?_
    rintro e w1 ⟨A1, c1, rfl, H1, hb1⟩
    have hB1 := Lib.hid hb1
    obtain ⟨hc0, hc1, hf0, hf1, hs⟩ := box_in HH.out.2.1 hb1
    clear hb1
    go_wp2_with fail
    refine (parts_is _ b y true _ (HIB.out.into (step_below HW.out hB1.out)) HY.out HQ.out (by omega)).mono ?_
    rintro e w2 ⟨B1, d1, rfl, H2, hb2⟩
    have hB2 := Lib.hid (step_below hB1.out hb2)
    have H1' := Lib.hid (H1.out.into hb2)
    clear hb2 hc0 hc1 hf0 hf1 hs hB1 H1
    have hle : len (x / y) ≤ len x := len_mono (Nat.div_le_self x y)
    have hle2 : len (x % y) ≤ len y := len_mono (Nat.le_of_lt (Nat.mod_lt x hy0))
    have hyn : ((len y : Int) == 0) = false := by
      have : len y ≠ 0 := fun h => by have := len_eq_zero.1 h; omega
      simp; omega
    go_wp2_with fail
    refine (HDD.out _ _ _ H1'.out H2.out).mono ?_
    rintro e w3 ⟨vq, vr, rfl, hvq, hvr, hb3⟩
    obtain ⟨Aq, cq, rfl, Hq⟩ := hvq.open_
    obtain ⟨Ar, cr, rfl, Hr⟩ := hvr.open_
    have H2' := Lib.hid (H2.out.into hb3)
    have hB3 := Lib.hid (step_below hB2.out hb3)
    clear hb3 hvq hvr hB2
    go_wp2_with fail
    refine (build_any true _ (x / y) _ Hq.out (by first | omega | (have := len_add (x / y) 1; have := len_le_one (show 1 < 4294967296 by decide); omega))).mono ?_
    rintro e w5 ⟨v5, rfl, hv5, hb5⟩
    rw [show sgn true (x / y) = a / b from (dm_false_true SA.out SB.out hy0).1] at hv5
    obtain ⟨b5, A5, k5, c5, rfl, H5⟩ := hv5.open_
    have HR5 := Lib.hid (Hr.out.into hb5)
    have hB5 := Lib.hid (step_below hB3.out hb5)
    clear hb5 hv5
    go_wp2_with fail
    refine (build_any false _ (x % y) _ HR5.out (by omega)).mono ?_
    rintro e w6 ⟨v6, rfl, hv6, hb6⟩
    rw [show sgn false (x % y) = a % b from (dm_false_true SA.out SB.out hy0).2] at hv6
    obtain ⟨b6, A6, k6, c6, rfl, H6⟩ := hv6.open_
    have H5' := Lib.hid (H5.out.into hb6)
    have hB6 := step_below hB5.out hb6
    obtain ⟨hc0, hc1, hf0, hf1, hs⟩ := box_in HH.out.2.2.1 hB6
    obtain ⟨gc0, gc1, gf0, gf1, gs⟩ := box_in HH.out.2.2.2 hB6
    have HE := Lib.hid (box_end2 (x' := .bool b5) (y' := .slice A5 k5 c5) (x'' := .bool b6) (y'' := .slice A6 k6 c6) HH.out.2.2.1 HH.out.2.2.2 hB6 H5'.out H6.out HW.out (by omega) (by omega))
    clear hB6 hb6 hv6
    go_wp2
    refine bodyPost_ret (v := .tuple #[.agg #[.bool b5, .slice A5 k5 c5], .agg #[.bool b6, .slice A6 k6 c6], .int .i64 0]) (by simp [results, Tryd.results31, go_sem, hc0, hc1, gc0, gc1]) rfl ⟨_, _, rfl, HE.out.1, HE.out.2.1, HE.out.2.2⟩
  · have HH := Lib.hid (heap4 w (.cells #[.bool true, .slice A (len x) c] 27) (.cells #[.bool false, .slice B (len y) d] 27) (.cells #[.bool false, .slice none 0 0] 27) (.cells #[.bool false, .slice none 0 0] 27))
    have HW := Lib.hid (below4 w (.cells #[.bool true, .slice A (len x) c] 27) (.cells #[.bool false, .slice B (len y) d] 27) (.cells #[.bool false, .slice none 0 0] 27) (.cells #[.bool false, .slice none 0 0] 27))
    go_enter Tryd.func31, Tryd.ntmps31
    go_wp2_with fail
    generalize (((w.alloc (.cells #[.bool true, .slice A (len x) c] 27)).alloc (.cells #[.bool false, .slice B (len y) d] 27)).alloc (.cells #[.bool false, .slice none 0 0] 27)).alloc (.cells #[.bool false, .slice none 0 0] 27) = W at *
    refine (parts_is _ a x true _ (HIA.out.into HW.out) HX.out HP.out (by omega)).mono ?_
    rintro e w1 ⟨A1, c1, rfl, H1, hb1⟩
    have hB1 := Lib.hid hb1
    obtain ⟨hc0, hc1, hf0, hf1, hs⟩ := box_in HH.out.2.1 hb1
    clear hb1
    go_wp2_with fail
    refine (parts_is _ b y false _ (HIB.out.into (step_below HW.out hB1.out)) HY.out HQ.out (by omega)).mono ?_
    rintro e w2 ⟨B1, d1, rfl, H2, hb2⟩
    have hB2 := Lib.hid (step_below hB1.out hb2)
    have H1' := Lib.hid (H1.out.into hb2)
    clear hb2 hc0 hc1 hf0 hf1 hs hB1 H1
    have hle : len (x / y) ≤ len x := len_mono (Nat.div_le_self x y)
    have hle2 : len (x % y) ≤ len y := len_mono (Nat.le_of_lt (Nat.mod_lt x hy0))
    have hyn : ((len y : Int) == 0) = false := by
      have : len y ≠ 0 := fun h => by have := len_eq_zero.1 h; omega
      simp; omega
    go_wp2_with fail
    refine (HDD.out _ _ _ H1'.out H2.out).mono ?_
    rintro e w3 ⟨vq, vr, rfl, hvq, hvr, hb3⟩
    obtain ⟨Aq, cq, rfl, Hq⟩ := hvq.open_
    obtain ⟨Ar, cr, rfl, Hr⟩ := hvr.open_
    have H2' := Lib.hid (H2.out.into hb3)
    have hB3 := Lib.hid (step_below hB2.out hb3)
    clear hb3 hvq hvr hB2
    rcases Nat.eq_zero_or_pos (x % y) with hr0 | hr0
    · have hp : decide ((0 : Int) < (len (x % y) : Int)) = false := by rw [hr0, len_zero]; rfl
      have hp' : decide (0 < len (x % y)) = false := by rw [hr0, len_zero]; rfl
      have HR0 := Lib.hid hr0
      clear hr0
      go_wp2_with fail
      refine (build_any true _ (x / y) _ Hq.out (by first | omega | (have := len_add (x / y) 1; have := len_le_one (show 1 < 4294967296 by decide); omega))).mono ?_
      rintro e w5 ⟨v5, rfl, hv5, hb5⟩
      rw [show sgn true (x / y) = a / b from (dm0_true_false SA.out SB.out hy0 HR0.out).1] at hv5
      obtain ⟨b5, A5, k5, c5, rfl, H5⟩ := hv5.open_
      have HR5 := Lib.hid (Hr.out.into hb5)
      have hB5 := Lib.hid (step_below hB3.out hb5)
      clear hb5 hv5
      go_wp2_with fail
      refine (build_any false _ (x % y) _ HR5.out (by omega)).mono ?_
      rintro e w6 ⟨v6, rfl, hv6, hb6⟩
      rw [show sgn false (x % y) = a % b from (dm0_true_false SA.out SB.out hy0 HR0.out).2] at hv6
      obtain ⟨b6, A6, k6, c6, rfl, H6⟩ := hv6.open_
      have H5' := Lib.hid (H5.out.into hb6)
      have hB6 := step_below hB5.out hb6
      obtain ⟨hc0, hc1, hf0, hf1, hs⟩ := box_in HH.out.2.2.1 hB6
      obtain ⟨gc0, gc1, gf0, gf1, gs⟩ := box_in HH.out.2.2.2 hB6
      have HE := Lib.hid (box_end2 (x' := .bool b5) (y' := .slice A5 k5 c5) (x'' := .bool b6) (y'' := .slice A6 k6 c6) HH.out.2.2.1 HH.out.2.2.2 hB6 H5'.out H6.out HW.out (by omega) (by omega))
      clear hB6 hb6 hv6
      go_wp2
      refine bodyPost_ret (v := .tuple #[.agg #[.bool b5, .slice A5 k5 c5], .agg #[.bool b6, .slice A6 k6 c6], .int .i64 0]) (by simp [results, Tryd.results31, go_sem, hc0, hc1, gc0, gc1]) rfl ⟨_, _, rfl, HE.out.1, HE.out.2.1, HE.out.2.2⟩
    · have hp' : decide (0 < len (x % y)) = true := by
        have : len (x % y) ≠ 0 := fun h => by have := len_eq_zero.1 h; omega
        simp; omega
      have hrl := Nat.mod_lt x hy0
      go_wp2_with fail
      have hm1 := one_nat w3
      refine (sum_any _ _ (x / y) 1 _ (Hq.out.into (below_alloc _ _)) hm1 (by omega) (by have := len_le_one (show 1 < 4294967296 by decide); omega)).mono ?_
      rintro e w4 ⟨v4, rfl, hv4, hb4⟩
      obtain ⟨A4, c4, rfl, H4⟩ := hv4.open_
      have hB4 := Lib.hid (step_below hB3.out (step_below (below_alloc _ _) hb4))
      have Hr' := Lib.hid (Hr.out.into (step_below (below_alloc _ _) hb4))
      have H2'' := Lib.hid (H2'.out.into (step_below (below_alloc _ _) hb4))
      clear hb4 hv4 hm1
      go_wp2_with fail
      refine (difference_any _ _ y (x % y) _ H2''.out Hr'.out (by omega) (by omega)).mono ?_
      rintro e w4' ⟨v4', rfl, hv4', hb4'⟩
      obtain ⟨A4', c4', rfl, H4'⟩ := hv4'.open_
      have hB4' := Lib.hid (step_below hB4.out hb4')
      have H4'' := Lib.hid (H4.out.into hb4')
      have hle3 : len (y - x % y) ≤ len y := len_mono (Nat.sub_le _ _)
      clear hb4' hv4'
      go_wp2_with fail
      refine (build_any true _ (x / y + 1) _ H4''.out (by first | omega | (have := len_add (x / y) 1; have := len_le_one (show 1 < 4294967296 by decide); omega))).mono ?_
      rintro e w5 ⟨v5, rfl, hv5, hb5⟩
      rw [show sgn true (x / y + 1) = a / b from (dm1_true_false SA.out SB.out hy0 hr0).1] at hv5
      obtain ⟨b5, A5, k5, c5, rfl, H5⟩ := hv5.open_
      have HR5 := Lib.hid (H4'.out.into hb5)
      have hB5 := Lib.hid (step_below hB4'.out hb5)
      clear hb5 hv5
      go_wp2_with fail
      refine (build_any false _ (y - x % y) _ HR5.out (by omega)).mono ?_
      rintro e w6 ⟨v6, rfl, hv6, hb6⟩
      rw [show sgn false (y - x % y) = a % b from (dm1_true_false SA.out SB.out hy0 hr0).2] at hv6
      obtain ⟨b6, A6, k6, c6, rfl, H6⟩ := hv6.open_
      have H5' := Lib.hid (H5.out.into hb6)
      have hB6 := step_below hB5.out hb6
      obtain ⟨hc0, hc1, hf0, hf1, hs⟩ := box_in HH.out.2.2.1 hB6
      obtain ⟨gc0, gc1, gf0, gf1, gs⟩ := box_in HH.out.2.2.2 hB6
      have HE := Lib.hid (box_end2 (x' := .bool b5) (y' := .slice A5 k5 c5) (x'' := .bool b6) (y'' := .slice A6 k6 c6) HH.out.2.2.1 HH.out.2.2.2 hB6 H5'.out H6.out HW.out (by omega) (by omega))
      clear hB6 hb6 hv6
      go_wp2
      refine bodyPost_ret (v := .tuple #[.agg #[.bool b5, .slice A5 k5 c5], .agg #[.bool b6, .slice A6 k6 c6], .int .i64 0]) (by simp [results, Tryd.results31, go_sem, hc0, hc1, gc0, gc1]) rfl ⟨_, _, rfl, HE.out.1, HE.out.2.1, HE.out.2.2⟩
  · have HH := Lib.hid (heap4 w (.cells #[.bool true, .slice A (len x) c] 27) (.cells #[.bool true, .slice B (len y) d] 27) (.cells #[.bool false, .slice none 0 0] 27) (.cells #[.bool false, .slice none 0 0] 27))
    have HW := Lib.hid (below4 w (.cells #[.bool true, .slice A (len x) c] 27) (.cells #[.bool true, .slice B (len y) d] 27) (.cells #[.bool false, .slice none 0 0] 27) (.cells #[.bool false, .slice none 0 0] 27))
    go_enter Tryd.func31, Tryd.ntmps31
    go_wp2_with fail
    generalize (((w.alloc (.cells #[.bool true, .slice A (len x) c] 27)).alloc (.cells #[.bool true, .slice B (len y) d] 27)).alloc (.cells #[.bool false, .slice none 0 0] 27)).alloc (.cells #[.bool false, .slice none 0 0] 27) = W at *
    refine (parts_is _ a x true _ (HIA.out.into HW.out) HX.out HP.out (by omega)).mono ?_
    rintro e w1 ⟨A1, c1, rfl, H1, hb1⟩
    have hB1 := Lib.hid hb1
    obtain ⟨hc0, hc1, hf0, hf1, hs⟩ := box_in HH.out.2.1 hb1
    clear hb1
    go_wp2_with fail
    refine (parts_is _ b y true _ (HIB.out.into (step_below HW.out hB1.out)) HY.out HQ.out (by omega)).mono ?_
    rintro e w2 ⟨B1, d1, rfl, H2, hb2⟩
    have hB2 := Lib.hid (step_below hB1.out hb2)
    have H1' := Lib.hid (H1.out.into hb2)
    clear hb2 hc0 hc1 hf0 hf1 hs hB1 H1
    have hle : len (x / y) ≤ len x := len_mono (Nat.div_le_self x y)
    have hle2 : len (x % y) ≤ len y := len_mono (Nat.le_of_lt (Nat.mod_lt x hy0))
    have hyn : ((len y : Int) == 0) = false := by
      have : len y ≠ 0 := fun h => by have := len_eq_zero.1 h; omega
      simp; omega
    go_wp2_with fail
    refine (HDD.out _ _ _ H1'.out H2.out).mono ?_
    rintro e w3 ⟨vq, vr, rfl, hvq, hvr, hb3⟩
    obtain ⟨Aq, cq, rfl, Hq⟩ := hvq.open_
    obtain ⟨Ar, cr, rfl, Hr⟩ := hvr.open_
    have H2' := Lib.hid (H2.out.into hb3)
    have hB3 := Lib.hid (step_below hB2.out hb3)
    clear hb3 hvq hvr hB2
    rcases Nat.eq_zero_or_pos (x % y) with hr0 | hr0
    · have hp : decide ((0 : Int) < (len (x % y) : Int)) = false := by rw [hr0, len_zero]; rfl
      have hp' : decide (0 < len (x % y)) = false := by rw [hr0, len_zero]; rfl
      have HR0 := Lib.hid hr0
      clear hr0
      go_wp2_with fail
      refine (build_any false _ (x / y) _ Hq.out (by first | omega | (have := len_add (x / y) 1; have := len_le_one (show 1 < 4294967296 by decide); omega))).mono ?_
      rintro e w5 ⟨v5, rfl, hv5, hb5⟩
      rw [show sgn false (x / y) = a / b from (dm0_true_true SA.out SB.out hy0 HR0.out).1] at hv5
      obtain ⟨b5, A5, k5, c5, rfl, H5⟩ := hv5.open_
      have HR5 := Lib.hid (Hr.out.into hb5)
      have hB5 := Lib.hid (step_below hB3.out hb5)
      clear hb5 hv5
      go_wp2_with fail
      refine (build_any false _ (x % y) _ HR5.out (by omega)).mono ?_
      rintro e w6 ⟨v6, rfl, hv6, hb6⟩
      rw [show sgn false (x % y) = a % b from (dm0_true_true SA.out SB.out hy0 HR0.out).2] at hv6
      obtain ⟨b6, A6, k6, c6, rfl, H6⟩ := hv6.open_
      have H5' := Lib.hid (H5.out.into hb6)
      have hB6 := step_below hB5.out hb6
      obtain ⟨hc0, hc1, hf0, hf1, hs⟩ := box_in HH.out.2.2.1 hB6
      obtain ⟨gc0, gc1, gf0, gf1, gs⟩ := box_in HH.out.2.2.2 hB6
      have HE := Lib.hid (box_end2 (x' := .bool b5) (y' := .slice A5 k5 c5) (x'' := .bool b6) (y'' := .slice A6 k6 c6) HH.out.2.2.1 HH.out.2.2.2 hB6 H5'.out H6.out HW.out (by omega) (by omega))
      clear hB6 hb6 hv6
      go_wp2
      refine bodyPost_ret (v := .tuple #[.agg #[.bool b5, .slice A5 k5 c5], .agg #[.bool b6, .slice A6 k6 c6], .int .i64 0]) (by simp [results, Tryd.results31, go_sem, hc0, hc1, gc0, gc1]) rfl ⟨_, _, rfl, HE.out.1, HE.out.2.1, HE.out.2.2⟩
    · have hp' : decide (0 < len (x % y)) = true := by
        have : len (x % y) ≠ 0 := fun h => by have := len_eq_zero.1 h; omega
        simp; omega
      have hrl := Nat.mod_lt x hy0
      go_wp2_with fail
      have hm1 := one_nat w3
      refine (sum_any _ _ (x / y) 1 _ (Hq.out.into (below_alloc _ _)) hm1 (by omega) (by have := len_le_one (show 1 < 4294967296 by decide); omega)).mono ?_
      rintro e w4 ⟨v4, rfl, hv4, hb4⟩
      obtain ⟨A4, c4, rfl, H4⟩ := hv4.open_
      have hB4 := Lib.hid (step_below hB3.out (step_below (below_alloc _ _) hb4))
      have Hr' := Lib.hid (Hr.out.into (step_below (below_alloc _ _) hb4))
      have H2'' := Lib.hid (H2'.out.into (step_below (below_alloc _ _) hb4))
      clear hb4 hv4 hm1
      go_wp2_with fail
      refine (difference_any _ _ y (x % y) _ H2''.out Hr'.out (by omega) (by omega)).mono ?_
      rintro e w4' ⟨v4', rfl, hv4', hb4'⟩
      obtain ⟨A4', c4', rfl, H4'⟩ := hv4'.open_
      have hB4' := Lib.hid (step_below hB4.out hb4')
      have H4'' := Lib.hid (H4.out.into hb4')
      have hle3 : len (y - x % y) ≤ len y := len_mono (Nat.sub_le _ _)
      clear hb4' hv4'
      go_wp2_with fail
      refine (build_any false _ (x / y + 1) _ H4''.out (by first | omega | (have := len_add (x / y) 1; have := len_le_one (show 1 < 4294967296 by decide); omega))).mono ?_
      rintro e w5 ⟨v5, rfl, hv5, hb5⟩
      rw [show sgn false (x / y + 1) = a / b from (dm1_true_true SA.out SB.out hy0 hr0).1] at hv5
      obtain ⟨b5, A5, k5, c5, rfl, H5⟩ := hv5.open_
      have HR5 := Lib.hid (H4'.out.into hb5)
      have hB5 := Lib.hid (step_below hB4'.out hb5)
      clear hb5 hv5
      go_wp2_with fail
      refine (build_any false _ (y - x % y) _ HR5.out (by omega)).mono ?_
      rintro e w6 ⟨v6, rfl, hv6, hb6⟩
      rw [show sgn false (y - x % y) = a % b from (dm1_true_true SA.out SB.out hy0 hr0).2] at hv6
      obtain ⟨b6, A6, k6, c6, rfl, H6⟩ := hv6.open_
      have H5' := Lib.hid (H5.out.into hb6)
      have hB6 := step_below hB5.out hb6
      obtain ⟨hc0, hc1, hf0, hf1, hs⟩ := box_in HH.out.2.2.1 hB6
      obtain ⟨gc0, gc1, gf0, gf1, gs⟩ := box_in HH.out.2.2.2 hB6
      have HE := Lib.hid (box_end2 (x' := .bool b5) (y' := .slice A5 k5 c5) (x'' := .bool b6) (y'' := .slice A6 k6 c6) HH.out.2.2.1 HH.out.2.2.2 hB6 H5'.out H6.out HW.out (by omega) (by omega))
      clear hB6 hb6 hv6
      go_wp2
      refine bodyPost_ret (v := .tuple #[.agg #[.bool b5, .slice A5 k5 c5], .agg #[.bool b6, .slice A6 k6 c6], .int .i64 0]) (by simp [results, Tryd.results31, go_sem, hc0, hc1, gc0, gc1]) rfl ⟨_, _, rfl, HE.out.1, HE.out.2.1, HE.out.2.2⟩

end Go.Proofs.YtjajmonhcnmidaaDoor
namespace Go.Proofs.YtjajmonhcnmidaaDoor
open Go.RowKit

set_option maxHeartbeats 1600000 in
theorem DivMod_zero (va vb : Value) (a : Int) (w : World) (ha : IntAt w va a) (hb : IntAt w vb 0) (hla : len a.natAbs ≤ 549755813888) :
    Calls Tryd.prog 31 #[va, vb] w (GivesDM 0 0 3 w) := by
  obtain ⟨x, hx⟩ : ∃ n, a.natAbs = n := ⟨_, rfl⟩
  obtain ⟨p, hp⟩ : ∃ s, decide (a < 0) = s := ⟨_, rfl⟩
  rw [hx] at hla
  obtain ⟨A, c, rfl, HA⟩ := ha.parts_ hx hp
  obtain ⟨B, d, rfl, HB⟩ := hb.parts_ (n := 0) (b := false) rfl rfl
  have HIA := Lib.hid (IntAt.back HA.out hx hp)
  have HIB := Lib.hid (IntAt.back (z := 0) HB.out rfl rfl)
  have HX := Lib.hid hx
  have HP := Lib.hid hp
  have HH := Lib.hid (heap4 w (.cells #[.bool p, .slice A (len x) c] 27) (.cells #[.bool false, .slice B (len 0) d] 27) (.cells #[.bool false, .slice none 0 0] 27) (.cells #[.bool false, .slice none 0 0] 27))
  have HW := Lib.hid (below4 w (.cells #[.bool p, .slice A (len x) c] 27) (.cells #[.bool false, .slice B (len 0) d] 27) (.cells #[.bool false, .slice none 0 0] 27) (.cells #[.bool false, .slice none 0 0] 27))
  clear hx hp ha hb HA HB
  go_enter Tryd.func31, Tryd.ntmps31
  go_wp2_with fail
  generalize (((w.alloc (.cells #[.bool p, .slice A (len x) c] 27)).alloc (.cells #[.bool false, .slice B (len 0) d] 27)).alloc (.cells #[.bool false, .slice none 0 0] 27)).alloc (.cells #[.bool false, .slice none 0 0] 27) = W at *
  refine (parts_is _ a x p _ (HIA.out.into HW.out) HX.out HP.out (by omega)).mono ?_
  rintro e w1 ⟨A1, c1, rfl, H1, hb1⟩
  have hB1 := Lib.hid hb1
  obtain ⟨hc0, hc1, hf0, hf1, hs⟩ := box_in HH.out.2.1 hb1
  clear hb1
  go_wp2_with fail
  refine (parts_is _ 0 0 false _ (HIB.out.into (step_below HW.out hB1.out)) rfl rfl (by rw [len_zero]; omega)).mono ?_
  rintro e w2 ⟨B1, d1, rfl, H2, hb2⟩
  rw [len_zero]
  have hB2 := Lib.hid (step_below hB1.out hb2)
  clear hb2 hc0 hc1 hf0 hf1 hs hB1 H1
  obtain ⟨hc0, hc1, hf0, hf1, hs⟩ := box_in HH.out.2.2.1 hB2.out
  obtain ⟨gc0, gc1, gf0, gf1, gs⟩ := box_in HH.out.2.2.2 hB2.out
  have HE := Lib.hid (box_end2 (x' := .bool false) (y' := .slice none 0 0) (x'' := .bool false) (y'' := .slice none 0 0) HH.out.2.2.1 HH.out.2.2.2 hB2.out (IntAt.zero w2 none 0) (IntAt.zero w2 none 0) HW.out (by omega) (by omega))
  go_wp2
  refine bodyPost_ret (v := .tuple #[.agg #[.bool false, .slice none 0 0], .agg #[.bool false, .slice none 0 0], .int .i64 3]) (by simp [results, Tryd.results31, go_sem, hc0, hc1, gc0, gc1]) rfl ⟨_, _, rfl, HE.out.1, HE.out.2.1, HE.out.2.2⟩

theorem DivMod_small (va vb : Value) (a b : Int) (w : World) (ha : IntAt w va a) (hb : IntAt w vb b) (ha64 : a.natAbs < 18446744073709551616) (hb64 : b.natAbs < 18446744073709551616) (hb0 : b ≠ 0) :
    Calls Tryd.prog 31 #[va, vb] w (GivesDM (a / b) (a % b) 0 w) := by
  have hla := len_le_two ha64
  have hlb := len_le_two hb64
  refine DivMod_from va vb a b w ha hb (by omega) (by omega) hb0 fun u v W hu hv => ?_
  rcases Nat.lt_or_ge a.natAbs b.natAbs with hlt | hge
  · exact divide_lt u v _ _ W hu hv (by omega) (by omega) hlt
  · exact divide_small u v _ _ W hu hv (by omega) hge ha64
end Go.Proofs.YtjajmonhcnmidaaDoor
namespace Go.Proofs.YtjajmonhcnmidaaDoor
open Go.RowKit

def inI64 (z : Int) : Bool := decide (-9223372036854775808 ≤ z ∧ z ≤ 9223372036854775807)
def GivesSmall (z : Int) (w : World) (e : Ending) (w' : World) : Prop := e = .returned (.tuple #[.int .i64 (if inI64 z then z else 0), .bool (inI64 z)]) ∧ Below w.heap.size w w'
theorem GivesSmall.yes {z r : Int} {w w' : World} (h0 : -9223372036854775808 ≤ z) (h1 : z ≤ 9223372036854775807) (hr : r = z) (hb : Below w.heap.size w w') : GivesSmall z w (.returned (.tuple #[.int .i64 r, .bool true])) w' := by
  subst hr
  have e : inI64 r = true := by simp [inI64, h0, h1]
  exact ⟨by rw [e]; rfl, hb⟩
theorem GivesSmall.no {z : Int} {w w' : World} (h0 : z < -9223372036854775808 ∨ 9223372036854775807 < z) (hb : Below w.heap.size w w') : GivesSmall z w (.returned (.tuple #[.int .i64 0, .bool false])) w' := by
  have e : inI64 z = false := by simp [inI64]; omega
  exact ⟨by rw [e]; rfl, hb⟩

set_option maxHeartbeats 1600000 in
theorem Small_any (v : Value) (z : Int) (w : World) (h : IntAt w v z) (hl : len z.natAbs ≤ 1099511627776) :
    Calls Tryd.prog 13 #[v] w (GivesSmall z w) := by
  obtain ⟨x, hx⟩ : ∃ n, z.natAbs = n := ⟨_, rfl⟩
  obtain ⟨p, hp⟩ : ∃ s, decide (z < 0) = s := ⟨_, rfl⟩
  rw [hx] at hl
  have sa := sgn_of z
  rw [hx, hp] at sa
  obtain ⟨A, c, rfl, HA⟩ := h.parts_ hx hp
  have HIA := Lib.hid (IntAt.back HA.out hx hp)
  have HX := Lib.hid hx
  have HP := Lib.hid hp
  have SA := Lib.hid sa
  clear hx hp h HA sa
  go_enter Tryd.func13, Tryd.ntmps13
  go_wp2_with fail
  refine (parts_is _ z x p _ (HIA.out.into (below_alloc _ _)) HX.out HP.out (by omega)).mono ?_
  rintro e w1 ⟨A1, c1, rfl, H1, hb1⟩
  have hB1 := Lib.hid (step_below (below_alloc _ _) hb1)
  clear hb1
  rcases Nat.lt_or_ge 2 (len x) with h2 | h2
  · have hd : decide ((2 : Int) < (len x : Int)) = true := by simp; omega
    have hd' : decide (2 < len x) = true := by simp; omega
    have hbig := pow_le_of_len h2
    rw [show 4294967296 ^ 2 = 18446744073709551616 from rfl] at hbig
    have hno : z < -9223372036854775808 ∨ 9223372036854775807 < z := by have := HX.out; omega
    have HN := Lib.hid hno
    clear hno hbig
    go_wp2
    exact bodyPost_ret (v := .tuple #[.int .i64 0, .bool false]) (by simp [results, Tryd.results13, go_sem]) rfl (GivesSmall.no HN.out hB1.out)
  · have hd : decide ((2 : Int) < (len x : Int)) = false := by simp; omega
    have hd' : decide (2 < len x) = false := by simp; omega
    have hx64 : x < 18446744073709551616 := by
      have h3 := lt_pow_len x
      have h4 : 4294967296 ^ len x ≤ 4294967296 ^ 2 := Nat.pow_le_pow_right (by decide) h2
      rw [show 4294967296 ^ 2 = 18446744073709551616 from rfl] at h4
      omega
    go_wp2_with fail
    refine (toWord_any A1 c1 x _ H1.out.mem.2.2 hx64).mono ?_
    rintro e w' ⟨rfl, rfl⟩
    rcases Nat.lt_or_ge x 9223372036854775808 with h5 | h5
    · have ha : decide ((x : Int) ≤ 9223372036854775807) = true := by simp; omega
      have ha' : decide (x ≤ 9223372036854775807) = true := by simp; omega
      have hw : IntKind.i64.wrap (x : Int) = (x : Int) := by rw [IntKind.wrap_i64]; omega
      have hw' : IntKind.i64.wrap (-(x : Int)) = -(x : Int) := by rw [IntKind.wrap_i64]; omega
      cases p
      · have hz : (x : Int) = z := SA.out
        have HZ := Lib.hid hz
        clear hz
        go_wp2
        exact bodyPost_ret (v := .tuple #[.int .i64 x, .bool true]) (by simp [results, Tryd.results13, go_sem]) rfl (GivesSmall.yes (by have := HZ.out; omega) (by have := HZ.out; omega) HZ.out hB1.out)
      · have hz : -(x : Int) = z := SA.out
        have HZ := Lib.hid hz
        clear hz
        go_wp2
        exact bodyPost_ret (v := .tuple #[.int .i64 (-(x : Int)), .bool true]) (by simp [results, Tryd.results13, go_sem]) rfl (GivesSmall.yes (by have := HZ.out; omega) (by have := HZ.out; omega) HZ.out hB1.out)
    · have ha : decide ((x : Int) ≤ 9223372036854775807) = false := by simp; omega
      have ha' : decide (x ≤ 9223372036854775807) = false := by simp; omega
      cases p
      · have hz : (x : Int) = z := SA.out
        have HZ := Lib.hid hz
        clear hz
        go_wp2
        exact bodyPost_ret (v := .tuple #[.int .i64 0, .bool false]) (by simp [results, Tryd.results13, go_sem]) rfl (GivesSmall.no (by have := HZ.out; omega) hB1.out)
      · have hz : -(x : Int) = z := SA.out
        have HZ := Lib.hid hz
        clear hz
        by_cases h6 : x = 9223372036854775808
        · subst h6
          go_wp2
          exact bodyPost_ret (v := .tuple #[.int .i64 (-9223372036854775808), .bool true]) (by simp [results, Tryd.results13, go_sem]) rfl (GivesSmall.yes (by have := HZ.out; omega) (by have := HZ.out; omega) HZ.out hB1.out)
        · have h7 : ((x : Int) == 9223372036854775808) = false := by simp; omega
          have h7' : (x == 9223372036854775808) = false := by simp; omega
          go_wp2
          exact bodyPost_ret (v := .tuple #[.int .i64 0, .bool false]) (by simp [results, Tryd.results13, go_sem]) rfl (GivesSmall.no (by have := HZ.out; omega) hB1.out)
end Go.Proofs.YtjajmonhcnmidaaDoor
