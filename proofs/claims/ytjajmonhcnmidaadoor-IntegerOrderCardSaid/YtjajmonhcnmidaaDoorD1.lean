/- Walks: divide on numbers of at most two limbs; DivMod, wherever divide is right. -/
import Derived.Test.YtjajmonhcnmidaaDoorR4
import Derived.Deep.DeepFit
namespace Go.Proofs.YtjajmonhcnmidaaDoor
open Go.RowKit

def GivesDiv (q r : Nat) (w : World) (e : Ending) (w' : World) : Prop := ∃ vq vr, e = .returned (.tuple #[vq, vr]) ∧ NatAt w' vq q ∧ NatAt w' vr r ∧ Below w.heap.size w w'

set_option maxHeartbeats 1000000 in
theorem divide_lt (va vb : Value) (x y : Nat) (w : World) (ha : NatAt w va x) (hb : NatAt w vb y) (hla : len x ≤ 1099511627776) (hlb : len y ≤ 1099511627776) (hlt : x < y) :
    Calls Tryd.prog 54 #[va, vb] w (GivesDiv (x / y) (x % y) w) := by
  obtain ⟨A, c, rfl, HA⟩ := ha.open_
  obtain ⟨B, d, rfl, HB⟩ := hb.open_
  have hc := cmpN_lt hlt
  have HC := Lib.hid hc
  have H0 : Hid (x / y = 0 ∧ x % y = x) := ⟨Nat.div_eq_of_lt hlt, Nat.mod_eq_of_lt hlt⟩
  clear hc
  go_enter Tryd.func54, Tryd.ntmps54
  go_wp2_with fail
  refine (compare_any _ _ _ _ x y _ HA.out.mem.2.2 HB.out.mem.2.2 hla hlb).mono ?_
  rintro e w1 ⟨rfl, k, rfl⟩
  rw [HC.out]
  go_wp2
  go_ret2
  rw [H0.out.1, H0.out.2]
  exact ⟨_, _, rfl, NatAt.zero _ _ _, HA.out.into (below_drewN w k), below_drewN w k⟩

theorem compare_b (A B : Option Addr) (c d x y : Nat) (w : World) (ha : NatAt w (.slice A (len x) c) x) (hb : NatAt w (.slice B (len y) d) y) (hx : len x ≤ 1099511627776) (hy : len y ≤ 1099511627776) :
    Calls Tryd.prog 47 #[.slice A (len x) c, .slice B (len y) d] w fun e w' => e = .returned (.int .i64 (cmpN x y)) ∧ Below w.heap.size w w' :=
  (compare_any A B c d x y w ha.mem.2.2 hb.mem.2.2 hx hy).mono fun _ _ ⟨he, k, hk⟩ => ⟨he, hk ▸ below_drewN w k⟩
theorem run_quo_u64 (T : TypeId) (x y : Nat) (W : World) (hy : 0 < y) (hx : x < 18446744073709551616) : (binOp .quo T (.int .u64 (x : Int)) (.int .u64 (y : Int))).run Tryd.prog W = .ok (.int .u64 ((x / y : Nat) : Int)) W := by
  have hn : ¬ y = 0 := by omega
  have h : x / y < 18446744073709551616 := Nat.lt_of_le_of_lt (Nat.div_le_self x y) hx
  simp [binOp, go_sem, hn]
  rw [show (x : Int) / (y : Int) = ((x / y : Nat) : Int) from rfl, wrap_u64_nat _ h]
theorem run_rem_u64 (T : TypeId) (x y : Nat) (W : World) (hy : 0 < y) : (binOp .rem T (.int .u64 (x : Int)) (.int .u64 (y : Int))).run Tryd.prog W = .ok (.int .u64 ((x % y : Nat) : Int)) W := by
  have hn : ¬ y = 0 := by omega
  simp [binOp, go_sem, hn]
  rfl

set_option maxHeartbeats 1000000 in
theorem divide_small (va vb : Value) (x y : Nat) (w : World) (ha : NatAt w va x) (hb : NatAt w vb y) (hy : 0 < y) (hle : y ≤ x) (hx : x < 18446744073709551616) :
    Calls Tryd.prog 54 #[va, vb] w (GivesDiv (x / y) (x % y) w) := by
  obtain ⟨A, c, rfl, HA⟩ := ha.open_
  obtain ⟨B, d, rfl, HB⟩ := hb.open_
  have hlx := len_le_two hx
  have hly := len_le_two (show y < 18446744073709551616 by omega)
  obtain ⟨v, hc, hv0⟩ : ∃ v : Int, cmpN x y = v ∧ 0 ≤ v := ⟨_, rfl, by rcases Nat.lt_or_ge y x with h | h; rw [cmpN_gt h]; omega; rw [cmpN_eq (by omega)]; omega⟩
  have HC := Lib.hid hc
  clear hc
  have hq : x / y < 18446744073709551616 := Nat.lt_of_le_of_lt (Nat.div_le_self x y) hx
  have hr : x % y < 18446744073709551616 := Nat.lt_of_le_of_lt (Nat.mod_le x y) hx
  go_enter Tryd.func54, Tryd.ntmps54
  go_wp2_with fail
  refine (compare_b _ _ _ _ x y _ HA.out HB.out (by omega) (by omega)).mono ?_
  rintro e w1 ⟨rfl, hb1⟩
  have HB1 := Lib.hid hb1
  clear hb1
  rw [HC.out]
  have hl2 : decide ((len x : Int) ≤ 2) = true := by simp; omega
  have hv2 : decide (v < 0) = false := by simp; omega
  go_wp2_with fail
  refine (toWord_any A c x _ (HA.out.into HB1.out).mem.2.2 hx).mono ?_
  rintro e w2 ⟨rfl, rfl⟩
  go_wp2_with fail
  refine (toWord_any B d y _ (HB.out.into HB1.out).mem.2.2 (by omega)).mono ?_
  rintro e w2 ⟨rfl, rfl⟩
  have tok : True := trivial
  have hn : ¬ y = 0 := by omega
  have hwq : IntKind.u64.wrap ((x : Int) / (y : Int)) = ((x / y : Nat) : Int) := wrap_u64_nat _ hq
  have hwr : (x : Int).tmod (y : Int) = ((x % y : Nat) : Int) := rfl
  go_wp2_with fail
  go_region_held3 (fun w' => Below w1.heap.size w1 w')
    (first | exact Below.refl _ _ | exact (Below.refl _ _).drew | exact HF1.out | exact HF1.out.drew | exact HF2.out | exact HF2.out.drew)
    (first
      | (go_at_call 53
         have tok0 := tok
         clear tok
         refine (fromWord_any (x / y) _ hq).mono ?_
         rintro e w3 ⟨v3, rfl, hv3, hb3⟩
         obtain ⟨A3, c3, rfl, H3⟩ := hv3.open_
         have HF1 : Hid (Below w1.heap.size w1 w3) := step_below (by first | exact Below.refl _ _ | exact (Below.refl _ _).drew | exact (Below.refl _ _).drew.drew) hb3
         clear hb3 hv3)
      | (go_at_call 53
         refine (fromWord_any (x % y) _ hr).mono ?_
         rintro e w4 ⟨v4, rfl, hv4, hb4⟩
         obtain ⟨A4, c4, rfl, H4⟩ := hv4.open_
         have H3' := Lib.hid (H3.out.into (by first | exact hb4 | exact (Below.refl _ _).drew.trans hb4))
         have HF2 : Hid (Below w1.heap.size w1 w4) := step_below (by first | exact HF1.out | exact HF1.out.drew | exact HF1.out.drew.drew) hb4
         clear hb4 hv4))
  go_wp2
  go_ret2
  exact ⟨_, _, rfl, H3'.out, H4.out, step_below HB1.out HF2.out⟩
end Go.Proofs.YtjajmonhcnmidaaDoor
