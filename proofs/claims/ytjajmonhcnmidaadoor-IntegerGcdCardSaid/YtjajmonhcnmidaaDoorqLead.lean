/- The walk of leading: the first 64 bits. -/
import Derived.Test.YtjajmonhcnmidaaDoorqShr
import Derived.Test.YtjajmonhcnmidaaDoorGk
namespace Go.Proofs.YtjajmonhcnmidaaDoor
open Go.RowKit

/-- The first bits of v, where N limbs and h bits stand before them. -/
theorem lead_is {v N h l1 l2 l3 : Nat} (hl : len v ≤ N + 3) (h1 : (limbs v).getD (N + 2) 0 = l1) (h2 : (limbs v).getD (N + 1) 0 = l2) (h3 : (limbs v).getD N 0 = l3) (hh : h < 32) :
    v / (2 ^ (32 - h) * 4294967296 ^ N) = (l1 * 4294967296 + l2) * 2 ^ h + l3 / 2 ^ (32 - h) := by
  have e := top3 (limbs v) N
  rw [List.take_of_length_le (by rw [len_limbs]; exact hl), val_limbs, h1, h2, h3] at e
  have hlt := val_lt ((limbs_32 v).take N)
  have hle : 4294967296 ^ ((limbs v).take N).length ≤ 4294967296 ^ N := Nat.pow_le_pow_right (by omega) (by rw [List.length_take]; exact Nat.min_le_left _ _)
  have e2 : v / 4294967296 ^ N = l3 + 4294967296 * (l2 + 4294967296 * l1) := by
    rw [e, Nat.add_mul_div_left _ _ (Nat.pow_pos (by omega)), Nat.div_eq_of_lt (Nat.lt_of_lt_of_le hlt hle), Nat.zero_add]
  rw [Nat.mul_comm, ← Nat.div_div_eq_div_mul, e2]
  have e3 : 4294967296 * (l2 + 4294967296 * l1) = 2 ^ (32 - h) * ((l1 * 4294967296 + l2) * 2 ^ h) := by
    rw [Nat.mul_comm _ (2 ^ h), ← Nat.mul_assoc, Nat.mul_comm (2 ^ (32 - h)), ← pow_dvd32 hh]
    omega
  rw [e3, Nat.add_mul_div_left _ _ (Nat.pow_pos (by omega))]
  omega
theorem or_lead {a l3 h : Nat} (ha : a * 2 ^ h < 18446744073709551616) (h3 : l3 < 4294967296) (hh : h < 32) : bits .or .u64 ((a * 2 ^ h : Nat) : Int) ((l3 / 2 ^ (32 - h) : Nat) : Int) = ((a * 2 ^ h + l3 / 2 ^ (32 - h) : Nat) : Int) := by
  have hlt : l3 / 2 ^ (32 - h) < 2 ^ h := by
    rw [Nat.div_lt_iff_lt_mul (Nat.pow_pos (by omega)), ← pow_dvd32 hh]
    exact h3
  have h2 := pow32 hh
  rw [u64_or_nat _ _ (by omega) (by omega)]
  congr 1
  have := Nat.shiftLeft_add_eq_or_of_lt hlt a
  rw [Nat.shiftLeft_eq] at this
  exact this.symm
set_option maxRecDepth 100000 in
set_option maxHeartbeats 1600000 in
theorem leading_any (A : Option Addr) (c v N h l1 l2 l3 : Nat) (w : World) (hm : Mem w w.heap.size A (limbs v)) (hl : len v ≤ N + 3) (hN : N ≤ 1099511627776) (hh : h < 32)
    (h1 : (limbs v).getD (N + 2) 0 = l1) (h2 : (limbs v).getD (N + 1) 0 = l2) (h3 : (limbs v).getD N 0 = l3) (ht : l1 * 2 ^ h < 4294967296) :
    Calls Tryd.prog 85 #[.slice A (len v) c, .int .i64 ((N : Int) + 3), .int .i64 h] w fun e w' => e = .returned (.int .u64 ((v / (2 ^ (32 - h) * 4294967296 ^ N) : Nat) : Int)) ∧ ∃ k, w' = w.drewN k := by
  have b1 : l1 < 4294967296 := by have := (limbs_32 v).at_ (N + 2); rwa [h1] at this
  have b2 : l2 < 4294967296 := by have := (limbs_32 v).at_ (N + 1); rwa [h2] at this
  have b3 : l3 < 4294967296 := by have := (limbs_32 v).at_ N; rwa [h3] at this
  have HE := Lib.hid (lead_is hl h1 h2 h3 hh)
  have hor := or_word l1 l2 b1 b2
  obtain ⟨a, ea⟩ : ∃ a, l1 * 4294967296 + l2 = a := ⟨_, rfl⟩
  have hpow := pow32 hh
  have ha : a * 2 ^ h < 18446744073709551616 := by
    rw [← ea, Nat.add_mul, Nat.mul_right_comm]
    have := Nat.mul_le_mul (show l2 ≤ 4294967295 by omega) (Nat.le_refl (2 ^ h))
    have h4 : (l1 * 2 ^ h) * 4294967296 + l2 * 2 ^ h < (l1 * 2 ^ h + 1) * 4294967296 + l2 * 2 ^ h := by omega
    have hq : l1 * 2 ^ h + 1 ≤ 4294967296 := by omega
    have hlow : l2 * 2 ^ h < 4294967296 * 2 ^ h := Nat.mul_lt_mul_of_pos_right b2 (Nat.pow_pos (by omega))
    have hd : 2 ^ h ∣ l1 * 2 ^ h := Nat.dvd_mul_left _ _
    have hd2 : 2 ^ h ∣ 4294967296 := ⟨2 ^ (32 - h), pow_dvd32 hh⟩
    have hgap : l1 * 2 ^ h + 2 ^ h ≤ 4294967296 := by
      obtain ⟨m, hm2⟩ := hd2
      have : l1 < m := by
        rcases Nat.lt_or_ge l1 m with hm3 | hm3
        · exact hm3
        · have := Nat.mul_le_mul_right (2 ^ h) hm3
          rw [Nat.mul_comm m] at this
          omega
      have := Nat.mul_le_mul_right (2 ^ h) (show l1 + 1 ≤ m from this)
      rw [Nat.add_mul, Nat.one_mul, Nat.mul_comm m] at this
      omega
    omega
  have hor2 := or_lead ha b3 hh
  have hsh : IntKind.u64.wrap ((a : Int) * 2 ^ h) = ((a * 2 ^ h : Nat) : Int) := by
    rw [show (a : Int) * 2 ^ h = ((a * 2 ^ h : Nat) : Int) from by rw [Int.natCast_mul, Int.natCast_pow]; rfl]
    exact wrap_u64_nat _ ha
  rw [ea] at hor
  have HM := Lib.hid hm
  have H1 := Lib.hid h1
  have H2 := Lib.hid h2
  have H3 := Lib.hid h3
  have HL := Lib.hid hl
  have HA := Lib.hid ea
  obtain ⟨E, eE⟩ : ∃ E, v / (2 ^ (32 - h) * 4294967296 ^ N) = E := ⟨_, rfl⟩
  have hE := HE.out
  rw [eE, HA.out] at hE
  rw [← hE] at hor2
  rw [eE]
  clear h1 h2 h3 ea hm hl hpow hE
  go_enter Tryd.func85, Tryd.ntmps85
  go_wp2_with fail
  refine (limb_is A (len v) c (limbs v) _ l1 _ (len_limbs v) HM.out (by have := HL.out; omega) (by omega) (by omega) (by rw [show ((N : Int) + 3 - 1).toNat = N + 2 from by omega]; exact H1.out)).mono ?_
  rintro e w1 ⟨rfl, rfl⟩
  go_wp2_with fail
  refine (limb_is A (len v) c (limbs v) _ l2 _ (len_limbs v) HM.out (by have := HL.out; omega) (by omega) (by omega) (by rw [show ((N : Int) + 3 - 2).toNat = N + 1 from by omega]; exact H2.out)).mono ?_
  rintro e w1 ⟨rfl, rfl⟩
  go_wp2_with fail
  have hs32 : (32 : Int) - (h : Int) = ((32 - h : Nat) : Int) := by omega
  have hi3 : ((N : Int) + 3 - 3).toNat = N := by omega
  have hi4 : IntKind.i64.wrap (N : Int) = (N : Int) := by rw [IntKind.wrap_i64]; omega
  have hd3 : (l3 : Int) / 2 ^ (32 - h) = ((l3 / 2 ^ (32 - h) : Nat) : Int) := by rw [Int.natCast_ediv, Int.natCast_pow]; rfl
  rw [← hd3, show ((a * 2 ^ h : Nat) : Int) = (a : Int) * 2 ^ h from by rw [Int.natCast_mul, Int.natCast_pow]; rfl] at hor2
  obtain ⟨H2, e2⟩ : ∃ H2, 32 - h = H2 := ⟨_, rfl⟩
  rw [e2] at hor2 hd3 hs32
  have hH2 : H2 ≤ 32 := by omega
  have hw3 : IntKind.u64.wrap (l3 : Int) = (l3 : Int) := by rw [IntKind.wrap_u64]; omega
  have hw4 : IntKind.i64.wrap (H2 : Int) = (H2 : Int) := by rw [IntKind.wrap_i64]; omega
  clear e2 hd3
  go_quiet ((go_at_call 65; exact Calls.quiet_of (limb_q A (len v) c (limbs v) _ l3 _ (len_limbs v) HM.out (by have := HL.out; omega) (by omega) (by omega) (by rw [Int.toNat_natCast]; exact H3.out))))
  go_wp2
  go_ret
  exact ⟨rfl, _, rfl⟩
end Go.Proofs.YtjajmonhcnmidaaDoor
