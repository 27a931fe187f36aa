/- Walks: the reference's Small. -/
import Derived.Test.YtdofolejfdfocaaDoorqRPlus
import Derived.Test.YtdofolejfdfocaaDoorqR3
namespace Go.Proofs.YtdofolejfdfocaaDoor
open Go.RowKit

theorem val_drop {ms : List Nat} {k : Nat} (hk : 0 < k) (h : k ≤ ms.length) : val (ms.drop (k - 1)) = ms.getD (k - 1) 0 + 4294967296 * val (ms.drop k) := by
  have hlt : k - 1 < ms.length := by omega
  rw [List.drop_eq_getElem_cons hlt, show k - 1 + 1 = k by omega, getD_of_lt hlt]
  rfl
theorem val_drop_le (ms : List Nat) (k : Nat) : val (ms.drop k) ≤ val ms := by
  induction ms generalizing k with
  | nil => simp
  | cons x l ih =>
    cases k with
    | zero => simp
    | succ k =>
      have := ih k
      simp only [List.drop_succ_cons, val]
      omega

theorem wrap_small {x : Nat} (h : (x : Int) ≤ 9223372036854775807) : IntKind.i64.wrap (x : Int) = (x : Int) := by rw [IntKind.wrap_i64]; omega
theorem wrap_negS {x : Nat} (h : (x : Int) ≤ 9223372036854775808) : IntKind.i64.wrap (-(IntKind.i64.wrap (x : Int))) = -(x : Int) := by
  by_cases h' : (x : Int) ≤ 9223372036854775807
  · rw [wrap_small h', IntKind.wrap_i64]; omega
  · obtain rfl : x = 9223372036854775808 := by omega
    decide

set_option maxHeartbeats 1600000 in
theorem RSmall_any (v : Value) (z : Int) (w : World) (h : IntAt w v z) (hl : len z.natAbs ≤ 1099511627776) :
    Calls Tryd.prog 33 #[v] w fun e w' => ∃ r, e = .returned (.tuple #[.int .i64 r, .bool (inI64 z)]) ∧ (inI64 z = true → r = z) ∧ Below w.heap.size w w' := by
  obtain ⟨x, hx⟩ : ∃ n, z.natAbs = n := ⟨_, rfl⟩
  obtain ⟨p, hp⟩ : ∃ s, decide (z < 0) = s := ⟨_, rfl⟩
  rw [hx] at hl
  have sa := sgn_of z
  rw [hx, hp] at sa
  obtain ⟨A, c, rfl, HA⟩ := h.parts_ hx hp
  have HX := Lib.hid hx
  have SA := Lib.hid sa
  have HM := Lib.hid (HA.out.into (below_alloc w (.cells #[.bool p, .slice A (len x) c] 27))).mem.2.2
  have HB := Lib.hid (below_alloc w (.cells #[.bool p, .slice A (len x) c] 27))
  obtain ⟨ca0, ca1, _, _, _⟩ := box_in (heap1 w (.cells #[.bool p, .slice A (len x) c] 27)) (Below.refl _ _)
  clear hx hp h HA sa
  rcases Nat.lt_or_ge 2 (len x) with h2 | h2
  · have hd : decide ((2 : Int) < (len x : Int)) = true := by simp; omega
    have hd' : decide (2 < len x) = true := by simp; omega
    have hbig := pow_le_of_len h2
    rw [show 4294967296 ^ 2 = 18446744073709551616 from rfl] at hbig
    have hno : inI64 z = false := by simp [inI64]; have := HX.out; omega
    have HN := Lib.hid hno
    clear hno hbig
    go_enter Tryd.func33, Tryd.ntmps33
    go_wp2
    refine bodyPost_ret (v := .tuple #[.int .i64 0, .bool false]) (by simp [results, Tryd.results33, go_sem]) rfl ⟨0, by rw [HN.out], fun h => absurd (HN.out.symm.trans h) Bool.false_ne_true, HB.out⟩
  · have hd : decide ((2 : Int) < (len x : Int)) = false := by simp; omega
    have hd' : decide (2 < len x) = false := by simp; omega
    have hx64 : x < 18446744073709551616 := by
      have h3 := lt_pow_len x
      have h4 : 4294967296 ^ len x ≤ 4294967296 ^ 2 := Nat.pow_le_pow_right (by decide) h2
      rw [show 4294967296 ^ 2 = 18446744073709551616 from rfl] at h4
      omega
    go_enter Tryd.func33, Tryd.ntmps33
    go_wp2_with fail
    generalize w.alloc (.cells #[.bool p, .slice A (len x) c] 27) = W at *
    go_loop [4, 5] (fun mm i => ∃ k : Nat, k ≤ len x ∧ i = .int .i64 ((k : Int) - 1) ∧ mm = .int .u64 (val ((limbs x).drop k) : Nat)) (fun _ i => (intOf i + 1).toNat)
    case atStart => exact ⟨len x, Nat.le_refl _, rfl, by rw [List.drop_eq_nil_of_le (by rw [len_limbs]; exact Nat.le_refl _)]; rfl⟩
    case round =>
      obtain ⟨k, hk, rfl, rfl⟩ := hrel
      rcases Nat.eq_zero_or_pos k with hk0 | hk0
      · subst hk0
        have hM : val ((limbs x).drop 0) = x := by rw [List.drop_zero, val_limbs]
        rw [hM]
        obtain ⟨r1, hr1⟩ : ∃ r, IntKind.i64.wrap (x : Int) = r := ⟨_, rfl⟩
        obtain ⟨r2, hr2⟩ : ∃ r, IntKind.i64.wrap (-r1) = r := ⟨_, rfl⟩
        have HR1 := Lib.hid hr1
        have HR2 := Lib.hid hr2
        cases p
        · have hz : inI64 z = decide ((x : Int) ≤ 9223372036854775807) := by
            have := SA.out
            simp only [sgn] at this
            rw [← this]
            simp [inI64]
          have HZ := Lib.hid hz
          clear hz
          go_wp2
          refine bodyPost_ret (v := .tuple #[.int .i64 r1, .bool (decide ((x : Int) ≤ 9223372036854775807))]) (by simp [results, Tryd.results33, go_sem]) rfl ⟨r1, by rw [HZ.out], fun h => ?_, HB.out⟩
          rw [HZ.out] at h
          have h' := of_decide_eq_true h
          exact (HR1.out.symm.trans (wrap_small h')).trans SA.out
        · have hz : inI64 z = decide ((x : Int) ≤ 9223372036854775808) := by
            have := SA.out
            simp only [sgn] at this
            rw [← this]
            simp [inI64]
          have HZ := Lib.hid hz
          clear hz
          go_wp2
          refine bodyPost_ret (v := .tuple #[.int .i64 r2, .bool (decide ((x : Int) ≤ 9223372036854775808))]) (by simp [results, Tryd.results33, go_sem]) rfl ⟨r2, by rw [HZ.out], fun h => ?_, HB.out⟩
          rw [HZ.out] at h
          have h' := of_decide_eq_true h
          rw [← HR2.out, ← HR1.out, wrap_negS h']
          exact SA.out
      · have hpos : decide ((0 : Int) ≤ (k : Int) - 1) = true := by simp; omega
        obtain ⟨ad, rfl, hlt, hcell⟩ := HM.out.raw.at_ (show k - 1 < (limbs x).length by rw [len_limbs]; omega)
        have hl32 := (limbs_32 x).get (show k - 1 < (limbs x).length by rw [len_limbs]; omega)
        have hg := getD_of_lt (show k - 1 < (limbs x).length by rw [len_limbs]; omega)
        have hdrop := val_drop hk0 (show k ≤ (limbs x).length by rw [len_limbs]; exact hk)
        have hle := val_drop_le (limbs x) (k - 1)
        rw [val_limbs] at hle
        rw [hg] at hdrop
        generalize (limbs x)[k - 1]'(by rw [len_limbs]; omega) = l at *
        have HD := Lib.hid hdrop
        have hbd : 4294967296 * val ((limbs x).drop k) + l < 18446744073709551616 := by omega
        generalize hM : val ((limbs x).drop k) = M at *
        clear hg hdrop hle
        have b1 : (0 : Int) ≤ (k : Int) - 1 := by omega
        have b2 : (k : Int) - 1 < (len x : Int) := by omega
        have hcast : (k : Int) - 1 - 1 = ((k - 1 : Nat) : Int) - 1 := by omega
        have HC := Lib.hid hcast
        clear hcast hM
        go_wp2_with fail
        go_round
        case rel => exact ⟨k - 1, by omega, by rw [HC.out], by rw [HD.out]; go_num⟩
        case measure => simp [intOf]; omega
end Go.Proofs.YtdofolejfdfocaaDoor
