/- The walks of divide for long numbers; DivMod for all. -/
import Derived.Test.YtjajmonhcnmidaaDoorGm
import Derived.Test.YtjajmonhcnmidaaDoorqTx0
namespace Go.Proofs.YtjajmonhcnmidaaDoor
open Go.RowKit

theorem PRow.nat {w : World} {g c : Nat} {ms : List Nat} (h : PRow w g ms) (h32 : L32 ms) (hc : ms.length ≤ c) : NatAt w (.slice (some ⟨g, 0, none⟩) (len (val ms)) c) (val ms) := by
  obtain ⟨e1, e2, _⟩ := limbs_val h32
  refine ⟨_, c, rfl, by omega, ?_⟩
  rw [e1]
  exact h.mem.take _
theorem len_one {y : Nat} (h : len y = 1) : y < 4294967296 ∧ 0 < y ∧ (limbs y).getD 0 0 = y := by
  have h1 := lt_pow_len y
  rw [h, Nat.pow_one] at h1
  have h0 : 0 < y := by
    rcases Nat.eq_zero_or_pos y with e | e
    · subst e; rw [len_zero] at h; omega
    · exact e
  refine ⟨h1, h0, ?_⟩
  rw [limbs_pos h0]
  simp only [List.getD_cons_zero]
  omega

set_option maxHeartbeats 1600000 in
theorem divide_one (va vb : Value) (x y : Nat) (w : World) (ha : NatAt w va x) (hb : NatAt w vb y) (hla : len x ≤ 1099511627776) (h1 : len y = 1) (h3 : 3 ≤ len x) (hle : y ≤ x) :
    Calls Tryd.prog 54 #[va, vb] w (GivesDiv (x / y) (x % y) w) := by
  obtain ⟨hy32, hy0, hyg⟩ := len_one h1
  obtain ⟨A, c, rfl, HA⟩ := ha.open_
  obtain ⟨B, d, rfl, HB⟩ := hb.open_
  obtain ⟨ad, rfl, _, hca⟩ := HA.out.mem.2.2.at_ (show 0 < (limbs x).length by rw [len_limbs]; omega)
  obtain ⟨v, hc, hv0⟩ : ∃ v : Int, cmpN x y = v ∧ 0 ≤ v := ⟨_, rfl, by rcases Nat.lt_or_ge y x with h | h; rw [cmpN_gt h]; omega; rw [cmpN_eq (by omega)]; omega⟩
  have HC := Lib.hid hc
  have hl2 : decide ((len x : Int) ≤ 2) = false := by simp; omega
  have hl2' : decide (len x ≤ 2) = false := by simp; omega
  have hl1 : ((len y : Int) == 1) = true := by simp [h1]
  have hr : x % y < 4294967296 := Nat.lt_of_lt_of_le (Nat.mod_lt _ hy0) (Nat.le_of_lt hy32)
  have H1 := Lib.hid h1
  have HYG := Lib.hid hyg
  clear hc hca h1 hyg
  go_enter Tryd.func54, Tryd.ntmps54
  go_wp2_with fail
  refine (compare_b _ _ _ _ x y _ HA.out HB.out (by omega) (by have := H1.out; omega)).mono ?_
  rintro e w1 ⟨rfl, hb1⟩
  have HB1 := Lib.hid hb1
  have HA1 := Lib.hid (HA.out.into hb1)
  have HY1 := Lib.hid (HB.out.into hb1)
  clear hb1
  rw [HC.out]
  go_wp2_with fail
  refine (Clone_any ad x c w1 HA1.out (by omega) (by omega)).mono ?_
  rintro e w2 ⟨g, c', rfl, hp2, hg2, hc2, hb2⟩
  have HP2 := Lib.hid hp2
  have HB2 := Lib.hid (step_below HB1.out hb2)
  have HY2 := Lib.hid (HY1.out.into hb2)
  have hg : w.heap.size ≤ g := by have := HB1.out.size; omega
  have HCC := Lib.hid hc2
  clear hp2 hb2 hg2 hc2
  obtain ⟨bd, eB, _, hcb⟩ := HY2.out.mem.2.2.at_ (show 0 < (limbs y).length by rw [len_limbs, H1.out]; decide)
  subst eB
  rw [← getD_of_lt (show 0 < (limbs y).length by rw [len_limbs, H1.out]; decide), HYG.out, show bd.add 0 = bd from by simp [Addr.add]] at hcb
  rw [H1.out]
  go_wp2_with fail
  refine (shorten_any g (len x) c' (limbs x) y w2 rfl HP2.out (limbs_32 _) (by omega) hy0 hy32).mono ?_
  rintro e w3 ⟨rfl, ⟨ds, s1, s2, s3, s4⟩, s5⟩
  rw [val_limbs] at s3
  have S1 := Lib.hid s1
  have S2 := Lib.hid s2
  have S3 := Lib.hid s3
  have S4 := Lib.hid s4
  have HB3 := Lib.hid (HB2.out.grown s5 HB2.out.size (fun k hk => by injection hk with hk; omega))
  clear s1 s2 s3 s4 s5
  rw [val_limbs]
  go_wp2_with fail
  refine (trim_k _ (len x) c' ds _ S1.out S4.out.mem (by omega) HCC.out S2.out).mono ?_
  rintro e w4 ⟨rfl, hw⟩
  replace hw := hw.symm
  subst hw
  go_wp2_with fail
  refine (fromWord_any (x % y) _ (by omega)).mono ?_
  rintro e w5 ⟨v5, rfl, hv5, hb5⟩
  go_wp2
  go_ret2
  refine ⟨_, _, rfl, ?_, hv5, step_below HB3.out hb5⟩
  have := (S4.out.nat S2.out (c := c') (by rw [S1.out]; exact HCC.out)).into hb5
  rw [← S3.out]
  exact this

set_option maxHeartbeats 1600000 in
theorem divide_long (va vb : Value) (x y : Nat) (w : World) (ha : NatAt w va x) (hb : NatAt w vb y) (hla : len x ≤ 1099511627775) (h1 : 2 ≤ len y) (h3 : 3 ≤ len x) (hle : y ≤ x) :
    Calls Tryd.prog 54 #[va, vb] w (GivesDiv (x / y) (x % y) w) := by
  have hlen : len y ≤ len x := len_mono hle
  obtain ⟨A, c, rfl, HA⟩ := ha.open_
  obtain ⟨B, d, rfl, HB⟩ := hb.open_
  obtain ⟨v, hc, hv0⟩ : ∃ v : Int, cmpN x y = v ∧ 0 ≤ v := ⟨_, rfl, by rcases Nat.lt_or_ge y x with h | h; rw [cmpN_gt h]; omega; rw [cmpN_eq (by omega)]; omega⟩
  have HC := Lib.hid hc
  have hl2 : decide ((len x : Int) ≤ 2) = false := by simp; omega
  have hl2' : decide (len x ≤ 2) = false := by simp; omega
  have hl1 : ((len y : Int) == 1) = false := by simp; omega
  clear hc
  go_enter Tryd.func54, Tryd.ntmps54
  go_wp2_with fail
  refine (compare_b _ _ _ _ x y _ HA.out HB.out (by omega) (by omega)).mono ?_
  rintro e w1 ⟨rfl, hb1⟩
  have HB1 := Lib.hid hb1
  have HA1 := Lib.hid (HA.out.into hb1)
  have HY1 := Lib.hid (HB.out.into hb1)
  clear hb1
  rw [HC.out]
  go_wp2_with fail
  refine (divideLong_any A B c d x y w1 HA1.out HY1.out hla h1 hle).mono ?_
  rintro e w2 ⟨vq, vr, rfl, hq, hr, hb2⟩
  go_wp2
  go_ret2
  exact ⟨_, _, rfl, hq, hr, step_below HB1.out hb2⟩
theorem divide_any (va vb : Value) (x y : Nat) (w : World) (ha : NatAt w va x) (hb : NatAt w vb y) (hla : len x ≤ 1099511627775) (hlb : len y ≤ 1099511627775) (hy : 0 < y) :
    Calls Tryd.prog 54 #[va, vb] w (GivesDiv (x / y) (x % y) w) := by
  rcases Nat.lt_or_ge x y with hlt | hge
  · exact divide_lt va vb x y w ha hb (by omega) (by omega) hlt
  · rcases Nat.lt_or_ge (len x) 3 with h3 | h3
    · refine divide_small va vb x y w ha hb hy hge ?_
      have h1 := lt_pow_len x
      have h2 : 4294967296 ^ len x ≤ 4294967296 ^ 2 := Nat.pow_le_pow_right (by decide) (by omega)
      rw [show 4294967296 ^ 2 = 18446744073709551616 from rfl] at h2
      omega
    · rcases Nat.lt_or_ge (len y) 2 with h2 | h2
      · have h0 : len y ≠ 0 := fun h => by rw [len_eq_zero] at h; omega
        exact divide_one va vb x y w ha hb (by omega) (by omega) h3 hge
      · exact divide_long va vb x y w ha hb hla h2 h3 hge
theorem DivMod_any (va vb : Value) (a b : Int) (w : World) (ha : IntAt w va a) (hb : IntAt w vb b) (hla : len a.natAbs ≤ 549755813888) (hlb : len b.natAbs ≤ 549755813888) (hb0 : b ≠ 0) :
    Calls Tryd.prog 31 #[va, vb] w (GivesDM (a / b) (a % b) 0 w) :=
  DivMod_from va vb a b w ha hb hla hlb hb0 fun u v W hu hv => divide_any u v _ _ W hu hv (by omega) (by omega) (by omega)
end Go.Proofs.YtjajmonhcnmidaaDoor
