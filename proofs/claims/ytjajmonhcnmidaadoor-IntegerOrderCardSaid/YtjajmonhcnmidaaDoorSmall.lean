/- Walks: Small. -/
import Derived.Test.YtjajmonhcnmidaaDoorDM2
namespace Go.Proofs.YtjajmonhcnmidaaDoor
open Go.RowKit

def inI64 (z : Int) : Bool := decide (-9223372036854775808 ≤ z ∧ z ≤ 9223372036854775807)
def GivesSmall (z : Int) (w : World) (e : Ending) (w' : World) : Prop := e = .returned (.tuple #[.int .i64 (if inI64 z then z else 0), .bool (inI64 z)]) ∧ Below w.heap.size w w'
theorem GivesSmall.yes {z r : Int} {w w' : World} (h0 : -9223372036854775808 ≤ z) (h1 : z ≤ 9223372036854775807) (hr : r = z) (hb : Below w.heap.size w w') : GivesSmall z w (.returned (.tuple #[.int .i64 r, .bool true])) w' := by
  subst hr
  have e : inI64 r = true := by simp [inI64, h0, h1]
  exact ⟨by rw [e]; rfl, hb⟩
theorem GivesSmall.no {z : Int} {w w' : World} (h0 : z < -9223372036854775808 ∨ 9223372036854775807 < z) (hb : Below w.heap.size w w') : GivesSmall z w (.returned (.tuple #[.int .i64 0, .bool false])) w' := by
  have e : inI64 z = false := by simp [inI64]; omega
  exact ⟨by rw [e]; rfl, hb⟩

set_option maxHeartbeats 1600000 in
theorem Small_any (v : Value) (z : Int) (w : World) (h : IntAt w v z) (hl : len z.natAbs ≤ 1099511627776) :
    Calls Tryd.prog 13 #[v] w (GivesSmall z w) := by
  obtain ⟨x, hx⟩ : ∃ n, z.natAbs = n := ⟨_, rfl⟩
  obtain ⟨p, hp⟩ : ∃ s, decide (z < 0) = s := ⟨_, rfl⟩
  rw [hx] at hl
  have sa := sgn_of z
  rw [hx, hp] at sa
  obtain ⟨A, c, rfl, HA⟩ := h.parts_ hx hp
  have HIA := Lib.hid (IntAt.back HA.out hx hp)
  have HX := Lib.hid hx
  have HP := Lib.hid hp
  have SA := Lib.hid sa
  clear hx hp h HA sa
  go_enter Tryd.func13, Tryd.ntmps13
  go_wp2_with fail
  refine (parts_is _ z x p _ (HIA.out.into (below_alloc _ _)) HX.out HP.out (by omega)).mono ?_
  rintro e w1 ⟨A1, c1, rfl, H1, hb1⟩
  have hB1 := Lib.hid (step_below (below_alloc _ _) hb1)
  clear hb1
  rcases Nat.lt_or_ge 2 (len x) with h2 | h2
  · have hd : decide ((2 : Int) < (len x : Int)) = true := by simp; omega
    have hd' : decide (2 < len x) = true := by simp; omega
    have hbig := pow_le_of_len h2
    rw [show 4294967296 ^ 2 = 18446744073709551616 from rfl] at hbig
    have hno : z < -9223372036854775808 ∨ 9223372036854775807 < z := by have := HX.out; omega
    have HN := Lib.hid hno
    clear hno hbig
    go_wp2
    exact bodyPost_ret (v := .tuple #[.int .i64 0, .bool false]) (by simp [results, Tryd.results13, go_sem]) rfl (GivesSmall.no HN.out hB1.out)
  · have hd : decide ((2 : Int) < (len x : Int)) = false := by simp; omega
    have hd' : decide (2 < len x) = false := by simp; omega
    have hx64 : x < 18446744073709551616 := by
      have h3 := lt_pow_len x
      have h4 : 4294967296 ^ len x ≤ 4294967296 ^ 2 := Nat.pow_le_pow_right (by decide) h2
      rw [show 4294967296 ^ 2 = 18446744073709551616 from rfl] at h4
      omega
    go_wp2_with fail
    refine (toWord_any A1 c1 x _ H1.out.mem.2.2 hx64).mono ?_
    rintro e w' ⟨rfl, rfl⟩
    rcases Nat.lt_or_ge x 9223372036854775808 with h5 | h5
    · have ha : decide ((x : Int) ≤ 9223372036854775807) = true := by simp; omega
      have ha' : decide (x ≤ 9223372036854775807) = true := by simp; omega
      have hw : IntKind.i64.wrap (x : Int) = (x : Int) := by rw [IntKind.wrap_i64]; omega
      have hw' : IntKind.i64.wrap (-(x : Int)) = -(x : Int) := by rw [IntKind.wrap_i64]; omega
      cases p
      · have hz : (x : Int) = z := SA.out
        have HZ := Lib.hid hz
        clear hz
        go_wp2
        exact bodyPost_ret (v := .tuple #[.int .i64 x, .bool true]) (by simp [results, Tryd.results13, go_sem]) rfl (GivesSmall.yes (by have := HZ.out; omega) (by have := HZ.out; omega) HZ.out hB1.out)
      · have hz : -(x : Int) = z := SA.out
        have HZ := Lib.hid hz
        clear hz
        go_wp2
        exact bodyPost_ret (v := .tuple #[.int .i64 (-(x : Int)), .bool true]) (by simp [results, Tryd.results13, go_sem]) rfl (GivesSmall.yes (by have := HZ.out; omega) (by have := HZ.out; omega) HZ.out hB1.out)
    · have ha : decide ((x : Int) ≤ 9223372036854775807) = false := by simp; omega
      have ha' : decide (x ≤ 9223372036854775807) = false := by simp; omega
      cases p
      · have hz : (x : Int) = z := SA.out
        have HZ := Lib.hid hz
        clear hz
        go_wp2
        exact bodyPost_ret (v := .tuple #[.int .i64 0, .bool false]) (by simp [results, Tryd.results13, go_sem]) rfl (GivesSmall.no (by have := HZ.out; omega) hB1.out)
      · have hz : -(x : Int) = z := SA.out
        have HZ := Lib.hid hz
        clear hz
        by_cases h6 : x = 9223372036854775808
        · subst h6
          go_wp2
          exact bodyPost_ret (v := .tuple #[.int .i64 (-9223372036854775808), .bool true]) (by simp [results, Tryd.results13, go_sem]) rfl (GivesSmall.yes (by have := HZ.out; omega) (by have := HZ.out; omega) HZ.out hB1.out)
        · have h7 : ((x : Int) == 9223372036854775808) = false := by simp; omega
          have h7' : (x == 9223372036854775808) = false := by simp; omega
          go_wp2
          exact bodyPost_ret (v := .tuple #[.int .i64 0, .bool false]) (by simp [results, Tryd.results13, go_sem]) rfl (GivesSmall.no (by have := HZ.out; omega) hB1.out)
end Go.Proofs.YtjajmonhcnmidaaDoor
