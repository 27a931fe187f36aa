/- The law IntegerGcd answers true, given the fixed examples (written by wip/tools/gen_gcd.py). -/
import Derived.Test.YtdofolejfdfocaaDoorqDvsr
import Derived.Test.YtdofolejfdfocaaDoorqRDvP
namespace Go.Proofs.YtdofolejfdfocaaDoor
open Go.RowKit

theorem sm_gcd {x y : Int} {i j : Nat} (hx : Sm x i) (hy : Sm y j) : Sm ((Int.gcd x y : Nat) : Int) (max i j) := by
  unfold Sm
  show Nat.gcd x.natAbs y.natAbs < _
  rcases Nat.eq_zero_or_pos x.natAbs with h | h
  · rw [h, Nat.gcd_zero_left]
    exact Nat.lt_of_lt_of_le hy (Nat.pow_le_pow_right (by decide) (Nat.le_max_right _ _))
  · exact Nat.lt_of_le_of_lt (Nat.le_of_dvd h (Nat.gcd_dvd_left _ _)) (Nat.lt_of_lt_of_le hx (Nat.pow_le_pow_right (by decide) (Nat.le_max_left _ _)))
theorem gcd_swap (x y : Int) : ((Int.gcd x y : Nat) : Int) = ((Int.gcd y x : Nat) : Int) := by rw [Int.gcd_comm]
theorem gcd_abs (x y z : Int) : ((Int.gcd (x * z) (y * z) : Nat) : Int) = ((Int.gcd x y : Nat) : Int) * ((z.natAbs : Nat) : Int) := by rw [Int.gcd_mul_right, Int.natCast_mul]
theorem sgn_ne {z : Int} (h : z ≠ 0) : (Int.sign z == 0) = false := by simpa [Int.sign_eq_zero_iff_zero] using h
theorem sgn_pos {n : Nat} (h : ((n : Nat) : Int) ≠ 0) : decide (Int.sign ((n : Nat) : Int) > 0) = true := by
  rw [Int.sign_eq_one_of_pos (by omega)]
  decide
theorem dvd_l (x y : Int) : (Int.sign (x % ((Int.gcd x y : Nat) : Int)) == 0) = true := by
  rw [Int.emod_eq_zero_of_dvd (Int.gcd_dvd_left x y)]
  rfl
theorem dvd_r (x y : Int) : (Int.sign (y % ((Int.gcd x y : Nat) : Int)) == 0) = true := by
  rw [Int.emod_eq_zero_of_dvd (Int.gcd_dvd_right x y)]
  rfl
theorem kGcd {x y : Int} {i j : Nat} {va vb : Value} {w : World} (ha : (intF x).p va w) (hb : (intF y).p vb w) (sx : Sm x i) (sy : Sm y j) (hi : i ≤ 1000) (hj : j ≤ 1000) : Calls Tryd.prog 16 #[va, vb] w (GivesP (intF ((Int.gcd x y : Nat) : Int)) w) :=
  Gcd_from va vb x y w ha hb (by have := sx.len hi; omega) (by have := sy.len hj; omega) fun u v W hu hv => divisor_any u v _ _ W hu hv (sx.len hi) (sy.len hj)
theorem glpl_quadrature_integer_Gcd : Plainly 16 := fun _ _ => by simp [go_sem]
theorem glpl_quadrature_quadraturelaw01_made : Plainly 5 := fun _ _ => by simp [go_sem]
theorem glpl_quadrature_quadraturelaw01_sanity : Plainly 4 := fun _ _ => by simp [go_sem]
theorem glpl_quadrature_quadratureref01_DivMod : Plainly 32 := fun _ _ => by simp [go_sem]
theorem glpl_quadrature_quadratureref01_Made : Plainly 19 := fun _ _ => by simp [go_sem]
theorem glpl_quadrature_quadratureref01_Mul : Plainly 30 := fun _ _ => by simp [go_sem]
theorem glpl_quadrature_quadratureref01_Same : Plainly 10 := fun _ _ => by simp [go_sem]
theorem glpl_quadrature_quadratureref01_Sign : Plainly 31 := fun _ _ => by simp [go_sem]
end Go.Proofs.YtdofolejfdfocaaDoor
