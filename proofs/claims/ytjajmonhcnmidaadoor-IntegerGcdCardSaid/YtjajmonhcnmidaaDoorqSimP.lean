/- Lehmer's steps: the arithmetic. -/
import Derived.Test.YtjajmonhcnmidaaDoorqLead
namespace Go.Proofs.YtjajmonhcnmidaaDoor
open Go.RowKit

/-- The state before a round: x and y are the rests of X0 and Y0 after the steps so far. -/
structure Sim (X0 Y0 x y a1 a2 b1 b2 : Nat) (odd : Bool) : Prop where
  ex : if odd then x + b1 * Y0 = a1 * X0 else x + a1 * X0 = b1 * Y0
  ey : if odd then y + a2 * X0 = b2 * Y0 else y + b2 * Y0 = a2 * X0
  det : if odd then a1 * b2 = a2 * b1 + 1 else a2 * b1 = a1 * b2 + 1
  sum : a1 + a2 ≤ b1 + b2
  a2b2 : a2 ≤ b2
  a1b2 : a1 ≤ b2
  b1b2 : b1 ≤ b2
  b2pos : 1 ≤ b2
  bigX : x * b2 + y * b1 = X0
  bigY : x * a2 + y * a1 = Y0
  yx : y ≤ x
  start : (b1 = 0 ∧ 1 ≤ a1) ∨ (1 ≤ b1 ∧ 1 ≤ a2 ∧ a1 ≤ b1)
theorem Sim.init {X0 Y0 : Nat} (h : Y0 ≤ X0) : Sim X0 Y0 X0 Y0 1 0 0 1 true :=
  ⟨by simp, by simp, by simp, by omega, by omega, by omega, by omega, by omega, by simp, by simp, h, .inl ⟨rfl, by omega⟩⟩

theorem mul_le_T {m ν T x : Nat} (hν : ν < T) (hm : m ≤ x) : m * ν ≤ T * x := by
  rw [Nat.mul_comm T]
  exact Nat.mul_le_mul hm (by omega)
theorem sim_one {u v T U0 V0 μ ν x k m : Nat} (hu : u = T * U0 + μ) (hv : v = T * V0 + ν) (hν : ν < T) (e : x + m * V0 = k * U0) (hm : m ≤ x) : ∃ X, X + m * v = k * u ∧ X + m * ν = T * x + k * μ := by
  have h1 : k * u = T * (k * U0) + k * μ := by rw [hu, Nat.mul_add, Nat.mul_left_comm]
  have h2 : m * v = T * (m * V0) + m * ν := by rw [hv, Nat.mul_add, Nat.mul_left_comm]
  have h3 : T * x + T * (m * V0) = T * (k * U0) := by rw [← Nat.mul_add, e]
  have h4 := mul_le_T hν hm
  exact ⟨T * x + k * μ - m * ν, by omega, by omega⟩
/-- What the steps make of a and b. -/
def Good (a b a0 b0 a1 b1 : Nat) (odd : Bool) : Prop :=
  ∃ A B, (if odd then A + a0 * a = b0 * b ∧ B + b1 * b = a1 * a else A + b0 * b = a0 * a ∧ B + a1 * a = b1 * b) ∧ Nat.gcd A B = Nat.gcd a b ∧ A < a ∧ B < b ∧ B ≤ A
theorem gcd_comb {a b A B a1 a2 b1 b2 : Nat} (ha : a = b2 * A + b1 * B) (hb : b = a2 * A + a1 * B) (h1 : Nat.gcd a b ∣ A) (h2 : Nat.gcd a b ∣ B) : Nat.gcd A B = Nat.gcd a b := by
  apply Nat.dvd_antisymm
  · have d1 := Nat.gcd_dvd_left A B
    have d2 := Nat.gcd_dvd_right A B
    refine Nat.dvd_gcd ?_ ?_
    · have := Nat.dvd_add (Nat.dvd_mul_left_of_dvd d1 b2) (Nat.dvd_mul_left_of_dvd d2 b1)
      rwa [← ha] at this
    · have := Nat.dvd_add (Nat.dvd_mul_left_of_dvd d1 a2) (Nat.dvd_mul_left_of_dvd d2 a1)
      rwa [← hb] at this
  · exact Nat.dvd_gcd h1 h2
theorem dvd_of_add {d A p q : Nat} (h : A + p = q) (hp : d ∣ p) (hq : d ∣ q) : d ∣ A := by
  have := Nat.dvd_sub hq hp
  rwa [show q - p = A by omega] at this
/-- Both rows from the two equations, by the determinant. -/
theorem rows {a b X Y a1 a2 b1 b2 : Nat} (e1 : X + b1 * b = a1 * a) (e2 : Y + a2 * a = b2 * b) (hd : a1 * b2 = a2 * b1 + 1) : a = b2 * X + b1 * Y ∧ b = a2 * X + a1 * Y := by
  have h1 : b2 * X + b2 * (b1 * b) = b2 * (a1 * a) := by rw [← Nat.mul_add, e1]
  have h2 : b1 * Y + b1 * (a2 * a) = b1 * (b2 * b) := by rw [← Nat.mul_add, e2]
  have h3 : a2 * X + a2 * (b1 * b) = a2 * (a1 * a) := by rw [← Nat.mul_add, e1]
  have h4 : a1 * Y + a1 * (a2 * a) = a1 * (b2 * b) := by rw [← Nat.mul_add, e2]
  have k1 : b2 * (a1 * a) = b1 * (a2 * a) + a := by
    rw [← Nat.mul_assoc, Nat.mul_comm b2, hd, Nat.add_mul, Nat.one_mul, Nat.mul_comm a2, Nat.mul_assoc]
  have k2 : b2 * (b1 * b) = b1 * (b2 * b) := Nat.mul_left_comm _ _ _
  have k3 : a1 * (b2 * b) = a2 * (b1 * b) + b := by
    rw [← Nat.mul_assoc, hd, Nat.add_mul, Nat.one_mul, Nat.mul_assoc]
  have k4 : a2 * (a1 * a) = a1 * (a2 * a) := Nat.mul_left_comm _ _ _
  exact ⟨by omega, by omega⟩

/-- A round whose test passes: what was known before it is right of the numbers themselves. -/
theorem Sim.good {a b T X0 Y0 α β x y a1 a2 b1 b2 : Nat} {odd : Bool} (h : Sim X0 Y0 x y a1 a2 b1 b2 odd) (ha : a = T * X0 + α) (hb : b = T * Y0 + β) (hα : α < T) (hβ : β < T)
    (t1 : b2 ≤ y) (t2 : b1 + b2 ≤ x - y) (h1 : b1 ≠ 0) : Good a b a1 b1 a2 b2 (!odd) := by
  obtain ⟨ex, ey, det, sum, a2b2, a1b2, b1b2, b2pos, bigX, bigY, yx, start⟩ := h
  obtain ⟨s1, s2, s3⟩ : 1 ≤ b1 ∧ 1 ≤ a2 ∧ a1 ≤ b1 := by
    rcases start with h | h
    · exact absurd h.1 h1
    · exact h
  have hxy : y + b1 + b2 ≤ x := by omega
  have Txy : T * y + T * b1 + T * b2 ≤ T * x := by
    have := Nat.mul_le_mul_left T hxy
    rwa [Nat.mul_add, Nat.mul_add] at this
  -- x + b1 ≤ X0 and y + b2 ≤ Y0
  have hX0 : x + b1 ≤ X0 := by
    have p1 := Nat.mul_le_mul_left x b2pos
    have p2 := Nat.mul_le_mul_right b1 (show 1 ≤ y by omega)
    omega
  have hY0 : y + b2 ≤ Y0 := by
    have p1 := Nat.mul_le_mul_left x s2
    omega
  have TX := Nat.mul_le_mul_left T hX0
  have TY := Nat.mul_le_mul_left T hY0
  rw [Nat.mul_add] at TX TY
  -- the products
  have q1 : b1 * α + b1 ≤ T * b1 := by rw [Nat.mul_comm T, ← Nat.mul_succ]; exact Nat.mul_le_mul_left b1 hα
  have q2 : b1 * β + b1 ≤ T * b1 := by rw [Nat.mul_comm T, ← Nat.mul_succ]; exact Nat.mul_le_mul_left b1 hβ
  have q3 : b2 * α + b2 ≤ T * b2 := by rw [Nat.mul_comm T, ← Nat.mul_succ]; exact Nat.mul_le_mul_left b2 hα
  have q4 : b2 * β + b2 ≤ T * b2 := by rw [Nat.mul_comm T, ← Nat.mul_succ]; exact Nat.mul_le_mul_left b2 hβ
  have r1 : a1 * α ≤ b1 * α := Nat.mul_le_mul_right α s3
  have r2 : a2 * α ≤ b2 * α := Nat.mul_le_mul_right α a2b2
  have r3 : (a1 + a2) * α ≤ (b1 + b2) * α := Nat.mul_le_mul_right α sum
  rw [Nat.add_mul, Nat.add_mul] at r3
  cases odd
  · simp only [Bool.false_eq_true, if_false] at ex ey det
    obtain ⟨X, x1, x2⟩ := sim_one hb ha hα ex (by omega)
    obtain ⟨Y, y1, y2⟩ := sim_one ha hb hβ ey t1
    obtain ⟨e1, e2⟩ := rows (a := b) (b := a) (X := X) (Y := Y) (a1 := b1) (a2 := b2) (b1 := a1) (b2 := a2) x1 y1 (by rw [Nat.mul_comm b1, Nat.mul_comm b2]; exact det)
    refine ⟨X, Y, ?_, ?_, by omega, by omega, by omega⟩
    · simp only [Bool.not_false, if_true]
      exact ⟨x1, y1⟩
    · have g1 := Nat.gcd_dvd_left a b
      have g2 := Nat.gcd_dvd_right a b
      exact gcd_comb e2 e1 (dvd_of_add x1 (Nat.dvd_mul_left_of_dvd g1 _) (Nat.dvd_mul_left_of_dvd g2 _)) (dvd_of_add y1 (Nat.dvd_mul_left_of_dvd g2 _) (Nat.dvd_mul_left_of_dvd g1 _))
  · simp only [if_true] at ex ey det
    obtain ⟨X, x1, x2⟩ := sim_one ha hb hβ ex (by omega)
    obtain ⟨Y, y1, y2⟩ := sim_one hb ha hα ey (by omega)
    obtain ⟨e1, e2⟩ := rows (X := X) (Y := Y) x1 y1 det
    refine ⟨X, Y, ?_, ?_, by omega, by omega, by omega⟩
    · simp only [Bool.not_true, Bool.false_eq_true, if_false]
      exact ⟨x1, y1⟩
    · have g1 := Nat.gcd_dvd_left a b
      have g2 := Nat.gcd_dvd_right a b
      exact gcd_comb e1 e2 (dvd_of_add x1 (Nat.dvd_mul_left_of_dvd g2 _) (Nat.dvd_mul_left_of_dvd g1 _)) (dvd_of_add y1 (Nat.dvd_mul_left_of_dvd g1 _) (Nat.dvd_mul_left_of_dvd g2 _))
/-- No factor is too large where the first test passes. -/
theorem Sim.small {X0 Y0 x y a1 a2 b1 b2 : Nat} {odd : Bool} (h : Sim X0 Y0 x y a1 a2 b1 b2 odd) (t1 : b2 ≤ y) (hX : X0 < 18446744073709551616) : b2 < 4294967296 := by
  rcases Nat.lt_or_ge b2 4294967296 with h1 | h1
  · exact h1
  · have p1 := Nat.mul_le_mul (show 4294967296 ≤ x by have := h.yx; omega) h1
    have := h.bigX
    omega
/-- The next round's state. -/
theorem Sim.next {X0 Y0 x y a1 a2 b1 b2 q r : Nat} {odd : Bool} (h : Sim X0 Y0 x y a1 a2 b1 b2 odd) (t1 : b2 ≤ y) (_t2 : b1 + b2 ≤ x - y) (hq : q = x / y) (hr : r = x % y) :
    Sim X0 Y0 y r a2 (a1 + q * a2) b2 (b1 + q * b2) (!odd) ∧ y * (b1 + q * b2) ≤ X0 ∧ 1 ≤ q := by
  obtain ⟨ex, ey, det, sum, a2b2, a1b2, b1b2, b2pos, bigX, bigY, yx, start⟩ := h
  have hy : 0 < y := by omega
  have hx : x = q * y + r := by rw [hq, hr, Nat.mul_comm]; exact (Nat.div_add_mod x y).symm
  have hr' : r < y := by rw [hr]; exact Nat.mod_lt _ hy
  have hq1 : 1 ≤ q := by
    rcases Nat.eq_zero_or_pos q with h | h
    · rw [h] at hx; omega
    · exact h
  clear hq hr
  have m1 : a2 * 1 ≤ q * a2 := by rw [Nat.mul_comm]; exact Nat.mul_le_mul_right a2 hq1
  have m2 : b2 * 1 ≤ q * b2 := by rw [Nat.mul_comm]; exact Nat.mul_le_mul_right b2 hq1
  have m3 : q * a2 ≤ q * b2 := Nat.mul_le_mul_left q a2b2
  have m4 : q * a2 + b2 ≤ q * b2 + a2 := by
    obtain ⟨k, rfl⟩ : ∃ k, q = k + 1 := ⟨q - 1, by omega⟩
    have := Nat.mul_le_mul_left k a2b2
    rw [Nat.add_mul, Nat.add_mul, Nat.one_mul, Nat.one_mul]
    omega
  have bX : y * (b1 + q * b2) + r * b2 = X0 := by
    rw [← bigX, hx, Nat.mul_add, Nat.add_mul, ← Nat.mul_assoc, Nat.mul_comm y q]
    omega
  have bY : y * (a1 + q * a2) + r * a2 = Y0 := by
    rw [← bigY, hx, Nat.mul_add, Nat.add_mul, ← Nat.mul_assoc, Nat.mul_comm y q]
    omega
  have hst : 1 ≤ a1 + q * a2 := by rcases start with h | h <;> omega
  refine ⟨⟨?_, ?_, ?_, by omega, by omega, by omega, by omega, by omega, bX, bY, by omega, .inr ⟨b2pos, hst, a2b2⟩⟩, by omega, hq1⟩
  · cases odd
    · simpa using ey
    · simpa using ey
  · cases odd
    · simp only [Bool.false_eq_true, if_false, Bool.not_false, if_true] at *
      have z1 : q * (y + b2 * Y0) = q * (a2 * X0) := by rw [ey]
      rw [Nat.mul_add, ← Nat.mul_assoc, ← Nat.mul_assoc] at z1
      rw [Nat.add_mul, Nat.add_mul]
      omega
    · simp only [if_true, Bool.not_true, Bool.false_eq_true, if_false] at *
      have z1 : q * (y + a2 * X0) = q * (b2 * Y0) := by rw [ey]
      rw [Nat.mul_add, ← Nat.mul_assoc, ← Nat.mul_assoc] at z1
      rw [Nat.add_mul, Nat.add_mul]
      omega
  · cases odd
    · simp only [Bool.false_eq_true, if_false, Bool.not_false, if_true] at *
      rw [Nat.mul_add, Nat.add_mul, Nat.mul_assoc q a2 b2, Nat.mul_left_comm a2 q b2]
      omega
    · simp only [if_true, Bool.not_true, Bool.false_eq_true, if_false] at *
      rw [Nat.mul_add, Nat.add_mul, Nat.mul_assoc q a2 b2, Nat.mul_left_comm a2 q b2]
      omega
end Go.Proofs.YtjajmonhcnmidaaDoor
