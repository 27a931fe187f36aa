/- Natural numbers as lists of limbs to the base 2^32: plain mathematics, no walk. -/
import Derived.Test.YtjajmonhcnmidaaDoorMem
namespace Go.Proofs.YtjajmonhcnmidaaDoor

/-- The value of a list of limbs, the least significant one first. -/
def val : List Nat → Nat
  | [] => 0
  | x :: r => x + 4294967296 * val r

/-- All elements are limbs. -/
def L32 (ms : List Nat) : Prop := ∀ x ∈ ms, x < 4294967296

/-- The limbs of a number, without zeros at the end. -/
def limbs (n : Nat) : List Nat := if h : n = 0 then [] else n % 4294967296 :: limbs (n / 4294967296)
termination_by n
decreasing_by omega

/-- The number of limbs. -/
def len (n : Nat) : Nat := (limbs n).length

theorem limbs_zero : limbs 0 = [] := by unfold limbs; rfl
theorem limbs_pos {n : Nat} (h : 0 < n) : limbs n = n % 4294967296 :: limbs (n / 4294967296) := by
  rw [limbs]; rw [dif_neg (by omega)]
theorem len_zero : len 0 = 0 := by simp [len, limbs_zero]
theorem len_pos {n : Nat} (h : 0 < n) : len n = len (n / 4294967296) + 1 := by simp [len, limbs_pos h]
theorem val_limbs (n : Nat) : val (limbs n) = n := by
  induction n using Nat.strongRecOn with
  | _ n ih =>
    rcases Nat.eq_zero_or_pos n with h | h
    · subst h; rw [limbs_zero]; rfl
    · rw [limbs_pos h, val, ih _ (by omega)]; omega
theorem limbs_32 (n : Nat) : L32 (limbs n) := by
  induction n using Nat.strongRecOn with
  | _ n ih =>
    rcases Nat.eq_zero_or_pos n with h | h
    · subst h; rw [limbs_zero]; intro x hx; cases hx
    · rw [limbs_pos h]
      intro x hx
      rcases List.mem_cons.1 hx with rfl | hx
      · omega
      · exact ih _ (by omega) x hx
theorem limbs_cons {x n : Nat} (hx : x < 4294967296) (h : 0 < x + 4294967296 * n) : limbs (x + 4294967296 * n) = x :: limbs n := by
  rw [limbs_pos h]
  have h1 : (x + 4294967296 * n) % 4294967296 = x := by omega
  have h2 : (x + 4294967296 * n) / 4294967296 = n := by omega
  rw [h1, h2]
theorem L32.cons {x : Nat} {r : List Nat} (h : L32 (x :: r)) : x < 4294967296 ∧ L32 r := ⟨h x (by simp), fun y hy => h y (by simp [hy])⟩
theorem L32.mk {x : Nat} {r : List Nat} (hx : x < 4294967296) (h : L32 r) : L32 (x :: r) := fun y hy => by
  rcases List.mem_cons.1 hy with rfl | hy
  · exact hx
  · exact h y hy
theorem L32.nil_ : L32 [] := fun x hx => by cases hx
theorem L32.at_ {ms : List Nat} (h : L32 ms) (i : Nat) : ms.getD i 0 < 4294967296 := by
  rcases Nat.lt_or_ge i ms.length with hl | hl
  · simp only [List.getD, List.getElem?_eq_getElem hl, Option.getD_some]; exact h _ (List.getElem_mem hl)
  · simp [List.getD, List.getElem?_eq_none hl]
theorem L32.get {ms : List Nat} (h : L32 ms) {i : Nat} (hl : i < ms.length) : ms[i] < 4294967296 := h _ (List.getElem_mem hl)
theorem L32.append {a b : List Nat} (ha : L32 a) (hb : L32 b) : L32 (a ++ b) := fun x hx => (List.mem_append.1 hx).elim (ha x) (hb x)
theorem L32.take {a : List Nat} (ha : L32 a) (k : Nat) : L32 (a.take k) := fun x hx => ha x (List.mem_of_mem_take hx)
theorem L32.drop {a : List Nat} (ha : L32 a) (k : Nat) : L32 (a.drop k) := fun x hx => ha x (List.mem_of_mem_drop hx)

theorem val_append (a b : List Nat) : val (a ++ b) = val a + 4294967296 ^ a.length * val b := by
  induction a with
  | nil => simp [val]
  | cons x r ih => simp only [List.cons_append, val, ih, List.length_cons, Nat.pow_succ]; rw [Nat.mul_add, Nat.mul_comm (4294967296 ^ r.length) 4294967296, Nat.mul_assoc]; omega
theorem val_lt {ms : List Nat} (h : L32 ms) : val ms < 4294967296 ^ ms.length := by
  induction ms with
  | nil => simp [val]
  | cons x r ih =>
    have h1 := ih h.cons.2
    have h2 := h.cons.1
    simp only [val, List.length_cons, Nat.pow_succ]
    omega
/-- The limbs of the value: a beginning of the list; behind it there are zeros. -/
theorem limbs_val {ms : List Nat} (h : L32 ms) : limbs (val ms) = ms.take (len (val ms)) ∧ len (val ms) ≤ ms.length ∧ ∀ i, len (val ms) ≤ i → ms.getD i 0 = 0 := by
  induction ms with
  | nil => simp [val, limbs_zero, len_zero]
  | cons x r ih =>
    obtain ⟨i1, i2, i3⟩ := ih h.cons.2
    have hx := h.cons.1
    rcases Nat.eq_zero_or_pos (x + 4294967296 * val r) with h0 | h0
    · have hv : val (x :: r) = 0 := by simp only [val]; exact h0
      have hx0 : x = 0 := by omega
      have hr0 : val r = 0 := by omega
      rw [hr0, len_zero] at i3
      rw [hv, limbs_zero, len_zero]
      refine ⟨by simp, by omega, fun i _ => ?_⟩
      match i with
      | 0 => simp [hx0]
      | j + 1 => simpa using i3 j (by omega)
    · have e : limbs (val (x :: r)) = x :: limbs (val r) := by simp only [val]; exact limbs_cons hx h0
      have el : len (val (x :: r)) = len (val r) + 1 := by simp [len, e]
      refine ⟨by rw [el, e, List.take_succ_cons, ← i1], by simp [el, i2], fun i hi => ?_⟩
      match i with
      | 0 => omega
      | j + 1 => simpa using i3 j (by omega)
/-- The last limb is not zero. -/
theorem limbs_last {n : Nat} (h : 0 < n) : (limbs n).getD (len n - 1) 0 ≠ 0 := by
  induction n using Nat.strongRecOn with
  | _ n ih =>
    rw [limbs_pos h, len_pos h]
    rcases Nat.eq_zero_or_pos (n / 4294967296) with h0 | h0
    · rw [h0, len_zero, limbs_zero]; simp; omega
    · have := ih _ (by omega) h0
      have hl : len (n / 4294967296) = len (n / 4294967296 / 4294967296) + 1 := len_pos h0
      rw [hl] at this ⊢
      simpa using this
theorem len_limbs (n : Nat) : (limbs n).length = len n := rfl
theorem lt_pow_len (n : Nat) : n < 4294967296 ^ len n := by have := val_lt (limbs_32 n); rwa [val_limbs] at this
theorem len_le {n k : Nat} (h : n < 4294967296 ^ k) : len n ≤ k := by
  induction k generalizing n with
  | zero => have : n = 0 := by simpa using h
            subst this; simp [len_zero]
  | succ k ih =>
    rcases Nat.eq_zero_or_pos n with h0 | h0
    · subst h0; simp [len_zero]
    · rw [len_pos h0]
      have : n / 4294967296 < 4294967296 ^ k := by rw [Nat.pow_succ] at h; omega
      have := ih this
      omega
theorem pow_le_of_len {n k : Nat} (h : k < len n) : 4294967296 ^ k ≤ n := by
  rcases Nat.lt_or_ge n (4294967296 ^ k) with h1 | h1
  · have := len_le h1; omega
  · exact h1
theorem len_mono {a b : Nat} (h : a ≤ b) : len a ≤ len b := len_le (Nat.lt_of_le_of_lt h (lt_pow_len b))
theorem len_add (a b : Nat) : len (a + b) ≤ max (len a) (len b) + 1 := by
  apply len_le
  have ha := lt_pow_len a
  have hb := lt_pow_len b
  have h1 : 4294967296 ^ len a ≤ 4294967296 ^ max (len a) (len b) := Nat.pow_le_pow_right (by omega) (by omega)
  have h2 : 4294967296 ^ len b ≤ 4294967296 ^ max (len a) (len b) := Nat.pow_le_pow_right (by omega) (by omega)
  rw [Nat.pow_succ]
  omega
theorem len_mul (a b : Nat) : len (a * b) ≤ len a + len b := by
  apply len_le
  rcases Nat.eq_zero_or_pos a with h | h
  · subst h; rw [Nat.zero_mul]; exact Nat.pow_pos (by decide)
  · rw [Nat.pow_add]; exact Nat.mul_lt_mul_of_lt_of_le (lt_pow_len a) (Nat.le_of_lt (lt_pow_len b)) (Nat.pow_pos (by omega))
theorem len_lt_lt {a b : Nat} (h : len a < len b) : a < b := by
  have h1 := lt_pow_len a
  have h2 := pow_le_of_len h
  omega
theorem len_le_one {n : Nat} (h : n < 4294967296) : len n ≤ 1 := len_le (by simpa using h)
theorem len_le_two {n : Nat} (h : n < 18446744073709551616) : len n ≤ 2 := len_le (by simpa using h)
theorem len_eq_zero {n : Nat} : len n = 0 ↔ n = 0 := by
  constructor
  · intro h
    rcases Nat.eq_zero_or_pos n with h0 | h0
    · exact h0
    · rw [len_pos h0] at h; omega
  · rintro rfl; exact len_zero
theorem limbs_inj {a b : Nat} (h : limbs a = limbs b) : a = b := by rw [← val_limbs a, ← val_limbs b, h]
theorem limbs_of_val {ms : List Nat} (h : L32 ms) (hl : ms = [] ∨ ms.getD (ms.length - 1) 0 ≠ 0) : limbs (val ms) = ms := by
  obtain ⟨h1, h2, h3⟩ := limbs_val h
  rw [h1]
  rcases hl with rfl | hl
  · simp
  · apply List.take_of_length_le
    rcases Nat.lt_or_ge (len (val ms)) ms.length with h4 | h4
    · exact absurd (h3 (ms.length - 1) (by omega)) hl
    · exact h4
end Go.Proofs.YtjajmonhcnmidaaDoor
