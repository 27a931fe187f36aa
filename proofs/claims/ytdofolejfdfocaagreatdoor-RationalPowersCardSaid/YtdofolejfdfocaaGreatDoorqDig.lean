/- Decimal numerals as lists of bytes: which texts are numerals, and their values. No walk. -/
import Derived.Test.YtdofolejfdfocaaGreatDoorqMem
import Derived.Lib.ItoaMem
namespace Go.Proofs.YtdofolejfdfocaaGreatDoor
open Go.Lib

/-- The value of a digit. -/
def dgt (b : UInt8) : Nat := b.toNat - 48
/-- The value of digits, behind those that count as a. -/
def dvA (a : Nat) (l : List UInt8) : Nat := l.foldl (fun a b => 10 * a + dgt b) a
def dv (l : List UInt8) : Nat := dvA 0 l
def isD (b : UInt8) : Bool := decide (48 ≤ b.toNat) && decide (b.toNat ≤ 57)
theorem dvA_nil (a : Nat) : dvA a [] = a := List.foldl_nil
theorem dvA_cons (a : Nat) (b : UInt8) (r : List UInt8) : dvA a (b :: r) = dvA (10 * a + dgt b) r := List.foldl_cons ..
theorem dvA_append (a : Nat) (l m : List UInt8) : dvA a (l ++ m) = dvA (dvA a l) m := by unfold dvA; exact List.foldl_append
theorem dvA_eq (a : Nat) (l : List UInt8) : dvA a l = a * 10 ^ l.length + dv l := by
  unfold dv
  induction l generalizing a with
  | nil => rw [dvA_nil, dvA_nil]; simp
  | cons b r ih =>
    rw [dvA_cons, dvA_cons, ih (10 * a + dgt b), ih (10 * 0 + dgt b), List.length_cons, Nat.pow_succ, Nat.add_mul, Nat.mul_zero, Nat.zero_add]
    rw [Nat.mul_comm 10 a, Nat.mul_comm (10 ^ r.length) 10, Nat.mul_assoc]
    omega
theorem dv_append (l m : List UInt8) : dv (l ++ m) = dv l * 10 ^ m.length + dv m := by
  unfold dv
  rw [dvA_append, dvA_eq (dvA 0 l) m, dv]
theorem dv_lt (l : List UInt8) (h : l.all isD = true) : dv l < 10 ^ l.length := by
  have key : ∀ a, dvA a l < (a + 1) * 10 ^ l.length := by
    induction l with
    | nil => intro a; rw [dvA_nil]; simp
    | cons b r ih =>
      intro a
      rw [List.all_cons, Bool.and_eq_true] at h
      have h1 : dgt b ≤ 9 := by have := h.1; simp [isD] at this; unfold dgt; omega
      rw [dvA_cons]
      refine Nat.lt_of_lt_of_le (ih h.2 (10 * a + dgt b)) ?_
      rw [List.length_cons, Nat.pow_succ, Nat.mul_comm (10 ^ r.length) 10, ← Nat.mul_assoc]
      exact Nat.mul_le_mul_right _ (by omega)
  have := key 0
  simpa [dv] using this
theorem dv_single (b : UInt8) : dv [b] = dgt b := by
  unfold dv
  rw [dvA_cons, dvA_nil]; omega
theorem digit_toNat {d : Nat} (h : d < 10) : (UInt8.ofNat (48 + d)).toNat = 48 + d := by
  rw [UInt8.toNat_ofNat']; exact Nat.mod_eq_of_lt (by omega)
theorem digit_of {b : UInt8} (h : isD b = true) : UInt8.ofNat (48 + dgt b) = b := by
  simp [isD] at h
  unfold dgt
  rw [show 48 + (b.toNat - 48) = b.toNat by omega, UInt8.ofNat_toNat]
theorem dec_small {n : Nat} (h : n < 10) : decDigits n = [UInt8.ofNat (48 + n)] := decDigits_one h
theorem dec_big {n : Nat} (h : ¬ n < 10) : decDigits n = decDigits (n / 10) ++ [UInt8.ofNat (48 + n % 10)] := by
  rw [decDigits, dif_neg h]
theorem dv_one {d : Nat} (h : d < 10) : dv [UInt8.ofNat (48 + d)] = d := by
  rw [dv_single, dgt, digit_toNat h]; omega
theorem dv_dec (n : Nat) : dv (decDigits n) = n := by
  induction n using Nat.strongRecOn with
  | _ n ih =>
    by_cases h : n < 10
    · rw [dec_small h, dv_one h]
    · rw [dec_big h, dv_append, ih (n / 10) (by omega), dv_one (Nat.mod_lt _ (by decide))]
      simp; omega
theorem isD_digit {d : Nat} (h : d < 10) : isD (UInt8.ofNat (48 + d)) = true := by
  simp only [isD, digit_toNat h, Bool.and_eq_true, decide_eq_true_eq]; omega
theorem dec_isD (n : Nat) : (decDigits n).all isD = true := by
  induction n using Nat.strongRecOn with
  | _ n ih =>
    by_cases h : n < 10
    · rw [dec_small h, List.all_cons, isD_digit h]; rfl
    · rw [dec_big h, List.all_append, ih (n / 10) (by omega)]
      rw [List.all_cons, isD_digit (Nat.mod_lt n (by decide : 0 < 10))]; rfl
/-- Is the text a numeral? -/
def isNum (l : List UInt8) : Bool := !l.isEmpty && !(l.head? == some 48 && decide (1 < l.length)) && l.all isD
theorem dec_dv : ∀ (l : List UInt8), isNum l = true → decDigits (dv l) = l := by
  intro l
  induction h : l.length using Nat.strongRecOn generalizing l with
  | _ k ih =>
    intro hn
    unfold isNum at hn
    simp only [Bool.and_eq_true, Bool.not_eq_true', Bool.and_eq_false_iff] at hn
    obtain ⟨⟨h1, h2⟩, h3⟩ := hn
    rcases List.eq_nil_or_concat l with e | ⟨s, b, e⟩
    · subst e; simp at h1
    · rw [List.concat_eq_append] at e
      subst e
      rw [List.all_append, Bool.and_eq_true] at h3
      have hb : isD b = true := by simpa using h3.2
      have hb2 : dgt b < 10 := by simp [isD] at hb; unfold dgt; omega
      rw [dv_append, dv_single]
      cases s with
      | nil =>
        rw [List.nil_append, show dv [] = 0 from rfl, Nat.zero_mul, Nat.zero_add]
        rw [dec_small hb2, digit_of hb]
      | cons c t =>
        have hc : c ≠ 48 := by
          intro hc
          subst hc
          simp at h2
        have hs : isNum (c :: t) = true := by
          unfold isNum
          rw [h3.1]
          simp [hc]
        have hi := ih (c :: t).length (by simp at h ⊢; omega) (c :: t) rfl hs
        have hpos : 0 < dv (c :: t) := by
          rcases Nat.eq_zero_or_pos (dv (c :: t)) with h0 | h0
          · rw [h0, dec_small (by decide)] at hi
            injection hi with hi1 _
            exact absurd hi1.symm (by intro h; exact hc (by rw [h]; rfl))
          · exact h0
        simp only [List.length_singleton, Nat.pow_one]
        rw [dec_big (by omega), show (dv (c :: t) * 10 + dgt b) / 10 = dv (c :: t) by omega, show (dv (c :: t) * 10 + dgt b) % 10 = dgt b by omega, hi, digit_of hb]
/-- The text of an integer. -/
def textZ (z : Int) : List UInt8 := if z < 0 then 45 :: decDigits z.natAbs else decDigits z.natAbs
/-- The integer whose text it is. -/
def readOf : List UInt8 → Option Int
  | [] => none
  | b :: r => if b = 45 then (if isNum r && !(r == [48]) then some (-(dv r : Int)) else none) else (if isNum (b :: r) then some (dv (b :: r) : Int) else none)
theorem text_readOf {l : List UInt8} {z : Int} (h : readOf l = some z) : l = textZ z := by
  cases l with
  | nil => simp [readOf] at h
  | cons b r =>
    simp only [readOf] at h
    split at h
    · rename_i hb
      split at h
      · rename_i hc
        rw [Bool.and_eq_true] at hc
        injection h with h
        have hr := dec_dv r hc.1
        have hpos : 0 < dv r := by
          rcases Nat.eq_zero_or_pos (dv r) with h0 | h0
          · rw [h0, dec_small (by decide)] at hr
            rw [← hr] at hc
            simp at hc
          · exact h0
        unfold textZ
        rw [if_pos (by omega), hb, show z.natAbs = dv r by omega, hr]
      · cases h
    · split at h
      · rename_i hb hc
        injection h with h
        have hr := dec_dv _ hc
        unfold textZ
        rw [if_neg (by omega), show z.natAbs = dv (b :: r) by omega, hr]
      · cases h
/-! ### Groups of digits -/
theorem nDigits_le {x : Nat} : ∀ k, x < 10 ^ k → 1 ≤ k → nDigits x ≤ k := by
  intro k
  induction k generalizing x with
  | zero => intro _ h; omega
  | succ k ih =>
    intro hx _
    by_cases h : x < 10
    · rw [nDigits_small h]; omega
    · rw [nDigits_big h]
      rcases Nat.eq_zero_or_pos k with h0 | h0
      · subst h0; simp at hx; omega
      · have := ih (x := x / 10) (by rw [Nat.pow_succ] at hx; omega) h0
        omega
theorem len_dv (l : List UInt8) (h : l.all isD = true) : len (dv l) ≤ l.length / 9 + 1 := by
  refine len_le (Nat.lt_of_lt_of_le (dv_lt l h) ?_)
  have h1 : 10 ^ l.length ≤ 10 ^ (9 * (l.length / 9 + 1)) := Nat.pow_le_pow_right (by decide) (by omega)
  refine Nat.le_trans h1 ?_
  rw [Nat.pow_mul]
  exact Nat.pow_le_pow_left (by decide) _
end Go.Proofs.YtdofolejfdfocaaGreatDoor
