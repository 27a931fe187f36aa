/- Decimal numerals as lists of bytes: which texts are numerals, and their values. No walk. -/
import Derived.Test.YtdofolejfdfocaaDoorqMem
import Derived.Lib.ItoaMem
namespace Go.Proofs.YtdofolejfdfocaaDoor
open Go.Lib

/-- The value of a digit. -/
def dgt (b : UInt8) : Nat := b.toNat - 48
/-- The value of digits, behind those that count as a. -/
def dvA (a : Nat) (l : List UInt8) : Nat := l.foldl (fun a b => 10 * a + dgt b) a
def dv (l : List UInt8) : Nat := dvA 0 l
def isD (b : UInt8) : Bool := decide (48 ≤ b.toNat) && decide (b.toNat ≤ 57)
theorem dvA_nil (a : Nat) : dvA a [] = a := List.foldl_nil
theorem dvA_cons (a : Nat) (b : UInt8) (r : List UInt8) : dvA a (b :: r) = dvA (10 * a + dgt b) r := List.foldl_cons ..
theorem dvA_append (a : Nat) (l m : List UInt8) : dvA a (l ++ m) = dvA (dvA a l) m := by unfold dvA; exact List.foldl_append
theorem dvA_eq (a : Nat) (l : List UInt8) : dvA a l = a * 10 ^ l.length + dv l := by
  unfold dv
  induction l generalizing a with
  | nil => rw [dvA_nil, dvA_nil]; simp
  | cons b r ih =>
    rw [dvA_cons, dvA_cons, ih (10 * a + dgt b), ih (10 * 0 + dgt b), List.length_cons, Nat.pow_succ, Nat.add_mul, Nat.mul_zero, Nat.zero_add]
    rw [Nat.mul_comm 10 a, Nat.mul_comm (10 ^ r.length) 10, Nat.mul_assoc]
    omega
theorem dv_append (l m : List UInt8) : dv (l ++ m) = dv l * 10 ^ m.length + dv m := by
  unfold dv
  rw [dvA_append, dvA_eq (dvA 0 l) m, dv]
theorem dv_lt (l : List UInt8) (h : l.all isD = true) : dv l < 10 ^ l.length := by
  have key : ∀ a, dvA a l < (a + 1) * 10 ^ l.length := by
    induction l with
    | nil => intro a; rw [dvA_nil]; simp
    | cons b r ih =>
      intro a
      rw [List.all_cons, Bool.and_eq_true] at h
      have h1 : dgt b ≤ 9 := by have := h.1; simp [isD] at this; unfold dgt; omega
      rw [dvA_cons]
      refine Nat.lt_of_lt_of_le (ih h.2 (10 * a + dgt b)) ?_
      rw [List.length_cons, Nat.pow_succ, Nat.mul_comm (10 ^ r.length) 10, ← Nat.mul_assoc]
      exact Nat.mul_le_mul_right _ (by omega)
  have := key 0
  simpa [dv] using this
theorem dv_single (b : UInt8) : dv [b] = dgt b := by
  unfold dv
  rw [dvA_cons, dvA_nil]; omega
theorem digit_toNat {d : Nat} (h : d < 10) : (UInt8.ofNat (48 + d)).toNat = 48 + d := by
  rw [UInt8.toNat_ofNat']; exact Nat.mod_eq_of_lt (by omega)
theorem digit_of {b : UInt8} (h : isD b = true) : UInt8.ofNat (48 + dgt b) = b := by
  simp [isD] at h
  unfold dgt
  rw [show 48 + (b.toNat - 48) = b.toNat by omega, UInt8.ofNat_toNat]
theorem dec_small {n : Nat} (h : n < 10) : decDigits n = [UInt8.ofNat (48 + n)] := decDigits_one h
theorem dec_big {n : Nat} (h : ¬ n < 10) : decDigits n = decDigits (n / 10) ++ [UInt8.ofNat (48 + n % 10)] := by
  rw [decDigits, dif_neg h]
theorem dv_one {d : Nat} (h : d < 10) : dv [UInt8.ofNat (48 + d)] = d := by
  rw [dv_single, dgt, digit_toNat h]; omega
theorem dv_dec (n : Nat) : dv (decDigits n) = n := by
  induction n using Nat.strongRecOn with
  | _ n ih =>
    by_cases h : n < 10
    · rw [dec_small h, dv_one h]
    · rw [dec_big h, dv_append, ih (n / 10) (by omega), dv_one (Nat.mod_lt _ (by decide))]
      simp; omega
theorem isD_digit {d : Nat} (h : d < 10) : isD (UInt8.ofNat (48 + d)) = true := by
  simp only [isD, digit_toNat h, Bool.and_eq_true, decide_eq_true_eq]; omega
theorem dec_isD (n : Nat) : (decDigits n).all isD = true := by
  induction n using Nat.strongRecOn with
  | _ n ih =>
    by_cases h : n < 10
    · rw [dec_small h, List.all_cons, isD_digit h]; rfl
    · rw [dec_big h, List.all_append, ih (n / 10) (by omega)]
      rw [List.all_cons, isD_digit (Nat.mod_lt n (by decide : 0 < 10))]; rfl
theorem dec_ne (n : Nat) : decDigits n ≠ [] := by
  intro h
  have := decDigits_length n
  rw [h] at this
  have h2 := nDigits_pos n
  simp at this; omega
theorem digit_48 {d : Nat} (h : d < 10) (e : UInt8.ofNat (48 + d) = 48) : d = 0 := by
  have := congrArg UInt8.toNat e
  rw [digit_toNat h] at this
  have h2 : (48 : UInt8).toNat = 48 := rfl
  omega
theorem dec_head (n : Nat) (hn : 0 < n) : ∀ b r, decDigits n = b :: r → b ≠ 48 := by
  induction n using Nat.strongRecOn with
  | _ n ih =>
    intro b r e hb
    by_cases h : n < 10
    · rw [dec_small h] at e
      injection e with e1 e2
      rw [hb] at e1
      have := digit_48 h e1
      omega
    · rw [dec_big h] at e
      cases hq : decDigits (n / 10) with
      | nil => exact dec_ne _ hq
      | cons c s =>
        rw [hq] at e
        injection e with e1 e2
        exact ih (n / 10) (by omega) (by omega) c s hq (e1.trans hb)
/-- Is the text a numeral? -/
def isNum (l : List UInt8) : Bool := !l.isEmpty && !(l.head? == some 48 && decide (1 < l.length)) && l.all isD
theorem isNum_dec (n : Nat) : isNum (decDigits n) = true := by
  unfold isNum
  rw [dec_isD]
  have h1 : (decDigits n).isEmpty = false := by
    cases h : decDigits n with
    | nil => exact absurd h (dec_ne n)
    | cons _ _ => rfl
  rw [h1]
  by_cases h : n < 10
  · rw [dec_small h]; simp
  · cases e : decDigits n with
    | nil => exact absurd e (dec_ne n)
    | cons b r =>
      have := dec_head n (by omega) b r e
      simp [this]
theorem dec_dv : ∀ (l : List UInt8), isNum l = true → decDigits (dv l) = l := by
  intro l
  induction h : l.length using Nat.strongRecOn generalizing l with
  | _ k ih =>
    intro hn
    unfold isNum at hn
    simp only [Bool.and_eq_true, Bool.not_eq_true', Bool.and_eq_false_iff] at hn
    obtain ⟨⟨h1, h2⟩, h3⟩ := hn
    rcases List.eq_nil_or_concat l with e | ⟨s, b, e⟩
    · subst e; simp at h1
    · rw [List.concat_eq_append] at e
      subst e
      rw [List.all_append, Bool.and_eq_true] at h3
      have hb : isD b = true := by simpa using h3.2
      have hb2 : dgt b < 10 := by simp [isD] at hb; unfold dgt; omega
      rw [dv_append, dv_single]
      cases s with
      | nil =>
        rw [List.nil_append, show dv [] = 0 from rfl, Nat.zero_mul, Nat.zero_add]
        rw [dec_small hb2, digit_of hb]
      | cons c t =>
        have hc : c ≠ 48 := by
          intro hc
          subst hc
          simp at h2
        have hs : isNum (c :: t) = true := by
          unfold isNum
          rw [h3.1]
          simp [hc]
        have hi := ih (c :: t).length (by simp at h ⊢; omega) (c :: t) rfl hs
        have hpos : 0 < dv (c :: t) := by
          rcases Nat.eq_zero_or_pos (dv (c :: t)) with h0 | h0
          · rw [h0, dec_small (by decide)] at hi
            injection hi with hi1 _
            exact absurd hi1.symm (by intro h; exact hc (by rw [h]; rfl))
          · exact h0
        simp only [List.length_singleton, Nat.pow_one]
        rw [dec_big (by omega), show (dv (c :: t) * 10 + dgt b) / 10 = dv (c :: t) by omega, show (dv (c :: t) * 10 + dgt b) % 10 = dgt b by omega, hi, digit_of hb]
theorem isNum_iff (l : List UInt8) : isNum l = true ↔ l = decDigits (dv l) := ⟨fun h => (dec_dv l h).symm, fun h => by rw [h]; exact isNum_dec _⟩

/-- The text of an integer. -/
def textZ (z : Int) : List UInt8 := if z < 0 then 45 :: decDigits z.natAbs else decDigits z.natAbs
/-- The integer whose text it is. -/
def readOf : List UInt8 → Option Int
  | [] => none
  | b :: r => if b = 45 then (if isNum r && !(r == [48]) then some (-(dv r : Int)) else none) else (if isNum (b :: r) then some (dv (b :: r) : Int) else none)
theorem dec_not45 (n : Nat) : ∀ b r, decDigits n = b :: r → b ≠ 45 := by
  intro b r e hb
  have := dec_isD n
  rw [e, hb] at this
  simp [isD] at this
theorem dec_zero_of {n : Nat} (h : decDigits n = [48]) : n = 0 := by
  have := dv_dec n
  rw [h] at this
  exact this.symm
theorem readOf_text (z : Int) : readOf (textZ z) = some z := by
  unfold textZ
  split
  · rename_i h
    have h0 : (decDigits z.natAbs == [48]) = false := by
      rw [beq_eq_false_iff_ne]
      intro e
      have := dec_zero_of e
      omega
    simp only [readOf, if_true, isNum_dec, h0, Bool.not_false, Bool.and_self, dv_dec]
    congr 1; omega
  · rename_i h
    cases e : decDigits z.natAbs with
    | nil => exact absurd e (dec_ne _)
    | cons b r =>
      have h1 := dec_not45 _ b r e
      have h2 := isNum_dec z.natAbs
      have h3 := dv_dec z.natAbs
      rw [e] at h2 h3
      simp only [readOf, if_neg h1, h2, if_true, h3]
      congr 1; omega
theorem text_readOf {l : List UInt8} {z : Int} (h : readOf l = some z) : l = textZ z := by
  cases l with
  | nil => simp [readOf] at h
  | cons b r =>
    simp only [readOf] at h
    split at h
    · rename_i hb
      split at h
      · rename_i hc
        rw [Bool.and_eq_true] at hc
        injection h with h
        have hr := dec_dv r hc.1
        have hpos : 0 < dv r := by
          rcases Nat.eq_zero_or_pos (dv r) with h0 | h0
          · rw [h0, dec_small (by decide)] at hr
            rw [← hr] at hc
            simp at hc
          · exact h0
        unfold textZ
        rw [if_pos (by omega), hb, show z.natAbs = dv r by omega, hr]
      · cases h
    · split at h
      · rename_i hb hc
        injection h with h
        have hr := dec_dv _ hc
        unfold textZ
        rw [if_neg (by omega), show z.natAbs = dv (b :: r) by omega, hr]
      · cases h
theorem readOf_none {l : List UInt8} (h : readOf l = none) (z : Int) : l ≠ textZ z := by
  rintro rfl
  rw [readOf_text] at h
  cases h

/-! ### Groups of digits -/
/-- The last k digits, zeros ahead. -/
def padk : Nat → Nat → List UInt8
  | 0, _ => []
  | k + 1, r => padk k (r / 10) ++ [UInt8.ofNat (48 + r % 10)]
theorem padk_length (k r : Nat) : (padk k r).length = k := by
  induction k generalizing r with
  | zero => rfl
  | succ k ih => simp [padk, ih]
theorem dec_split (k q r : Nat) (hq : 0 < q) (hr : r < 10 ^ k) : decDigits (10 ^ k * q + r) = decDigits q ++ padk k r := by
  induction k generalizing r with
  | zero => simp at hr; subst hr; simp [padk]
  | succ k ih =>
    rw [Nat.pow_succ] at hr ⊢
    have h1 : 10 ^ k * 10 * q = 10 * (10 ^ k * q) := by simp only [Nat.mul_comm, Nat.mul_left_comm]
    have h2 : 0 < 10 ^ k * q := Nat.mul_pos (Nat.pow_pos (by decide)) hq
    rw [h1, dec_big (by omega), show (10 * (10 ^ k * q) + r) / 10 = 10 ^ k * q + r / 10 by omega, show (10 * (10 ^ k * q) + r) % 10 = r % 10 by omega, ih (r / 10) (by omega), padk, List.append_assoc]
theorem padk_zero (k : Nat) : padk k 0 = List.replicate k 48 := by
  induction k with
  | zero => rfl
  | succ k ih => rw [padk, List.replicate_succ', Nat.zero_div, ih]; rfl
theorem nDigits_le {x : Nat} : ∀ k, x < 10 ^ k → 1 ≤ k → nDigits x ≤ k := by
  intro k
  induction k generalizing x with
  | zero => intro _ h; omega
  | succ k ih =>
    intro hx _
    by_cases h : x < 10
    · rw [nDigits_small h]; omega
    · rw [nDigits_big h]
      rcases Nat.eq_zero_or_pos k with h0 | h0
      · subst h0; simp at hx; omega
      · have := ih (x := x / 10) (by rw [Nat.pow_succ] at hx; omega) h0
        omega
theorem padk_eq (k r : Nat) (hr : r < 10 ^ k) (hk : 1 ≤ k) : padk k r = List.replicate (k - nDigits r) 48 ++ decDigits r := by
  induction k generalizing r with
  | zero => omega
  | succ k ih =>
    by_cases h : r < 10
    · rw [padk, nDigits_small h, dec_small h, show r / 10 = 0 by omega, padk_zero, Nat.mod_eq_of_lt h]; rfl
    · have hk1 : 1 ≤ k := by
        rcases Nat.eq_zero_or_pos k with h0 | h0
        · subst h0; simp at hr; omega
        · exact h0
      rw [padk, ih (r / 10) (by rw [Nat.pow_succ] at hr; omega) hk1, dec_big h, nDigits_big h, List.append_assoc]
      congr 2; omega
theorem nDigits_limbs (x : Nat) (h : 0 < x) : nDigits x ≤ 10 * len x := by
  have h1 := lt_pow_len x
  have h2 : 0 < len x := by rw [len_pos h]; omega
  refine nDigits_le _ (Nat.lt_of_lt_of_le h1 ?_) (by omega)
  rw [Nat.pow_mul]
  exact Nat.pow_le_pow_left (by decide) _
theorem len_dv (l : List UInt8) (h : l.all isD = true) : len (dv l) ≤ l.length / 9 + 1 := by
  refine len_le (Nat.lt_of_lt_of_le (dv_lt l h) ?_)
  have h1 : 10 ^ l.length ≤ 10 ^ (9 * (l.length / 9 + 1)) := Nat.pow_le_pow_right (by decide) (by omega)
  refine Nat.le_trans h1 ?_
  rw [Nat.pow_mul]
  exact Nat.pow_le_pow_left (by decide) _
end Go.Proofs.YtdofolejfdfocaaDoor
