/- Rational numbers: what the functions compute, and how long it gets, in numbers alone. -/
import Derived.Test.YtgaehhapjnbieaaGreatqDivP
set_option linter.unusedSectionVars false
set_option linter.unusedVariables false
set_option linter.unusedSimpArgs false
namespace Go.Proofs.YtgaehhapjnbieaaGreat
open Go.RowKit
theorem den_pos' (q : Rat) : (0 : Int) < (q.den : Int) := by have := q.den_pos; omega
theorem plus_eq (a b : Rat) (g n : Int) (hg : g = (Int.gcd (a.den : Int) (b.den : Int) : Nat)) (hn : n = a.num * ((b.den : Int) / g) + b.num * ((a.den : Int) / g)) :
    (a + b).num = n / (Int.gcd n g : Nat) ∧ ((a + b).den : Int) = g / (Int.gcd n g : Nat) * ((a.den : Int) / g * ((b.den : Int) / g)) := by
  obtain ⟨G, hG⟩ : ∃ G, G = a.den.gcd b.den := ⟨_, rfl⟩
  have hgG : g = (G : Int) := by rw [hg, hG]; rfl
  have hb := Nat.gcd_dvd_right a.den b.den
  rw [← hG] at hb
  obtain ⟨bd, hbd⟩ := hb
  have hGp : 0 < G := by rw [hG]; exact Nat.gcd_pos_of_pos_left _ a.den_pos
  subst hgG
  have e1 : ((b.den : Int) / (G : Int)) = ((b.den / G : Nat) : Int) := by rw [Int.natCast_ediv]
  have e2 : ((a.den : Int) / (G : Int)) = ((a.den / G : Nat) : Int) := by rw [Int.natCast_ediv]
  rw [e1, e2] at hn
  have hb1 : b.den / G = bd := by rw [hbd, Nat.mul_div_cancel_left _ hGp]
  have hgcd : Int.gcd n (G : Int) = n.natAbs.gcd G := rfl
  show (Rat.add a b).num = _ ∧ ((Rat.add a b).den : Int) = _
  obtain ⟨g1, hg1⟩ : ∃ g1, g1 = n.natAbs.gcd G := ⟨_, rfl⟩
  have hdv : g1 ∣ G := by rw [hg1]; exact Nat.gcd_dvd_right _ _
  obtain ⟨g', hg'⟩ := hdv
  have hg1p : 0 < g1 := by rw [hg1]; exact Nat.gcd_pos_of_pos_right _ hGp
  have hden : (a.den / G) * b.den / g1 = G / g1 * (a.den / G * (b.den / G)) := by
    rw [hb1]
    have : G / g1 = g' := by rw [hg', Nat.mul_div_cancel_left _ hg1p]
    rw [this]
    have : a.den / G * b.den = g1 * (g' * (a.den / G * bd)) := by
      conv => lhs; rw [hbd]
      conv => lhs; arg 2; rw [hg']
      simp only [Nat.mul_left_comm, Nat.mul_comm]
    rw [this, Nat.mul_div_cancel_left _ hg1p]
  have key : (a + b).num = n / (g1 : Int) ∧ (a + b).den = (a.den / G) * b.den / g1 := by
    show (Rat.add a b).num = _ ∧ (Rat.add a b).den = _
    delta Rat.add
    simp only [← hG]
    split
    · rename_i h1
      subst h1
      have : g1 = 1 := by rw [hg1, Nat.gcd_one_right]
      rw [this]
      simp only [Nat.div_one, Int.natCast_one, Int.ediv_one, and_true]
      rw [hn]; simp
    · simp only [← hn, ← hg1, Rat.maybeNormalize_eq, Int.divExact_eq_tdiv, and_true]
      rw [Int.tdiv_eq_ediv_of_dvd]
      rw [hg1]
      exact Int.ofNat_dvd_left.2 (Nat.gcd_dvd_left _ _)
  rw [hgcd, ← hg1, e1, e2]
  refine ⟨key.1, ?_⟩
  rw [show (Rat.add a b).den = _ from key.2, hden]
  push_cast
  rfl
theorem mul_eq (a b : Rat) : (a * b).num = a.num / (Int.gcd a.num (b.den : Int) : Nat) * (b.num / (Int.gcd b.num (a.den : Int) : Nat)) ∧ ((a * b).den : Int) = (a.den : Int) / (Int.gcd b.num (a.den : Int) : Nat) * ((b.den : Int) / (Int.gcd a.num (b.den : Int) : Nat)) := by
  have h1 : ((Int.gcd a.num (b.den : Int) : Nat) : Int) ∣ a.num := Int.gcd_dvd_left ..
  have h2 : ((Int.gcd b.num (a.den : Int) : Nat) : Int) ∣ b.num := Int.gcd_dvd_left ..
  show (Rat.mul a b).num = _ ∧ ((Rat.mul a b).den : Int) = _
  delta Rat.mul
  simp only [Int.divExact_eq_tdiv, Nat.divExact_eq_div]
  refine ⟨?_, ?_⟩
  · rw [Int.tdiv_eq_ediv_of_dvd (by exact h1), Int.tdiv_eq_ediv_of_dvd (by exact h2)]
    rfl
  · push_cast; rfl
theorem of_pos (n d : Int) (hd : 0 < d) : (Rat.divInt n d).num = n / (Int.gcd n d : Nat) ∧ ((Rat.divInt n d).den : Int) = d / (Int.gcd n d : Nat) := by
  rw [Rat.num_divInt, Rat.den_divInt, if_neg (by omega), Int.sign_eq_one_of_pos hd, Int.one_mul, Int.gcd_comm d n]
  refine ⟨rfl, ?_⟩
  push_cast
  rw [Int.natAbs_of_nonneg (by omega)]
theorem of_neg (n d : Int) (hd : d < 0) : (Rat.divInt n d).num = n / -(Int.gcd n d : Nat) ∧ ((Rat.divInt n d).den : Int) = d / -(Int.gcd n d : Nat) := by
  have h := of_pos (-n) (-d) (by omega)
  rw [Rat.neg_divInt_neg, Int.gcd_neg, Int.neg_gcd] at h
  rw [Int.ediv_neg, Int.ediv_neg, ← Int.neg_ediv_of_dvd (Int.gcd_dvd_left ..), ← Int.neg_ediv_of_dvd (Int.gcd_dvd_right ..)]
  exact h
theorem wholeQ_eq (n : Int) : ((n : Rat)).num = n ∧ (((n : Rat)).den : Int) = 1 := ⟨rfl, rfl⟩
theorem inv_neg' (a : Rat) (h : a.num < 0) : (a⁻¹).num = -(a.den : Int) ∧ ((a⁻¹).den : Int) = -a.num := by
  rw [Rat.num_inv, Rat.den_inv, if_neg (by omega), Int.sign_eq_neg_one_of_neg h]
  omega
theorem inv_pos' (a : Rat) (h : 0 < a.num) : (a⁻¹).num = (a.den : Int) ∧ ((a⁻¹).den : Int) = a.num := by
  rw [Rat.num_inv, Rat.den_inv, if_neg (by omega), Int.sign_eq_one_of_pos h]
  omega
def cmpR (a b : Rat) : Int := if a < b then -1 else if a = b then 0 else 1
theorem cmpR_sign (a b : Rat) : Int.sign (a.num * b.den - b.num * a.den) = cmpR a b := by
  unfold cmpR
  split
  · rename_i h
    rw [Rat.lt_iff] at h
    exact Int.sign_eq_neg_one_of_neg (by omega)
  · rename_i h
    rw [Rat.lt_iff] at h
    split
    · rename_i e
      rw [Rat.eq_iff_mul_eq_mul] at e
      rw [e, Int.sub_self]; rfl
    · rename_i e
      rw [Rat.eq_iff_mul_eq_mul] at e
      exact Int.sign_eq_one_of_pos (by omega)
theorem sign_cmp (a : Rat) : Int.sign a.num = cmpR a 0 := by
  rw [← cmpR_sign]; simp
theorem den_le_add (a b : Rat) : (a + b).den ≤ a.den * b.den := by
  have := Rat.den_add a b
  rw [this]; exact Nat.div_le_self _ _
def RSm (q : Rat) (k : Nat) : Prop := Sm q.num k ∧ Sm (q.den : Int) k
theorem sm_nat {a b i : Nat} (h : Sm ((b : Nat) : Int) i) (hle : a ≤ b) : Sm ((a : Nat) : Int) i := Nat.lt_of_le_of_lt hle h
theorem sm_gcdI {x y : Int} {i j : Nat} (hx : Sm x i) (hy : Sm y j) : Sm ((Int.gcd x y : Nat) : Int) (max i j) := by
  by_cases h : x = 0
  · subst h
    rw [Int.gcd_zero_left]
    exact hy.abs.mono (Nat.le_max_right _ _)
  · exact sm_nat (hx.abs.mono (Nat.le_max_left _ _)) (Nat.le_of_dvd (by omega) (Int.ofNat_dvd_left.1 (Int.gcd_dvd_left ..)))
theorem RSm.mono {q : Rat} {i j : Nat} (h : RSm q i) (hk : i ≤ j) : RSm q j := ⟨h.1.mono hk, h.2.mono hk⟩
theorem RSm.add {a b : Rat} {i j : Nat} (ha : RSm a i) (hb : RSm b j) : RSm (a + b) (i + j + 1) := by
  have h := (plus_eq a b _ _ rfl rfl)
  constructor
  · rw [h.1]
    exact (((ha.1.mul hb.2.div).add (hb.1.mul ha.2.div)).mono (by omega)).div
  · have h2 : Sm ((a.den * b.den : Nat) : Int) (i + j) := by push_cast; exact ha.2.mul hb.2
    exact (sm_nat h2 (den_le_add a b)).mono (by omega)
theorem RSm.neg {a : Rat} {i : Nat} (ha : RSm a i) : RSm (-a) i := ⟨by rw [Rat.neg_num]; exact ha.1.neg, by rw [Rat.neg_den]; exact ha.2⟩
theorem RSm.sub {a b : Rat} {i j : Nat} (ha : RSm a i) (hb : RSm b j) : RSm (a - b) (i + j + 1) := by
  rw [Rat.sub_eq_add_neg]; exact ha.add hb.neg
theorem RSm.mul {a b : Rat} {i j : Nat} (ha : RSm a i) (hb : RSm b j) : RSm (a * b) (i + j) := by
  have h := mul_eq a b
  exact ⟨by rw [h.1]; exact ha.1.div.mul hb.1.div, by rw [h.2]; exact ha.2.div.mul hb.2.div⟩
theorem RSm.inv {a : Rat} {i : Nat} (ha : RSm a i) : RSm a⁻¹ i := by
  rcases Int.lt_trichotomy a.num 0 with h | h | h
  · have := inv_neg' a h
    exact ⟨by rw [this.1]; exact ha.2.neg, by rw [this.2]; exact ha.1.neg⟩
  · have : a = 0 := Rat.num_eq_zero.1 h
    subst this
    rw [Rat.inv_zero]
    exact ha
  · have := inv_pos' a h
    exact ⟨by rw [this.1]; exact ha.2, by rw [this.2]; exact ha.1⟩
theorem RSm.whole {n : Int} {i : Nat} (hn : Sm n (i + 1)) : RSm (n : Rat) (i + 1) := ⟨hn, by
  show (1 : Nat) < 4294967296 ^ (i + 1)
  exact Nat.lt_of_lt_of_le (by decide : 1 < 4294967296 ^ 1) (Nat.pow_le_pow_right (by decide) (by omega))⟩
theorem RSm.of {n d : Int} {i : Nat} (hn : Sm n i) (hd : Sm d i) (h0 : d ≠ 0) : RSm (Rat.divInt n d) i := by
  rcases Int.lt_or_gt_of_ne h0 with h | h
  · have := of_neg n d h
    exact ⟨by rw [this.1]; exact hn.div, by rw [this.2]; exact hd.div⟩
  · have := of_pos n d h
    exact ⟨by rw [this.1]; exact hn.div, by rw [this.2]; exact hd.div⟩
end Go.Proofs.YtgaehhapjnbieaaGreat
