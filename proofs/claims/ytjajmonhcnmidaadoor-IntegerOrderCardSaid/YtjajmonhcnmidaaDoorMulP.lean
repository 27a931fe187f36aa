/- What the loops of 'product' keep: plain lemmas. -/
import Derived.Test.YtjajmonhcnmidaaDoorSumP
namespace Go.Proofs.YtjajmonhcnmidaaDoor
open Go.RowKit

theorem mul_bd {p q : Nat} (hp : p < 4294967296) (hq : q < 4294967296) : p * q ≤ 18446744065119617025 := by
  have := Nat.mul_le_mul (show p ≤ 4294967295 by omega) (show q ≤ 4294967295 by omega)
  omega
theorem val_nil : val [] = 0 := rfl
theorem val_set (ds : List Nat) (t r : Nat) (ht : t < ds.length) : val (ds.set t r) + 4294967296 ^ t * ds.getD t 0 = val ds + 4294967296 ^ t * r := by
  induction ds generalizing t with
  | nil => simp at ht
  | cons x l ih =>
    match t with
    | 0 => simp [val]; omega
    | t + 1 =>
      have := ih t (by simpa using ht)
      simp only [List.set_cons_succ, val, List.getD_cons_succ, Nat.pow_succ]
      generalize 4294967296 ^ t = P at *
      rw [Nat.mul_assoc, Nat.mul_comm 4294967296 (l.getD t 0), ← Nat.mul_assoc, Nat.mul_assoc P 4294967296 r, Nat.mul_comm 4294967296 r, ← Nat.mul_assoc]
      generalize P * l.getD t 0 = u at *
      generalize P * r = v at *
      omega

/-- After the rows below i, and j limbs of row i (the factor p), with the carry c; the rest is zero. -/
def MulRel (w : World) (g n m : Nat) (X Y : List Nat) (wr : World) (i j p c : Nat) : Prop :=
  ∃ ds : List Nat, ds.length = n ∧ L32 ds ∧ Row wr g ds ∧ val ds + 4294967296 ^ (i + j) * c = val (X.take i) * val Y + 4294967296 ^ i * (p * val (Y.take j)) ∧ (∀ t, i + m ≤ t → ds.getD t 0 = 0) ∧ Below w.heap.size w wr

theorem MulRel.cell {w wr : World} {g n m : Nat} {X Y : List Nat} {i j p c : Nat} (h : MulRel w g n m X Y wr i j p c) {t : Nat} (ht : t < n) : ∃ x : Nat, x < 4294967296 ∧ wr.cell? ⟨g, t, none⟩ = some (.int .u32 (x : Int)) ∧ wr.frozen? ⟨g, t, none⟩ = false ∧
    (j < m → ∀ q c' : Nat, Y.getD j 0 = q → t = i + j → w.heap.size ≤ g → c' = (c + (p * q + x)) / 4294967296 → ∀ v : Int, v = ((c : Int) + ((p : Int) * (q : Int) + (x : Int))) % 4294967296 → MulRel w g n m X Y (wr.setCell ⟨g, t, none⟩ (.int .u32 v)) i (j + 1) p c') := by
  obtain ⟨ds, hl, h32, hr, he, hz, hb⟩ := h
  refine ⟨_, h32.get (show t < ds.length by omega), hr.cell (by omega), hr.frozen t, ?_⟩
  intro hj q c' hq htij hg hc' v hv
  have gx := getD_of_lt (show t < ds.length by omega)
  generalize ds[t]'(by omega) = x at *
  have e : v = (((c + (p * q + x)) % 4294967296 : Nat) : Int) := by
    rw [← Int.natCast_mul] at hv
    generalize p * q = pq at *
    omega
  rw [e]
  subst hc'
  refine ⟨ds.set t ((c + (p * q + x)) % 4294967296), by simpa using hl, h32.set (by omega), hr.set_ t _, ?_, fun t' ht' => ?_, hb.setCell (by simpa using hg) _⟩
  · have hs := val_set ds t ((c + (p * q + x)) % 4294967296) (by omega)
    rw [gx] at hs
    rw [val_take_succ Y, hq, show i + (j + 1) = t + 1 from by omega, Nat.pow_succ]
    rw [← htij] at he
    have e1 : 4294967296 ^ t = 4294967296 ^ i * 4294967296 ^ j := by rw [htij, Nat.pow_add]
    have e2 : c + (p * q + x) = 4294967296 * ((c + (p * q + x)) / 4294967296) + (c + (p * q + x)) % 4294967296 := by omega
    generalize (c + (p * q + x)) / 4294967296 = d at *
    generalize (c + (p * q + x)) % 4294967296 = r at *
    have e3 : 4294967296 ^ i * (p * (val (Y.take j) + 4294967296 ^ j * q)) = 4294967296 ^ i * (p * val (Y.take j)) + 4294967296 ^ t * (p * q) := by
      rw [e1, Nat.mul_add, Nat.mul_add, Nat.mul_assoc]
      congr 2
      rw [Nat.mul_left_comm]
    rw [e3]
    generalize 4294967296 ^ i * (p * val (Y.take j)) = a at *
    generalize val (X.take i) * val Y = b at *
    generalize 4294967296 ^ t = P at *
    have e4 : P * (c + (p * q + x)) = P * (4294967296 * d + r) := by rw [e2]
    rw [Nat.mul_add, Nat.mul_add, Nat.mul_add, ← Nat.mul_assoc P 4294967296 d] at e4
    omega
  · rw [List.getD_eq_getElem?_getD, List.getElem?_set_ne (by omega), ← List.getD_eq_getElem?_getD]
    exact hz t' ht'

theorem MulRel.start {w : World} {n m : Nat} {X Y : List Nat} (p : Nat) : MulRel w w.heap.size n m X Y (w.alloc (rowObj (List.replicate n 0))) 0 0 p 0 :=
  ⟨_, by simp, L32.replicate _, Row.new _ _, by simp [val, val_replicate], fun t _ => by simp [List.getD, List.getElem?_replicate]; split <;> rfl, below_alloc _ _⟩
/-- Between the rows: the factor does not matter yet. -/
theorem MulRel.row {w wr : World} {g n m : Nat} {X Y : List Nat} {i p p' : Nat} (h : MulRel w g n m X Y wr i 0 p 0) : MulRel w g n m X Y wr i 0 p' 0 := by
  obtain ⟨ds, hl, h32, hr, he, hz, hb⟩ := h
  exact ⟨ds, hl, h32, hr, by rw [List.take_zero, val_nil, Nat.mul_zero, Nat.mul_zero] at he ⊢; exact he, hz, hb⟩
/-- The end of a row: the carry is stored. -/
theorem MulRel.next {w wr : World} {g n m : Nat} {X Y : List Nat} {i p c : Nat} (h : MulRel w g n m X Y wr i m p c) (hg : w.heap.size ≤ g) (hi : i + m < n) (hc : c < 4294967296) (hp : X.getD i 0 = p) (hY : Y.length ≤ m) (p' : Nat) :
    MulRel w g n m X Y (wr.setCell ⟨g, i + m, none⟩ (.int .u32 (c : Int))) (i + 1) 0 p' 0 := by
  obtain ⟨ds, hl, h32, hr, he, hz, hb⟩ := h
  refine ⟨ds.set (i + m) c, by simpa using hl, h32.set hc, hr.set_ _ c, ?_, fun t' ht' => ?_, hb.setCell (by simpa using hg) _⟩
  · have hs := val_set ds (i + m) c (by omega)
    rw [hz _ (Nat.le_refl _), Nat.mul_zero, Nat.add_zero] at hs
    rw [List.take_of_length_le hY] at he
    rw [Nat.mul_zero, Nat.add_zero, hs, he, val_take_succ, hp, List.take_zero, val_nil, Nat.mul_zero, Nat.mul_zero, Nat.add_zero, Nat.add_mul, Nat.mul_assoc]
  · rw [List.getD_eq_getElem?_getD, List.getElem?_set_ne (by omega), ← List.getD_eq_getElem?_getD]
    exact hz t' (by omega)
theorem MulRel.drewN {w wr : World} {g n m : Nat} {X Y : List Nat} {i j p c : Nat} (h : MulRel w g n m X Y wr i j p c) (k : Nat) : MulRel w g n m X Y (wr.drewN k) i j p c := by
  obtain ⟨ds, hl, h32, hr, he, hz, hb⟩ := h
  exact ⟨ds, hl, h32, hr, he, hz, ⟨hb.os, hb.tape, hb.output, hb.size, hb.block⟩⟩
theorem MulRel.finish {w wr : World} {g n m : Nat} {X Y : List Nat} {i p : Nat} (h : MulRel w g n m X Y wr i 0 p 0) (hX : X.length ≤ i) :
    ∃ ds : List Nat, ds.length = n ∧ L32 ds ∧ Row wr g ds ∧ val ds = val X * val Y ∧ Below w.heap.size w wr := by
  obtain ⟨ds, hl, h32, hr, he, hz, hb⟩ := h
  refine ⟨ds, hl, h32, hr, ?_, hb⟩
  rw [List.take_of_length_le hX] at he
  rw [List.take_zero, val_nil, Nat.mul_zero, Nat.mul_zero, Nat.mul_zero, Nat.add_zero, Nat.add_zero] at he
  exact he
end Go.Proofs.YtjajmonhcnmidaaDoor
