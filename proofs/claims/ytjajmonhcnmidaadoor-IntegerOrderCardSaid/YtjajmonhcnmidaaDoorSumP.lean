/- What the loops of 'sum' keep: plain lemmas. -/
import Derived.Test.YtjajmonhcnmidaaDoorW2
namespace Go.Proofs.YtjajmonhcnmidaaDoor
open Go.RowKit

/-- After k rounds of an addition with the carry c. -/
def SumRel (w : World) (g n : Nat) (X Y : List Nat) (wr : World) (k c : Nat) : Prop :=
  ∃ ds : List Nat, ds.length = n + 1 ∧ L32 ds ∧ Row wr g ds ∧ val (ds.take k) + 4294967296 ^ k * c = val (X.take k) + val (Y.take k) ∧ Below w.heap.size w wr

theorem take_set_succ (ds : List Nat) (k r : Nat) (hk : k < ds.length) : val ((ds.set k r).take (k + 1)) = val (ds.take k) + 4294967296 ^ k * r := by
  rw [val_take_succ, List.take_set_of_le (by omega)]
  congr 2
  simp [List.getD, List.getElem?_set, hk]

theorem SumRel.step {w wr : World} {g n : Nat} {X Y : List Nat} {k c p q : Nat} (h : SumRel w g n X Y wr k c) (hk : k < n + 1) (hg : w.heap.size ≤ g) (hp : X.getD k 0 = p) (hq : Y.getD k 0 = q) :
    SumRel w g n X Y (wr.setCell ⟨g, k, none⟩ (.int .u32 (((c + (p + q)) % 4294967296 : Nat) : Int))) (k + 1) ((c + (p + q)) / 4294967296) := by
  obtain ⟨ds, hl, h32, hr, he, hb⟩ := h
  refine ⟨ds.set k ((c + (p + q)) % 4294967296), by simpa using hl, h32.set (by omega), hr.set_ k _, ?_, hb.setCell (by simpa using hg) _⟩
  rw [take_set_succ _ _ _ (by omega), val_take_succ X, val_take_succ Y, hp, hq, Nat.pow_succ]
  have e : c + (p + q) = 4294967296 * ((c + (p + q)) / 4294967296) + (c + (p + q)) % 4294967296 := by omega
  generalize (c + (p + q)) / 4294967296 = d at *
  generalize (c + (p + q)) % 4294967296 = r at *
  generalize 4294967296 ^ k = P at *
  have e2 : P * (c + (p + q)) = P * (4294967296 * d + r) := by rw [e]
  rw [Nat.mul_add, Nat.mul_add, Nat.mul_add, ← Nat.mul_assoc] at e2
  omega
theorem SumRel.step' {w wr : World} {g n : Nat} {X Y : List Nat} {k c p q : Nat} (h : SumRel w g n X Y wr k c) (hk : k < n + 1) (hg : w.heap.size ≤ g) (hp : X.getD k 0 = p) (hq : Y.getD k 0 = q) (v : Int) (hv : v = ((c : Int) + ((p : Int) + (q : Int))) % 4294967296) :
    SumRel w g n X Y (wr.setCell ⟨g, k, none⟩ (.int .u32 v)) (k + 1) ((c + (p + q)) / 4294967296) := by
  have e : v = (((c + (p + q)) % 4294967296 : Nat) : Int) := by omega
  rw [e]
  exact h.step hk hg hp hq
theorem SumRel.cell {w wr : World} {g n : Nat} {X Y : List Nat} {k c : Nat} (h : SumRel w g n X Y wr k c) {i : Nat} (hi : i < n + 1) : ∃ x : Nat, wr.cell? ⟨g, i, none⟩ = some (.int .u32 (x : Int)) ∧ wr.frozen? ⟨g, i, none⟩ = false := by
  obtain ⟨ds, hl, h32, hr, he, hb⟩ := h
  exact ⟨_, hr.cell (by omega), hr.frozen i⟩
theorem SumRel.start (w : World) (n : Nat) (X Y : List Nat) : SumRel w w.heap.size n X Y (w.alloc (rowObj (List.replicate (n + 1) 0))) 0 0 :=
  ⟨_, by simp, L32.replicate _, Row.new _ _, by simp [val], below_alloc _ _⟩
/-- The last store, and the result's limbs. -/
theorem SumRel.finish {w wr : World} {g n : Nat} {X Y : List Nat} {c : Nat} (h : SumRel w g n X Y wr n c) (hg : w.heap.size ≤ g) (hc : c < 4294967296) (hX : X.length ≤ n) (hY : Y.length ≤ n) :
    ∃ ds : List Nat, ds.length = n + 1 ∧ L32 ds ∧ Row (wr.setCell ⟨g, n, none⟩ (.int .u32 (c : Int))) g ds ∧ val ds = val X + val Y ∧ Below w.heap.size w (wr.setCell ⟨g, n, none⟩ (.int .u32 (c : Int))) := by
  obtain ⟨ds, hl, h32, hr, he, hb⟩ := h
  refine ⟨ds.set n c, by simpa using hl, h32.set hc, hr.set_ n c, ?_, hb.setCell (by simpa using hg) _⟩
  have h1 := take_set_succ ds n c (by omega)
  rw [List.take_of_length_le (by simp [hl])] at h1
  rw [h1, he, List.take_of_length_le hX, List.take_of_length_le hY]
end Go.Proofs.YtjajmonhcnmidaaDoor
