/- What the loops of 'difference' keep: plain lemmas. -/
import Derived.Test.YtjajmonhcnmidaaDoorSumP
namespace Go.Proofs.YtjajmonhcnmidaaDoor
open Go.RowKit

def DifRel (w : World) (g n : Nat) (X Y : List Nat) (wr : World) (k c : Nat) : Prop :=
  ∃ ds : List Nat, ds.length = n ∧ L32 ds ∧ Row wr g ds ∧ val (ds.take k) + val (Y.take k) = val (X.take k) + 4294967296 ^ k * c ∧ Below w.heap.size w wr

/-- p - q - c in 64 bits. -/
def dig (p q c : Nat) : Nat := (p + 18446744073709551616 - q - c) % 18446744073709551616
theorem dig_lt (p q c : Nat) : dig p q c < 18446744073709551616 := by unfold dig; omega
theorem dig_top {p q c : Nat} (hp : p < 4294967296) (hq : q < 4294967296) (hc : c ≤ 1) : dig p q c / 9223372036854775808 ≤ 1 := by unfold dig; omega
theorem wrap_dig {p q c : Nat} (hp : p < 4294967296) (hq : q < 4294967296) (hc : c ≤ 1) : IntKind.u64.wrap (IntKind.u64.wrap ((p : Int) - (q : Int)) - (c : Int)) = (dig p q c : Int) := by
  unfold dig; rw [IntKind.wrap_u64, IntKind.wrap_u64]; omega
theorem wrap_dig0 {p c : Nat} (hp : p < 4294967296) (hc : c ≤ 1) : IntKind.u64.wrap ((p : Int) - (c : Int)) = (dig p 0 c : Int) := by
  unfold dig; rw [IntKind.wrap_u64]; omega
theorem DifRel.step {w wr : World} {g n : Nat} {X Y : List Nat} {k c p q : Nat} (h : DifRel w g n X Y wr k c) (hk : k < n) (hg : w.heap.size ≤ g) (hp : X.getD k 0 = p) (hq : Y.getD k 0 = q) (hp' : p < 4294967296) (hq' : q < 4294967296) (hc : c ≤ 1)
    (v : Int) (hv : v = (dig p q c : Int) % 4294967296) : DifRel w g n X Y (wr.setCell ⟨g, k, none⟩ (.int .u32 v)) (k + 1) (dig p q c / 9223372036854775808) := by
  obtain ⟨ds, hl, h32, hr, he, hb⟩ := h
  have e : v = ((dig p q c % 4294967296 : Nat) : Int) := by omega
  rw [e]
  refine ⟨ds.set k (dig p q c % 4294967296), by simpa using hl, h32.set (by omega), hr.set_ k _, ?_, hb.setCell (by simpa using hg) _⟩
  rw [take_set_succ _ _ _ (by omega), val_take_succ X, val_take_succ Y, hp, hq, Nat.pow_succ]
  have e1 : dig p q c % 4294967296 + q + c = p + 4294967296 * (dig p q c / 9223372036854775808) := by unfold dig; omega
  generalize dig p q c / 9223372036854775808 = d at *
  generalize dig p q c % 4294967296 = r at *
  generalize 4294967296 ^ k = P at *
  have e2 : P * (r + q + c) = P * (p + 4294967296 * d) := by rw [e1]
  rw [Nat.mul_add, Nat.mul_add, Nat.mul_add, ← Nat.mul_assoc] at e2
  omega
theorem DifRel.cell {w wr : World} {g n : Nat} {X Y : List Nat} {k c : Nat} (h : DifRel w g n X Y wr k c) {i : Nat} (hi : i < n) : ∃ x : Nat, wr.cell? ⟨g, i, none⟩ = some (.int .u32 (x : Int)) ∧ wr.frozen? ⟨g, i, none⟩ = false := by
  obtain ⟨ds, hl, h32, hr, he, hb⟩ := h
  exact ⟨_, hr.cell (by omega), hr.frozen i⟩
theorem DifRel.start (w : World) (n : Nat) (X Y : List Nat) : DifRel w w.heap.size n X Y (w.alloc (rowObj (List.replicate n 0))) 0 0 :=
  ⟨_, by simp, L32.replicate _, Row.new _ _, by simp [val], below_alloc _ _⟩
theorem DifRel.finish {w wr : World} {g n : Nat} {X Y : List Nat} {c : Nat} (h : DifRel w g n X Y wr n c) (hX : X.length ≤ n) (hY : Y.length ≤ n) (hxy : val Y ≤ val X) :
    ∃ ds : List Nat, ds.length = n ∧ L32 ds ∧ Row wr g ds ∧ val ds = val X - val Y ∧ Below w.heap.size w wr := by
  obtain ⟨ds, hl, h32, hr, he, hb⟩ := h
  refine ⟨ds, hl, h32, hr, ?_, hb⟩
  rw [List.take_of_length_le (by omega), List.take_of_length_le hX, List.take_of_length_le hY] at he
  have h1 := val_lt h32
  rw [hl] at h1
  rcases Nat.eq_zero_or_pos c with h0 | h0
  · rw [h0] at he; omega
  · have : 4294967296 ^ n * 1 ≤ 4294967296 ^ n * c := Nat.mul_le_mul_left _ h0
    omega
end Go.Proofs.YtjajmonhcnmidaaDoor
