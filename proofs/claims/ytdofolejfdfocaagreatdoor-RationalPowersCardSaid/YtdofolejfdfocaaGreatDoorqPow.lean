/- Walks: Pow. -/
import Derived.Test.YtdofolejfdfocaaGreatDoorqR3
import Derived.Test.YtdofolejfdfocaaGreatDoorShelf
namespace Go.Proofs.YtdofolejfdfocaaGreatDoor
open Go.RowKit

theorem bitLen_lt (x : Nat) (hx : x < 18446744073709551616) : x < 2 ^ Lib.bitLen x := by
  induction x using Nat.strongRecOn with
  | _ x ih =>
    rcases Nat.eq_zero_or_pos x with h | h
    · subst h; exact Nat.pow_pos (by decide)
    · rw [Lib.bitLen_half x (by omega) (by simpa using hx), Nat.pow_add]
      have := ih (x / 2) (by omega) (by omega)
      omega
theorem bitLen_le9 {x : Nat} (hx : x ≤ 256) : Lib.bitLen x ≤ 9 := by
  rcases Nat.eq_zero_or_pos x with h | h
  · subst h; decide
  · rw [Lib.bitLen_half x (by omega) (by omega)]
    have := Lib.bitLen_le8 ⟨x / 2, by omega⟩
    simp only at this
    omega
theorem and_one_i64 (a : Nat) (ha : a < 9223372036854775808) : bits .and .i64 (a : Int) 1 = ((a % 2 : Nat) : Int) := by
  have e1 : (BitVec.ofInt 64 (a : Int)).toNat = a := by rw [BitVec.ofInt_natCast, BitVec.toNat_ofNat]; exact Nat.mod_eq_of_lt (by omega)
  have e2 : (BitVec.ofInt 64 (1 : Int)).toNat = 1 := by decide
  show IntKind.i64.wrap ((BitVec.ofInt 64 (a : Int) &&& BitVec.ofInt 64 (1 : Int)).toNat : Int) = _
  rw [BitVec.toNat_and, e1, e2, Nat.and_one_is_mod, IntKind.wrap_i64]
  omega
theorem bit_is (n m : Nat) (hn : n ≤ 256) (b : Bool) (hb : (n / 2 ^ m) % 2 = if b then 1 else 0) : (bits BinOp.and IntKind.i64 ((n : Int) / 2 ^ m) 1 == 1) = b := by
  have e : ((n : Int) / 2 ^ m) = ((n / 2 ^ m : Nat) : Int) := by
    rw [Int.natCast_ediv, Int.natCast_pow]; rfl
  have : n / 2 ^ m ≤ n := Nat.div_le_self _ _
  rw [e, and_one_i64 _ (by omega), hb]
  cases b <;> rfl
theorem half_of (n m : Nat) : n / 2 ^ m = n / 2 ^ (m + 1) + n / 2 ^ (m + 1) + n / 2 ^ m % 2 := by
  have : n / 2 ^ (m + 1) = n / 2 ^ m / 2 := by rw [Nat.pow_succ, Nat.div_div_eq_div_mul]
  omega
/-- The box of the power, and all that was there before it. -/
def PowRel (W : World) (wr : World) (z : Int) : Prop := ∃ (b : Bool) (A : Option Addr) (k c : Nat), wr.heap[W.heap.size]? = some (.cells #[.bool b, .slice A k c] 27 (0, 0)) ∧ IntAt wr (.agg #[.bool b, .slice A k c]) z ∧ Below W.heap.size W wr
/-- The same, of a power whose value is known. -/
def PowAt (W wr : World) (z : Int) (b : Bool) (A : Option Addr) (k c : Nat) : Prop := wr.heap[W.heap.size]? = some (.cells #[.bool b, .slice A k c] 27 (0, 0)) ∧ IntAt wr (.agg #[.bool b, .slice A k c]) z ∧ Below W.heap.size W wr
theorem PowAt.rel {W wr : World} {z : Int} {b : Bool} {A : Option Addr} {k c : Nat} (h : PowAt W wr z b A k c) : PowRel W wr z := ⟨b, A, k, c, h⟩
theorem PowRel.next {W wr w1 : World} {z z' : Int} (h : PowRel W wr z) (hb : Below wr.heap.size wr w1) {b : Bool} {A : Option Addr} {k c : Nat} (hi : IntAt w1 (.agg #[.bool b, .slice A k c]) z') :
    PowAt W ((w1.setCell ⟨W.heap.size, 0, none⟩ (.bool b)).setCell ⟨W.heap.size, 1, none⟩ (.slice A k c)) z' b A k c := by
  obtain ⟨b0, A0, k0, c0, hg, _, hW⟩ := h
  have hlt : W.heap.size < wr.heap.size := by
    rcases Nat.lt_or_ge W.heap.size wr.heap.size with hlt | hge
    · exact hlt
    · rw [Array.getElem?_eq_none hge] at hg; cases hg
  have h1 := (hb.block _ hlt).trans hg
  have hne : (27 : TypeId) ≠ 76 := by decide
  refine ⟨?_, (hi.far h1 hne 0 _).far (block_setCell h1 0 _) hne 1 _, ?_⟩
  · have := block_setCell (block_setCell h1 0 (.bool b)) 1 (.slice A k c)
    simpa using this
  · exact ((hW.trans (hb.mono hW.size)).setCell (by simp) _).setCell (by simp) _
theorem PowRel.first {W : World} {z : Int} (b : Bool) (A : Option Addr) (k c : Nat) (h : IntAt W (.agg #[.bool b, .slice A k c]) z) : PowRel W (W.alloc (.cells #[.bool b, .slice A k c] 27)) z :=
  ⟨b, A, k, c, heap1 W _, h.into (below_alloc _ _), below_alloc _ _⟩
theorem PowRel.cells {W wr : World} {z : Int} (h : PowRel W wr z) : ∃ (b : Bool) (A : Option Addr) (k c : Nat), wr.cell? ⟨W.heap.size, 0, none⟩ = some (.bool b) ∧ wr.cell? ⟨W.heap.size, 1, none⟩ = some (.slice A k c) ∧ wr.frozen? ⟨W.heap.size, 0, none⟩ = false ∧ wr.frozen? ⟨W.heap.size, 1, none⟩ = false ∧ W.heap.size < wr.heap.size ∧ Hid (IntAt wr (.agg #[.bool b, .slice A k c]) z) := by
  obtain ⟨b, A, k, c, hg, hi, hW⟩ := h
  obtain ⟨a, b', c', d, e⟩ := box_in hg (Below.refl _ _)
  exact ⟨b, A, k, c, a, b', c', d, e, hi⟩

end Go.Proofs.YtdofolejfdfocaaGreatDoor
