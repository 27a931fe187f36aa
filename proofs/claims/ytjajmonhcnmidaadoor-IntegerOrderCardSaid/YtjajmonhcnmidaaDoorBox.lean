/- Boxes of a call's own: structs of two cells, later on. No walk. -/
import Derived.Test.YtjajmonhcnmidaaDoorRep
namespace Go.Proofs.YtjajmonhcnmidaaDoor
open Go.RowKit

theorem size_alloc' (w : World) (o : Obj) : (w.alloc o).heap.size = w.heap.size + 1 := by simp
theorem heap1 (w : World) (o1 : Obj) : (w.alloc o1).heap[w.heap.size]? = some o1 := heap_alloc_new w o1
theorem heap2 (w : World) (o1 o2 : Obj) : ((w.alloc o1).alloc o2).heap[w.heap.size]? = some o1 ∧ ((w.alloc o1).alloc o2).heap[w.heap.size + 1]? = some o2 :=
  ⟨(Below.heap_alloc _ _ _ (by simp)).trans (heap1 w o1), by have := heap1 (w.alloc o1) o2; rwa [size_alloc'] at this⟩
theorem heap3 (w : World) (o1 o2 o3 : Obj) : (((w.alloc o1).alloc o2).alloc o3).heap[w.heap.size]? = some o1 ∧ (((w.alloc o1).alloc o2).alloc o3).heap[w.heap.size + 1]? = some o2 ∧ (((w.alloc o1).alloc o2).alloc o3).heap[w.heap.size + 2]? = some o3 :=
  ⟨(Below.heap_alloc _ _ _ (by simp; omega)).trans (heap2 w o1 o2).1, (Below.heap_alloc _ _ _ (by simp)).trans (heap2 w o1 o2).2, by have := heap1 ((w.alloc o1).alloc o2) o3; rwa [size_alloc', size_alloc'] at this⟩
theorem below2 (w : World) (o1 o2 : Obj) : Below w.heap.size w ((w.alloc o1).alloc o2) := (below_alloc w o1).alloc (by simp) o2
theorem below3 (w : World) (o1 o2 o3 : Obj) : Below w.heap.size w (((w.alloc o1).alloc o2).alloc o3) := (below2 w o1 o2).alloc (by simp; omega) o3

/-- A box of two cells in a later world. -/
theorem box_in {W w1 : World} {g : Nat} {x y : Value} {T : TypeId} (hg : W.heap[g]? = some (.cells #[x, y] T (0, 0))) (hb : Below W.heap.size W w1) :
    w1.cell? ⟨g, 0, none⟩ = some x ∧ w1.cell? ⟨g, 1, none⟩ = some y ∧ w1.frozen? ⟨g, 0, none⟩ = false ∧ w1.frozen? ⟨g, 1, none⟩ = false ∧ g < w1.heap.size := by
  have hs : g < W.heap.size := by
    rcases Nat.lt_or_ge g W.heap.size with hlt | hge
    · exact hlt
    · rw [Array.getElem?_eq_none hge] at hg; cases hg
  have h1 : w1.heap[g]? = some (.cells #[x, y] T (0, 0)) := (hb.block g hs).trans hg
  exact ⟨cell_of_row w1 g 0 _ _ (0, 0) h1, cell_of_row w1 g 1 _ _ (0, 0) h1, frozen_of_row h1 0, frozen_of_row h1 1, Nat.lt_of_lt_of_le hs hb.size⟩
/-- The end of a function whose integer lies in a box of its own. -/
theorem box_end {w W w1 : World} {g : Nat} {x y x' y' v : Value} {z : Int} (hg : W.heap[g]? = some (.cells #[x, y] 27 (0, 0))) (hb : Below W.heap.size W w1) (h : IntAt w1 v z) (hw : Below w.heap.size w W) (hgw : w.heap.size ≤ g) :
    IntAt ((w1.setCell ⟨g, 0, none⟩ x').setCell ⟨g, 1, none⟩ y') v z ∧ Below w.heap.size w ((w1.setCell ⟨g, 0, none⟩ x').setCell ⟨g, 1, none⟩ y') := by
  have hs : g < W.heap.size := by
    rcases Nat.lt_or_ge g W.heap.size with hlt | hge
    · exact hlt
    · rw [Array.getElem?_eq_none hge] at hg; cases hg
  have h1 : w1.heap[g]? = some (.cells #[x, y] 27 (0, 0)) := (hb.block g hs).trans hg
  have hne : (27 : TypeId) ≠ 38 := by decide
  refine ⟨(h.far h1 hne 0 x').far (block_setCell h1 0 x') hne 1 y', ?_⟩
  exact ((step_below hw hb).setCell (by simpa using hgw) _).setCell (by simpa using hgw) _

def sgn (neg : Bool) (n : Nat) : Int := if neg then -(n : Int) else n
theorem sgn_abs (neg : Bool) (n : Nat) : (sgn neg n).natAbs = n := by cases neg <;> simp [sgn]
theorem sgn_of (z : Int) : sgn (decide (z < 0)) z.natAbs = z := by
  by_cases h : z < 0
  · simp [sgn, h]; omega
  · simp [sgn, h]; omega
theorem sgn_zero (b : Bool) : sgn b 0 = 0 := by cases b <;> rfl
/-- An integer opened: the sign and the number of limbs under names of their own. -/
theorem IntAt.parts_ {w : World} {v : Value} {z : Int} (h : IntAt w v z) {n : Nat} {b : Bool} (hn : z.natAbs = n) (hb : decide (z < 0) = b) : ∃ (A : Option Addr) (c : Nat), v = .agg #[.bool b, .slice A (len n) c] ∧ Hid (NatAt w (.slice A (len n) c) n) := by
  subst hn hb
  obtain ⟨s, rfl, A, c, rfl, hc, hm⟩ := h
  exact ⟨A, c, rfl, ⟨A, c, rfl, hc, hm⟩⟩
theorem IntAt.back {w : World} {z : Int} {n : Nat} {b : Bool} {A : Option Addr} {c : Nat} (h : NatAt w (.slice A (len n) c) n) (hn : z.natAbs = n) (hb : decide (z < 0) = b) : IntAt w (.agg #[.bool b, .slice A (len n) c]) z := by
  subst hn hb
  exact ⟨_, rfl, h⟩
end Go.Proofs.YtjajmonhcnmidaaDoor
