/- Walks: DivMod, wherever divide is right. -/
import Derived.Test.YtjajmonhcnmidaaDoorG1
namespace Go.Proofs.YtjajmonhcnmidaaDoor
open Go.RowKit

theorem heap4 (w : World) (o1 o2 o3 o4 : Obj) : ((((w.alloc o1).alloc o2).alloc o3).alloc o4).heap[w.heap.size]? = some o1 ∧ ((((w.alloc o1).alloc o2).alloc o3).alloc o4).heap[w.heap.size + 1]? = some o2 ∧ ((((w.alloc o1).alloc o2).alloc o3).alloc o4).heap[w.heap.size + 2]? = some o3 ∧ ((((w.alloc o1).alloc o2).alloc o3).alloc o4).heap[w.heap.size + 3]? = some o4 :=
  ⟨(Below.heap_alloc _ _ _ (by simp; try omega)).trans (heap3 w o1 o2 o3).1, (Below.heap_alloc _ _ _ (by simp; try omega)).trans (heap3 w o1 o2 o3).2.1, (Below.heap_alloc _ _ _ (by simp; try omega)).trans (heap3 w o1 o2 o3).2.2, by have := heap1 (((w.alloc o1).alloc o2).alloc o3) o4; rwa [size_alloc', size_alloc', size_alloc'] at this⟩
theorem below4 (w : World) (o1 o2 o3 o4 : Obj) : Below w.heap.size w ((((w.alloc o1).alloc o2).alloc o3).alloc o4) := (below3 w o1 o2 o3).alloc (by simp; omega) o4
/-- The end of a function with two integers in boxes of its own. -/
theorem box_end2 {w W w1 : World} {g g2 : Nat} {x y x' y' x2 y2 x'' y'' v v2 : Value} {z z2 : Int} (hg : W.heap[g]? = some (.cells #[x, y] 27 (0, 0))) (hg2 : W.heap[g2]? = some (.cells #[x2, y2] 27 (0, 0)))
    (hb : Below W.heap.size W w1) (h : IntAt w1 v z) (h2 : IntAt w1 v2 z2) (hw : Below w.heap.size w W) (hgw : w.heap.size ≤ g) (hne2 : g < g2) :
    IntAt ((((w1.setCell ⟨g, 0, none⟩ x').setCell ⟨g, 1, none⟩ y').setCell ⟨g2, 0, none⟩ x'').setCell ⟨g2, 1, none⟩ y'') v z ∧ IntAt ((((w1.setCell ⟨g, 0, none⟩ x').setCell ⟨g, 1, none⟩ y').setCell ⟨g2, 0, none⟩ x'').setCell ⟨g2, 1, none⟩ y'') v2 z2 ∧
      Below w.heap.size w ((((w1.setCell ⟨g, 0, none⟩ x').setCell ⟨g, 1, none⟩ y').setCell ⟨g2, 0, none⟩ x'').setCell ⟨g2, 1, none⟩ y'') := by
  have lt_of : ∀ {k : Nat} {o : Obj}, W.heap[k]? = some o → k < W.heap.size := fun {k o} hk => by
    rcases Nat.lt_or_ge k W.heap.size with hlt | hge
    · exact hlt
    · rw [Array.getElem?_eq_none hge] at hk; cases hk
  have h1 : w1.heap[g]? = some (.cells #[x, y] 27 (0, 0)) := (hb.block g (lt_of hg)).trans hg
  have h1' : w1.heap[g2]? = some (.cells #[x2, y2] 27 (0, 0)) := (hb.block g2 (lt_of hg2)).trans hg2
  have hne : (27 : TypeId) ≠ 38 := by decide
  have e1 := block_setCell h1 0 x'
  have k1 : (w1.setCell ⟨g, 0, none⟩ x').heap[g2]? = some (.cells #[x2, y2] 27 (0, 0)) := (Below.heap_setCell _ _ _ _ (by simp; omega)).trans h1'
  have k2 : ((w1.setCell ⟨g, 0, none⟩ x').setCell ⟨g, 1, none⟩ y').heap[g2]? = some (.cells #[x2, y2] 27 (0, 0)) := (Below.heap_setCell _ _ _ _ (by simp; omega)).trans k1
  have k3 := block_setCell k2 0 x''
  refine ⟨(((h.far h1 hne 0 x').far e1 hne 1 y').far k2 hne 0 x'').far k3 hne 1 y'', (((h2.far h1 hne 0 x').far e1 hne 1 y').far k2 hne 0 x'').far k3 hne 1 y'', ?_⟩
  exact ((((step_below hw hb).setCell (by simpa using hgw) _).setCell (by simpa using hgw) _).setCell (by simp; omega) _).setCell (by simp; omega) _
theorem one_nat (w : World) : NatAt (w.alloc (.cells #[.int .u32 1] 38)) (.slice (some ⟨w.heap.size, 0, none⟩) 1 1) 1 := by
  have h := (Row.new w [1]).nat (L32.mk (by decide) L32.nil_) (c := 1) (by decide)
  have e : val [1] = 1 := rfl
  rw [e] at h
  have e2 : len 1 = 1 := by rw [len_pos (by decide)]; simp [len_zero]
  rw [e2] at h
  exact h
theorem div_of {a b q r : Int} (h : a = b * q + r) (h0 : 0 ≤ r) (h1 : r < b ∨ r < -b) : q = a / b ∧ r = a % b := by
  have hb : b ≠ 0 := by omega
  have hr : r / b = 0 ∧ r % b = r := by
    rcases h1 with h1 | h1
    · exact ⟨Int.ediv_eq_zero_of_lt h0 h1, Int.emod_eq_of_lt h0 h1⟩
    · have e : b = -(-b) := by omega
      constructor
      · rw [e, Int.ediv_neg, Int.ediv_eq_zero_of_lt h0 h1]; rfl
      · rw [e, Int.emod_neg]; exact Int.emod_eq_of_lt h0 h1
  subst h
  constructor
  · rw [Int.mul_comm, Int.add_comm, Int.add_mul_ediv_right _ _ hb, hr.1]; omega
  · rw [Int.mul_comm, Int.add_comm, Int.add_mul_emod_self_right, hr.2]
theorem dm_false_false {a b : Int} {x y : Nat} (h1 : sgn false x = a) (h2 : sgn false y = b) (hy : 0 < y) : sgn false (x / y) = a / b ∧ sgn false (x % y) = a % b := by
  have h3 := Nat.div_add_mod x y
  have h4 := Nat.mod_lt x hy
  generalize x / y = d at *
  generalize x % y = r at *
  have hx : (x : Int) = (y : Int) * (d : Int) + (r : Int) := by rw [← Int.natCast_mul]; omega
  refine div_of ?_ ?_ ?_
  · rw [← h1, ← h2]
    simp only [sgn, Bool.false_eq_true, if_false, if_true, reduceIte, Int.natCast_add, Int.mul_neg, Int.neg_mul, Int.mul_add, Int.neg_neg]
    omega
  · simp only [sgn, Bool.false_eq_true, if_false, reduceIte]; omega
  · rw [← h2]
    simp only [sgn, Bool.false_eq_true, if_false, if_true, reduceIte]
    omega
theorem dm_false_true {a b : Int} {x y : Nat} (h1 : sgn false x = a) (h2 : sgn true y = b) (hy : 0 < y) : sgn true (x / y) = a / b ∧ sgn false (x % y) = a % b := by
  have h3 := Nat.div_add_mod x y
  have h4 := Nat.mod_lt x hy
  generalize x / y = d at *
  generalize x % y = r at *
  have hx : (x : Int) = (y : Int) * (d : Int) + (r : Int) := by rw [← Int.natCast_mul]; omega
  refine div_of ?_ ?_ ?_
  · rw [← h1, ← h2]
    simp only [sgn, Bool.false_eq_true, if_false, if_true, reduceIte, Int.natCast_add, Int.mul_neg, Int.neg_mul, Int.mul_add, Int.neg_neg]
    omega
  · simp only [sgn, Bool.false_eq_true, if_false, reduceIte]; omega
  · rw [← h2]
    simp only [sgn, Bool.false_eq_true, if_false, if_true, reduceIte]
    omega
theorem dm0_true_false {a b : Int} {x y : Nat} (h1 : sgn true x = a) (h2 : sgn false y = b) (hy : 0 < y) (hr : x % y = 0) : sgn true (x / y) = a / b ∧ sgn false (x % y) = a % b := by
  have h3 := Nat.div_add_mod x y
  have h4 := Nat.mod_lt x hy
  generalize x / y = d at *
  generalize x % y = r at *
  have hx : (x : Int) = (y : Int) * (d : Int) + (r : Int) := by rw [← Int.natCast_mul]; omega
  refine div_of ?_ ?_ ?_
  · rw [← h1, ← h2]
    simp only [sgn, Bool.false_eq_true, if_false, if_true, reduceIte, Int.natCast_add, Int.mul_neg, Int.neg_mul, Int.mul_add, Int.neg_neg]
    omega
  · simp only [sgn, Bool.false_eq_true, if_false, reduceIte]; omega
  · rw [← h2]
    simp only [sgn, Bool.false_eq_true, if_false, if_true, reduceIte]
    omega
theorem dm0_true_true {a b : Int} {x y : Nat} (h1 : sgn true x = a) (h2 : sgn true y = b) (hy : 0 < y) (hr : x % y = 0) : sgn false (x / y) = a / b ∧ sgn false (x % y) = a % b := by
  have h3 := Nat.div_add_mod x y
  have h4 := Nat.mod_lt x hy
  generalize x / y = d at *
  generalize x % y = r at *
  have hx : (x : Int) = (y : Int) * (d : Int) + (r : Int) := by rw [← Int.natCast_mul]; omega
  refine div_of ?_ ?_ ?_
  · rw [← h1, ← h2]
    simp only [sgn, Bool.false_eq_true, if_false, if_true, reduceIte, Int.natCast_add, Int.mul_neg, Int.neg_mul, Int.mul_add, Int.neg_neg]
    omega
  · simp only [sgn, Bool.false_eq_true, if_false, reduceIte]; omega
  · rw [← h2]
    simp only [sgn, Bool.false_eq_true, if_false, if_true, reduceIte]
    omega
theorem dm1_true_false {a b : Int} {x y : Nat} (h1 : sgn true x = a) (h2 : sgn false y = b) (hy : 0 < y) (hr : 0 < x % y) : sgn true (x / y + 1) = a / b ∧ sgn false (y - x % y) = a % b := by
  have h3 := Nat.div_add_mod x y
  have h4 := Nat.mod_lt x hy
  generalize x / y = d at *
  generalize x % y = r at *
  have hx : (x : Int) = (y : Int) * (d : Int) + (r : Int) := by rw [← Int.natCast_mul]; omega
  refine div_of ?_ ?_ ?_
  · rw [← h1, ← h2]
    simp only [sgn, Bool.false_eq_true, if_false, if_true, reduceIte, Int.natCast_add, Int.mul_neg, Int.neg_mul, Int.mul_add, Int.neg_neg]
    omega
  · simp only [sgn, Bool.false_eq_true, if_false, reduceIte]; omega
  · rw [← h2]
    simp only [sgn, Bool.false_eq_true, if_false, if_true, reduceIte]
    omega
theorem dm1_true_true {a b : Int} {x y : Nat} (h1 : sgn true x = a) (h2 : sgn true y = b) (hy : 0 < y) (hr : 0 < x % y) : sgn false (x / y + 1) = a / b ∧ sgn false (y - x % y) = a % b := by
  have h3 := Nat.div_add_mod x y
  have h4 := Nat.mod_lt x hy
  generalize x / y = d at *
  generalize x % y = r at *
  have hx : (x : Int) = (y : Int) * (d : Int) + (r : Int) := by rw [← Int.natCast_mul]; omega
  refine div_of ?_ ?_ ?_
  · rw [← h1, ← h2]
    simp only [sgn, Bool.false_eq_true, if_false, if_true, reduceIte, Int.natCast_add, Int.mul_neg, Int.neg_mul, Int.mul_add, Int.neg_neg]
    omega
  · simp only [sgn, Bool.false_eq_true, if_false, reduceIte]; omega
  · rw [← h2]
    simp only [sgn, Bool.false_eq_true, if_false, if_true, reduceIte]
    omega

def GivesDM (q r ec : Int) (w : World) (e : Ending) (w' : World) : Prop := ∃ vq vr, e = .returned (.tuple #[vq, vr, .int .i64 ec]) ∧ IntAt w' vq q ∧ IntAt w' vr r ∧ Below w.heap.size w w'
end Go.Proofs.YtjajmonhcnmidaaDoor
