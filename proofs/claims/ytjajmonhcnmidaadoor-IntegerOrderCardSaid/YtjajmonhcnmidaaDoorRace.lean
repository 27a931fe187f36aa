/- 'a, b, c := made(x), made(y), made(z)': three calls and three new boxes, in whatever order; then the three stores. -/
import Derived.Test.YtjajmonhcnmidaaDoorRg
import Derived.Test.YtjajmonhcnmidaaDoorMade
namespace Go.Proofs.YtjajmonhcnmidaaDoor
open Go.RowKit

abbrev zeroI : Obj := .cells #[.bool false, .slice none 0 0] 27 (0, 0)
/-- A raw argument, its place, and what made makes of it. -/
structure RawArg where
  b : Bool
  A : Option Addr
  k : Nat
  c : Nat
  ms : List Nat
def RawArg.val_ (r : RawArg) : Value := .agg #[.slice r.A r.k r.c, .bool r.b]
def RawArg.int (r : RawArg) : Int := sgn r.b (val (r.ms.take (min r.k 12)))
structure RawArg.Ok (r : RawArg) (w : World) : Prop where
  len : r.ms.length = r.k
  mem : RawMem w w.heap.size r.A r.ms
  cap : r.k ≤ r.c
  lim : L32 r.ms
  big : r.k ≤ 2305843009213693952
  nil : r.A = none → r.c = 0
theorem RawArg.Ok.into {r : RawArg} {w w' : World} (h : r.Ok w) (hb : Below w.heap.size w w') : r.Ok w' := ⟨h.len, rawMem_more (h.mem.below hb) hb.size, h.cap, h.lim, h.big, h.nil⟩
theorem RawArg.Ok.sm {r : RawArg} {w : World} (h : r.Ok w) : Sm r.int 12 := by
  unfold Sm RawArg.int
  rw [sgn_abs]
  refine Nat.lt_of_lt_of_le (val_lt (h.lim.take _)) (Nat.pow_le_pow_right (by decide) ?_)
  rw [List.length_take]
  omega
theorem RawArg.Ok.made {r : RawArg} {w : World} (h : r.Ok w) : Calls Tryd.prog 12 #[r.val_] w fun e w' => ∃ v, e = .returned v ∧ IntAt w' v r.int ∧ Below w.heap.size w w' :=
  made_any r.b r.A r.k r.c r.ms w h.len h.mem h.cap h.lim h.big h.nil
def RawBox (w : World) (g : Nat) (r : RawArg) : Prop := w.heap[g]? = some (.cells #[.slice r.A r.k r.c, .bool r.b] 24 (0, 0))
theorem RawBox.into {w w' : World} {g : Nat} {r : RawArg} (h : RawBox w g r) (hb : Below w.heap.size w w') : RawBox w' g r := by
  have hl : g < w.heap.size := by
    rcases Nat.lt_or_ge g w.heap.size with hlt | hge
    · exact hlt
    · unfold RawBox at h; rw [Array.getElem?_eq_none hge] at h; cases h
  exact (hb.block g hl).trans h

section
variable {a : Act} {w : World} {o : Oper}
theorem run_loadR {t g : Nat} {r : RawArg} (h : a.tmps[t]? = some (.pointer (some ⟨g, 0, none⟩))) (hr : RawBox w g r) (ho : o.op = .load 24 (.tmp t)) : (execOp a.eval o).run Tryd.prog w = .ok (.value r.val_) w := by
  have h0 : w.cell? ⟨g, 0, none⟩ = some (.slice r.A r.k r.c) := by rw [cell_of_row w g 0 _ _ (0, 0) hr]; rfl
  have h1 : w.cell? ⟨g, 1, none⟩ = some (.bool r.b) := by rw [cell_of_row w g 1 _ _ (0, 0) hr]; rfl
  unfold execOp RawArg.val_; rw [ho]; simp [go_sem, h, h0, h1]
theorem run_callMade {x : Nat} {vx : Value} (hx : a.tmps[x]? = some vx) (ho : o.op = .call { callee := .value (.func 12), args := #[.tmp x], argTypes := #[24] }) : (execOp a.eval o).run Tryd.prog w = .ok (.enter 12 #[vx]) w := by
  unfold execOp; rw [ho]; simp [go_sem, hx]
theorem run_allocI (ho : o.op = .alloc 27) : (execOp a.eval o).run Tryd.prog w = .ok (.value (.pointer (some ⟨w.heap.size, 0, none⟩))) (w.alloc zeroI) := by
  unfold execOp; rw [ho]; simp [go_sem]
theorem run_storeI {t x g : Nat} {b0 b : Bool} {A0 A : Option Addr} {k0 c0 k c : Nat} (h : a.tmps[t]? = some (.pointer (some ⟨g, 0, none⟩))) (hx : a.tmps[x]? = some (.agg #[.bool b, .slice A k c]))
    (hw : w.heap[g]? = some (.cells #[.bool b0, .slice A0 k0 c0] 27 (0, 0))) (ho : o.op = .store 27 (.tmp t) (.tmp x)) :
    (execOp a.eval o).run Tryd.prog w = .ok .skip ((w.setCell ⟨g, 0, none⟩ (.bool b)).setCell ⟨g, 1, none⟩ (.slice A k c)) := by
  have h0 : w.cell? ⟨g, 0, none⟩ = some (.bool b0) := by rw [cell_of_row w g 0 _ _ (0, 0) hw]; rfl
  have h1 : w.cell? ⟨g, 1, none⟩ = some (.slice A0 k0 c0) := by rw [cell_of_row w g 1 _ _ (0, 0) hw]; rfl
  have f0 := frozen_of_row hw 0
  have f1 := frozen_of_row hw 1
  unfold execOp; rw [ho]; simp [go_sem, h, hx, h0, h1, f0, f1]
end

/-- A box after a store into it; the others after it. -/
theorem boxI_store {w : World} {g : Nat} {b0 b : Bool} {A0 A : Option Addr} {k0 c0 k c : Nat} {z : Int} (hw : w.heap[g]? = some (.cells #[.bool b0, .slice A0 k0 c0] 27 (0, 0))) (hi : IntAt w (.agg #[.bool b, .slice A k c]) z) :
    BoxI ((w.setCell ⟨g, 0, none⟩ (.bool b)).setCell ⟨g, 1, none⟩ (.slice A k c)) g (.agg #[.bool b, .slice A k c]) z := by
  have hne : (27 : TypeId) ≠ 38 := by decide
  refine ⟨b, A, k, c, rfl, ?_, (hi.far hw hne 0 _).far (block_setCell hw 0 _) hne 1 _⟩
  exact block_setCell (block_setCell hw 0 (.bool b)) 1 (.slice A k c)
theorem int_store {w : World} {g : Nat} {cs : Array Value} {u u' v : Value} {z : Int} (hw : w.heap[g]? = some (.cells cs 27 (0, 0))) (hi : IntAt w v z) : IntAt ((w.setCell ⟨g, 0, none⟩ u).setCell ⟨g, 1, none⟩ u') v z := by
  have hne : (27 : TypeId) ≠ 38 := by decide
  exact (hi.far hw hne 0 _).far (block_setCell hw 0 _) hne 1 _
theorem heap_store {w : World} {g j : Nat} {u u' : Value} (h : j ≠ g) : ((w.setCell ⟨g, 0, none⟩ u).setCell ⟨g, 1, none⟩ u').heap[j]? = w.heap[j]? := by
  rw [Below.heap_setCell _ _ _ _ h, Below.heap_setCell _ _ _ _ h]
theorem boxI_other {w : World} {g j : Nat} {cs : Array Value} {u u' v : Value} {z : Int} (hw : w.heap[g]? = some (.cells cs 27 (0, 0))) (h : j ≠ g) (hb : BoxI w j v z) : BoxI ((w.setCell ⟨g, 0, none⟩ u).setCell ⟨g, 1, none⟩ u') j v z := by
  obtain ⟨b, A, k, c, e, hh, hi⟩ := hb
  exact ⟨b, A, k, c, e, (heap_store h).trans hh, int_store hw hi⟩
theorem below_store {W0 w : World} {g : Nat} {u u' : Value} (h : Below W0.heap.size W0 w) (hg : W0.heap.size ≤ g) : Below W0.heap.size W0 ((w.setCell ⟨g, 0, none⟩ u).setCell ⟨g, 1, none⟩ u') :=
  (h.setCell hg u).setCell hg u'

section
variable {N : Nat} {W0 : World} {a0 : Act} {r0 r1 r2 : RawArg}

/-- The state behind the loads, c calls and some of the three boxes. -/
structure Race (N : Nat) (W0 : World) (a0 : Act) (r0 r1 r2 : RawArg) (c : Nat) (d0 d1 d2 : Bool) (a : Act) (w : World) : Prop where
  size : a.tmps.size = N
  low : ∀ t, t < 8 → a.tmps[t]? = a0.tmps[t]?
  defers : a.defers = a0.defers
  x0 : a.tmps[15]? = some r0.val_
  x1 : a.tmps[17]? = some r1.val_
  x2 : a.tmps[19]? = some r2.val_
  below : Below W0.heap.size W0 w
  v0 : 0 < c → ∃ v, a.tmps[16]? = some v ∧ IntAt w v r0.int
  v1 : 1 < c → ∃ v, a.tmps[18]? = some v ∧ IntAt w v r1.int
  v2 : 2 < c → ∃ v, a.tmps[20]? = some v ∧ IntAt w v r2.int
  p0 : d0 = true → ∃ g, a.tmps[8]? = some (.pointer (some ⟨g, 0, none⟩)) ∧ w.heap[g]? = some zeroI ∧ W0.heap.size ≤ g
  p1 : d1 = true → ∃ g, a.tmps[9]? = some (.pointer (some ⟨g, 0, none⟩)) ∧ w.heap[g]? = some zeroI ∧ W0.heap.size ≤ g
  p2 : d2 = true → ∃ g, a.tmps[10]? = some (.pointer (some ⟨g, 0, none⟩)) ∧ w.heap[g]? = some zeroI ∧ W0.heap.size ≤ g
  n01 : d0 = true → d1 = true → a.tmps[8]? ≠ a.tmps[9]?
  n02 : d0 = true → d2 = true → a.tmps[8]? ≠ a.tmps[10]?
  n12 : d1 = true → d2 = true → a.tmps[9]? ≠ a.tmps[10]?

theorem lt_of_get {w : World} {g : Nat} {o : Obj} (h : w.heap[g]? = some o) : g < w.heap.size := by
  rcases Nat.lt_or_ge g w.heap.size with hlt | hge
  · exact hlt
  · rw [Array.getElem?_eq_none hge] at h; cases h

theorem ptr_into {w w' : World} {a a' : Act} {t : Nat} {B : Nat} (ht : a'.tmps[t]? = a.tmps[t]?) (hb : Below w.heap.size w w') (h : ∃ g, a.tmps[t]? = some (.pointer (some ⟨g, 0, none⟩)) ∧ w.heap[g]? = some zeroI ∧ B ≤ g) :
    ∃ g, a'.tmps[t]? = some (.pointer (some ⟨g, 0, none⟩)) ∧ w'.heap[g]? = some zeroI ∧ B ≤ g := by
  obtain ⟨g, h1, h2, h3⟩ := h
  exact ⟨g, ht.trans h1, (hb.block g (lt_of_get h2)).trans h2, h3⟩
theorem val_into {w w' : World} {a a' : Act} {t : Nat} {z : Int} (ht : a'.tmps[t]? = a.tmps[t]?) (hb : Below w.heap.size w w') (h : ∃ v, a.tmps[t]? = some v ∧ IntAt w v z) : ∃ v, a'.tmps[t]? = some v ∧ IntAt w' v z := by
  obtain ⟨v, h1, h2⟩ := h
  exact ⟨v, ht.trans h1, h2.into hb⟩

/-- Behind one call more. -/
theorem Race.call {c d : Nat} {d0 d1 d2 : Bool} {a : Act} {w w' : World} {v : Value} (hN : 20 < N) (h : Race N W0 a0 r0 r1 r2 c d0 d1 d2 a w) (hd : d = 16 + 2 * c) (hc : c < 3) (hb : Below w.heap.size w w') (hv : IntAt w' v (if c = 0 then r0.int else if c = 1 then r1.int else r2.int)) :
    Race N W0 a0 r0 r1 r2 (c + 1) d0 d1 d2 (a.put (some d) v) w' := by
  have ne : ∀ t, d ≠ t → (a.put (some d) v).tmps[t]? = a.tmps[t]? := fun t ht => get_put_ne v ht
  have me : (a.put (some d) v).tmps[d]? = some v := get_put_same v (by rw [h.size]; omega)
  refine ⟨by simp [Act.put, h.size], fun t ht => (ne t (by omega)).trans (h.low t ht), h.defers, (ne _ (by omega)).trans h.x0, (ne _ (by omega)).trans h.x1, (ne _ (by omega)).trans h.x2, step_below h.below hb, ?_, ?_, ?_,
    fun e => ptr_into (ne _ (by omega)) hb (h.p0 e), fun e => ptr_into (ne _ (by omega)) hb (h.p1 e), fun e => ptr_into (ne _ (by omega)) hb (h.p2 e), ?_, ?_, ?_⟩
  · intro _
    by_cases e : c = 0
    · subst e; subst hd; exact ⟨v, me, hv⟩
    · exact val_into (ne _ (by omega)) hb (h.v0 (by omega))
  · intro _
    by_cases e : c = 1
    · subst e; subst hd; exact ⟨v, me, hv⟩
    · exact val_into (ne _ (by omega)) hb (h.v1 (by omega))
  · intro _
    by_cases e : c = 2
    · subst e; subst hd; exact ⟨v, me, hv⟩
    · omega
  · intro e e'; rw [ne 8 (by omega), ne 9 (by omega)]; exact h.n01 e e'
  · intro e e'; rw [ne 8 (by omega), ne 10 (by omega)]; exact h.n02 e e'
  · intro e e'; rw [ne 9 (by omega), ne 10 (by omega)]; exact h.n12 e e'

theorem ptr_ne {w : World} {a : Act} {t B : Nat} (h : ∃ g, a.tmps[t]? = some (.pointer (some ⟨g, 0, none⟩)) ∧ w.heap[g]? = some zeroI ∧ B ≤ g) : some (Value.pointer (some ⟨w.heap.size, 0, none⟩)) ≠ a.tmps[t]? := by
  obtain ⟨g, h1, h2, _⟩ := h
  have := lt_of_get h2
  rw [h1]
  intro e
  simp only [Option.some.injEq, Value.pointer.injEq, Addr.mk.injEq] at e
  omega

/-- Behind one box more. -/
theorem Race.alloc {c d : Nat} {d0 d1 d2 : Bool} {a : Act} {w : World} (hN : 20 < N) (h : Race N W0 a0 r0 r1 r2 c d0 d1 d2 a w) (hd : d = 8 ∨ d = 9 ∨ d = 10) :
    Race N W0 a0 r0 r1 r2 c (d0 || d == 8) (d1 || d == 9) (d2 || d == 10) (a.put (some d) (.pointer (some ⟨w.heap.size, 0, none⟩))) (w.alloc zeroI) := by
  have hb := below_alloc w zeroI
  have ne : ∀ t, d ≠ t → (a.put (some d) (.pointer (some ⟨w.heap.size, 0, none⟩))).tmps[t]? = a.tmps[t]? := fun t ht => get_put_ne _ ht
  have me : (a.put (some d) (.pointer (some ⟨w.heap.size, 0, none⟩))).tmps[d]? = some (.pointer (some ⟨w.heap.size, 0, none⟩)) := get_put_same _ (by rw [h.size]; omega)
  have new : ∃ g, (a.put (some d) (.pointer (some ⟨w.heap.size, 0, none⟩))).tmps[d]? = some (.pointer (some ⟨g, 0, none⟩)) ∧ (w.alloc zeroI).heap[g]? = some zeroI ∧ W0.heap.size ≤ g := ⟨_, me, heap1 w _, h.below.size⟩
  refine ⟨by simp [Act.put, h.size], fun t ht => (ne t (by omega)).trans (h.low t ht), h.defers, (ne _ (by omega)).trans h.x0, (ne _ (by omega)).trans h.x1, (ne _ (by omega)).trans h.x2, step_below h.below hb,
    fun e => val_into (ne _ (by omega)) hb (h.v0 e), fun e => val_into (ne _ (by omega)) hb (h.v1 e), fun e => val_into (ne _ (by omega)) hb (h.v2 e), ?_, ?_, ?_, ?_, ?_, ?_⟩
  · intro e
    by_cases e8 : d = 8
    · subst e8; exact new
    · exact ptr_into (ne _ e8) hb (h.p0 (by simpa [e8] using e))
  · intro e
    by_cases e8 : d = 9
    · subst e8; exact new
    · exact ptr_into (ne _ e8) hb (h.p1 (by simpa [e8] using e))
  · intro e
    by_cases e8 : d = 10
    · subst e8; exact new
    · exact ptr_into (ne _ e8) hb (h.p2 (by simpa [e8] using e))
  · intro e e'
    rcases hd with rfl | rfl | rfl
    · rw [me, ne 9 (by omega)]; exact ptr_ne (h.p1 (by simpa using e'))
    · rw [me, ne 8 (by omega)]; exact (ptr_ne (h.p0 (by simpa using e))).symm
    · rw [ne 8 (by omega), ne 9 (by omega)]; exact h.n01 (by simpa using e) (by simpa using e')
  · intro e e'
    rcases hd with rfl | rfl | rfl
    · rw [me, ne 10 (by omega)]; exact ptr_ne (h.p2 (by simpa using e'))
    · rw [ne 8 (by omega), ne 10 (by omega)]; exact h.n02 (by simpa using e) (by simpa using e')
    · rw [me, ne 8 (by omega)]; exact (ptr_ne (h.p0 (by simpa using e))).symm
  · intro e e'
    rcases hd with rfl | rfl | rfl
    · rw [ne 9 (by omega), ne 10 (by omega)]; exact h.n12 (by simpa using e) (by simpa using e')
    · rw [me, ne 10 (by omega)]; exact ptr_ne (h.p2 (by simpa using e'))
    · rw [me, ne 9 (by omega)]; exact (ptr_ne (h.p1 (by simpa using e))).symm
end
end Go.Proofs.YtjajmonhcnmidaaDoor
