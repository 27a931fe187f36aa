/- 'a, b, c := made(x), made(y), made(z)': three calls and three new boxes, in whatever order; then the three stores. -/
import Derived.Test.YtjajmonhcnmidaaDoorqRg
import Derived.Test.YtjajmonhcnmidaaDoorqMade
namespace Go.Proofs.YtjajmonhcnmidaaDoor
open Go.RowKit

abbrev zeroI : Obj := .cells #[.bool false, .slice none 0 0] 27 (0, 0)
/-- A raw argument, its place, and what made makes of it. -/
structure RawArg where
  b : Bool
  A : Option Addr
  k : Nat
  c : Nat
  ms : List Nat
def RawArg.val_ (r : RawArg) : Value := .agg #[.slice r.A r.k r.c, .bool r.b]
def RawArg.int (r : RawArg) : Int := sgn r.b (val (r.ms.take (min r.k 12)))
structure RawArg.Ok (r : RawArg) (w : World) : Prop where
  len : r.ms.length = r.k
  mem : RawMem w w.heap.size r.A r.ms
  cap : r.k ≤ r.c
  lim : L32 r.ms
  big : r.k ≤ 2305843009213693952
  nil : r.A = none → r.c = 0
theorem RawArg.Ok.into {r : RawArg} {w w' : World} (h : r.Ok w) (hb : Below w.heap.size w w') : r.Ok w' := ⟨h.len, rawMem_more (h.mem.below hb) hb.size, h.cap, h.lim, h.big, h.nil⟩
theorem RawArg.Ok.sm {r : RawArg} {w : World} (h : r.Ok w) : Sm r.int 12 := by
  unfold Sm RawArg.int
  rw [sgn_abs]
  refine Nat.lt_of_lt_of_le (val_lt (h.lim.take _)) (Nat.pow_le_pow_right (by decide) ?_)
  rw [List.length_take]
  omega
theorem RawArg.Ok.made {r : RawArg} {w : World} (h : r.Ok w) : Calls Tryd.prog 12 #[r.val_] w fun e w' => ∃ v, e = .returned v ∧ IntAt w' v r.int ∧ Below w.heap.size w w' :=
  made_any r.b r.A r.k r.c r.ms w h.len h.mem h.cap h.lim h.big h.nil
def RawBox (w : World) (g : Nat) (r : RawArg) : Prop := w.heap[g]? = some (.cells #[.slice r.A r.k r.c, .bool r.b] 24 (0, 0))
theorem RawBox.into {w w' : World} {g : Nat} {r : RawArg} (h : RawBox w g r) (hb : Below w.heap.size w w') : RawBox w' g r := by
  have hl : g < w.heap.size := by
    rcases Nat.lt_or_ge g w.heap.size with hlt | hge
    · exact hlt
    · unfold RawBox at h; rw [Array.getElem?_eq_none hge] at h; cases h
  exact (hb.block g hl).trans h

section
variable {a : Act} {w : World} {o : Oper}
theorem run_loadR {t g : Nat} {r : RawArg} (h : a.tmps[t]? = some (.pointer (some ⟨g, 0, none⟩))) (hr : RawBox w g r) (ho : o.op = .load 24 (.tmp t)) : (execOp a.eval o).run Tryd.prog w = .ok (.value r.val_) w := by
  have h0 : w.cell? ⟨g, 0, none⟩ = some (.slice r.A r.k r.c) := by rw [cell_of_row w g 0 _ _ (0, 0) hr]; rfl
  have h1 : w.cell? ⟨g, 1, none⟩ = some (.bool r.b) := by rw [cell_of_row w g 1 _ _ (0, 0) hr]; rfl
  unfold execOp RawArg.val_; rw [ho]; simp [go_sem, h, h0, h1]
theorem run_callMade {x : Nat} {vx : Value} (hx : a.tmps[x]? = some vx) (ho : o.op = .call { callee := .value (.func 12), args := #[.tmp x], argTypes := #[24] }) : (execOp a.eval o).run Tryd.prog w = .ok (.enter 12 #[vx]) w := by
  unfold execOp; rw [ho]; simp [go_sem, hx]
theorem run_allocI (ho : o.op = .alloc 27) : (execOp a.eval o).run Tryd.prog w = .ok (.value (.pointer (some ⟨w.heap.size, 0, none⟩))) (w.alloc zeroI) := by
  unfold execOp; rw [ho]; simp [go_sem]
theorem run_storeI {t x g : Nat} {b0 b : Bool} {A0 A : Option Addr} {k0 c0 k c : Nat} (h : a.tmps[t]? = some (.pointer (some ⟨g, 0, none⟩))) (hx : a.tmps[x]? = some (.agg #[.bool b, .slice A k c]))
    (hw : w.heap[g]? = some (.cells #[.bool b0, .slice A0 k0 c0] 27 (0, 0))) (ho : o.op = .store 27 (.tmp t) (.tmp x)) :
    (execOp a.eval o).run Tryd.prog w = .ok .skip ((w.setCell ⟨g, 0, none⟩ (.bool b)).setCell ⟨g, 1, none⟩ (.slice A k c)) := by
  have h0 : w.cell? ⟨g, 0, none⟩ = some (.bool b0) := by rw [cell_of_row w g 0 _ _ (0, 0) hw]; rfl
  have h1 : w.cell? ⟨g, 1, none⟩ = some (.slice A0 k0 c0) := by rw [cell_of_row w g 1 _ _ (0, 0) hw]; rfl
  have f0 := frozen_of_row hw 0
  have f1 := frozen_of_row hw 1
  unfold execOp; rw [ho]; simp [go_sem, h, hx, h0, h1, f0, f1]
end

/-- A box after a store into it; the others after it. -/
theorem boxI_store {w : World} {g : Nat} {b0 b : Bool} {A0 A : Option Addr} {k0 c0 k c : Nat} {z : Int} (hw : w.heap[g]? = some (.cells #[.bool b0, .slice A0 k0 c0] 27 (0, 0))) (hi : IntAt w (.agg #[.bool b, .slice A k c]) z) :
    BoxI ((w.setCell ⟨g, 0, none⟩ (.bool b)).setCell ⟨g, 1, none⟩ (.slice A k c)) g (.agg #[.bool b, .slice A k c]) z := by
  have hne : (27 : TypeId) ≠ 38 := by decide
  refine ⟨b, A, k, c, rfl, ?_, (hi.far hw hne 0 _).far (block_setCell hw 0 _) hne 1 _⟩
  exact block_setCell (block_setCell hw 0 (.bool b)) 1 (.slice A k c)
theorem int_store {w : World} {g : Nat} {cs : Array Value} {u u' v : Value} {z : Int} (hw : w.heap[g]? = some (.cells cs 27 (0, 0))) (hi : IntAt w v z) : IntAt ((w.setCell ⟨g, 0, none⟩ u).setCell ⟨g, 1, none⟩ u') v z := by
  have hne : (27 : TypeId) ≠ 38 := by decide
  exact (hi.far hw hne 0 _).far (block_setCell hw 0 _) hne 1 _
theorem heap_store {w : World} {g j : Nat} {u u' : Value} (h : j ≠ g) : ((w.setCell ⟨g, 0, none⟩ u).setCell ⟨g, 1, none⟩ u').heap[j]? = w.heap[j]? := by
  rw [Below.heap_setCell _ _ _ _ h, Below.heap_setCell _ _ _ _ h]
theorem boxI_other {w : World} {g j : Nat} {cs : Array Value} {u u' v : Value} {z : Int} (hw : w.heap[g]? = some (.cells cs 27 (0, 0))) (h : j ≠ g) (hb : BoxI w j v z) : BoxI ((w.setCell ⟨g, 0, none⟩ u).setCell ⟨g, 1, none⟩ u') j v z := by
  obtain ⟨b, A, k, c, e, hh, hi⟩ := hb
  exact ⟨b, A, k, c, e, (heap_store h).trans hh, int_store hw hi⟩
theorem below_store {W0 w : World} {g : Nat} {u u' : Value} (h : Below W0.heap.size W0 w) (hg : W0.heap.size ≤ g) : Below W0.heap.size W0 ((w.setCell ⟨g, 0, none⟩ u).setCell ⟨g, 1, none⟩ u') :=
  (h.setCell hg u).setCell hg u'

section
variable {N : Nat} {W0 : World} {a0 : Act} {r0 r1 r2 : RawArg}

/-- The state behind the loads, c calls and some of the three boxes. -/
structure Race (N : Nat) (W0 : World) (a0 : Act) (r0 r1 r2 : RawArg) (c : Nat) (d0 d1 d2 : Bool) (a : Act) (w : World) : Prop where
  size : a.tmps.size = N
  low : ∀ t, t < 8 → a.tmps[t]? = a0.tmps[t]?
  defers : a.defers = a0.defers
  x0 : a.tmps[15]? = some r0.val_
  x1 : a.tmps[17]? = some r1.val_
  x2 : a.tmps[19]? = some r2.val_
  below : Below W0.heap.size W0 w
  v0 : 0 < c → ∃ v, a.tmps[16]? = some v ∧ IntAt w v r0.int
  v1 : 1 < c → ∃ v, a.tmps[18]? = some v ∧ IntAt w v r1.int
  v2 : 2 < c → ∃ v, a.tmps[20]? = some v ∧ IntAt w v r2.int
  p0 : d0 = true → ∃ g, a.tmps[8]? = some (.pointer (some ⟨g, 0, none⟩)) ∧ w.heap[g]? = some zeroI ∧ W0.heap.size ≤ g
  p1 : d1 = true → ∃ g, a.tmps[9]? = some (.pointer (some ⟨g, 0, none⟩)) ∧ w.heap[g]? = some zeroI ∧ W0.heap.size ≤ g
  p2 : d2 = true → ∃ g, a.tmps[10]? = some (.pointer (some ⟨g, 0, none⟩)) ∧ w.heap[g]? = some zeroI ∧ W0.heap.size ≤ g
  n01 : d0 = true → d1 = true → a.tmps[8]? ≠ a.tmps[9]?
  n02 : d0 = true → d2 = true → a.tmps[8]? ≠ a.tmps[10]?
  n12 : d1 = true → d2 = true → a.tmps[9]? ≠ a.tmps[10]?

theorem lt_of_get {w : World} {g : Nat} {o : Obj} (h : w.heap[g]? = some o) : g < w.heap.size := by
  rcases Nat.lt_or_ge g w.heap.size with hlt | hge
  · exact hlt
  · rw [Array.getElem?_eq_none hge] at h; cases h

theorem ptr_into {w w' : World} {a a' : Act} {t : Nat} {B : Nat} (ht : a'.tmps[t]? = a.tmps[t]?) (hb : Below w.heap.size w w') (h : ∃ g, a.tmps[t]? = some (.pointer (some ⟨g, 0, none⟩)) ∧ w.heap[g]? = some zeroI ∧ B ≤ g) :
    ∃ g, a'.tmps[t]? = some (.pointer (some ⟨g, 0, none⟩)) ∧ w'.heap[g]? = some zeroI ∧ B ≤ g := by
  obtain ⟨g, h1, h2, h3⟩ := h
  exact ⟨g, ht.trans h1, (hb.block g (lt_of_get h2)).trans h2, h3⟩
theorem val_into {w w' : World} {a a' : Act} {t : Nat} {z : Int} (ht : a'.tmps[t]? = a.tmps[t]?) (hb : Below w.heap.size w w') (h : ∃ v, a.tmps[t]? = some v ∧ IntAt w v z) : ∃ v, a'.tmps[t]? = some v ∧ IntAt w' v z := by
  obtain ⟨v, h1, h2⟩ := h
  exact ⟨v, ht.trans h1, h2.into hb⟩

/-- Behind one call more. -/
theorem Race.call {c d : Nat} {d0 d1 d2 : Bool} {a : Act} {w w' : World} {v : Value} (hN : 20 < N) (h : Race N W0 a0 r0 r1 r2 c d0 d1 d2 a w) (hd : d = 16 + 2 * c) (hc : c < 3) (hb : Below w.heap.size w w') (hv : IntAt w' v (if c = 0 then r0.int else if c = 1 then r1.int else r2.int)) :
    Race N W0 a0 r0 r1 r2 (c + 1) d0 d1 d2 (a.put (some d) v) w' := by
  have ne : ∀ t, d ≠ t → (a.put (some d) v).tmps[t]? = a.tmps[t]? := fun t ht => get_put_ne v ht
  have me : (a.put (some d) v).tmps[d]? = some v := get_put_same v (by rw [h.size]; omega)
  refine ⟨by simp [Act.put, h.size], fun t ht => (ne t (by omega)).trans (h.low t ht), h.defers, (ne _ (by omega)).trans h.x0, (ne _ (by omega)).trans h.x1, (ne _ (by omega)).trans h.x2, step_below h.below hb, ?_, ?_, ?_,
    fun e => ptr_into (ne _ (by omega)) hb (h.p0 e), fun e => ptr_into (ne _ (by omega)) hb (h.p1 e), fun e => ptr_into (ne _ (by omega)) hb (h.p2 e), ?_, ?_, ?_⟩
  · intro _
    by_cases e : c = 0
    · subst e; subst hd; exact ⟨v, me, hv⟩
    · exact val_into (ne _ (by omega)) hb (h.v0 (by omega))
  · intro _
    by_cases e : c = 1
    · subst e; subst hd; exact ⟨v, me, hv⟩
    · exact val_into (ne _ (by omega)) hb (h.v1 (by omega))
  · intro _
    by_cases e : c = 2
    · subst e; subst hd; exact ⟨v, me, hv⟩
    · omega
  · intro e e'; rw [ne 8 (by omega), ne 9 (by omega)]; exact h.n01 e e'
  · intro e e'; rw [ne 8 (by omega), ne 10 (by omega)]; exact h.n02 e e'
  · intro e e'; rw [ne 9 (by omega), ne 10 (by omega)]; exact h.n12 e e'

theorem ptr_ne {w : World} {a : Act} {t B : Nat} (h : ∃ g, a.tmps[t]? = some (.pointer (some ⟨g, 0, none⟩)) ∧ w.heap[g]? = some zeroI ∧ B ≤ g) : some (Value.pointer (some ⟨w.heap.size, 0, none⟩)) ≠ a.tmps[t]? := by
  obtain ⟨g, h1, h2, _⟩ := h
  have := lt_of_get h2
  rw [h1]
  intro e
  simp only [Option.some.injEq, Value.pointer.injEq, Addr.mk.injEq] at e
  omega

/-- Behind one box more. -/
theorem Race.alloc {c d : Nat} {d0 d1 d2 : Bool} {a : Act} {w : World} (hN : 20 < N) (h : Race N W0 a0 r0 r1 r2 c d0 d1 d2 a w) (hd : d = 8 ∨ d = 9 ∨ d = 10) :
    Race N W0 a0 r0 r1 r2 c (d0 || d == 8) (d1 || d == 9) (d2 || d == 10) (a.put (some d) (.pointer (some ⟨w.heap.size, 0, none⟩))) (w.alloc zeroI) := by
  have hb := below_alloc w zeroI
  have ne : ∀ t, d ≠ t → (a.put (some d) (.pointer (some ⟨w.heap.size, 0, none⟩))).tmps[t]? = a.tmps[t]? := fun t ht => get_put_ne _ ht
  have me : (a.put (some d) (.pointer (some ⟨w.heap.size, 0, none⟩))).tmps[d]? = some (.pointer (some ⟨w.heap.size, 0, none⟩)) := get_put_same _ (by rw [h.size]; omega)
  have new : ∃ g, (a.put (some d) (.pointer (some ⟨w.heap.size, 0, none⟩))).tmps[d]? = some (.pointer (some ⟨g, 0, none⟩)) ∧ (w.alloc zeroI).heap[g]? = some zeroI ∧ W0.heap.size ≤ g := ⟨_, me, heap1 w _, h.below.size⟩
  refine ⟨by simp [Act.put, h.size], fun t ht => (ne t (by omega)).trans (h.low t ht), h.defers, (ne _ (by omega)).trans h.x0, (ne _ (by omega)).trans h.x1, (ne _ (by omega)).trans h.x2, step_below h.below hb,
    fun e => val_into (ne _ (by omega)) hb (h.v0 e), fun e => val_into (ne _ (by omega)) hb (h.v1 e), fun e => val_into (ne _ (by omega)) hb (h.v2 e), ?_, ?_, ?_, ?_, ?_, ?_⟩
  · intro e
    by_cases e8 : d = 8
    · subst e8; exact new
    · exact ptr_into (ne _ e8) hb (h.p0 (by simpa [e8] using e))
  · intro e
    by_cases e8 : d = 9
    · subst e8; exact new
    · exact ptr_into (ne _ e8) hb (h.p1 (by simpa [e8] using e))
  · intro e
    by_cases e8 : d = 10
    · subst e8; exact new
    · exact ptr_into (ne _ e8) hb (h.p2 (by simpa [e8] using e))
  · intro e e'
    rcases hd with rfl | rfl | rfl
    · rw [me, ne 9 (by omega)]; exact ptr_ne (h.p1 (by simpa using e'))
    · rw [me, ne 8 (by omega)]; exact (ptr_ne (h.p0 (by simpa using e))).symm
    · rw [ne 8 (by omega), ne 9 (by omega)]; exact h.n01 (by simpa using e) (by simpa using e')
  · intro e e'
    rcases hd with rfl | rfl | rfl
    · rw [me, ne 10 (by omega)]; exact ptr_ne (h.p2 (by simpa using e'))
    · rw [ne 8 (by omega), ne 10 (by omega)]; exact h.n02 (by simpa using e) (by simpa using e')
    · rw [me, ne 8 (by omega)]; exact (ptr_ne (h.p0 (by simpa using e))).symm
  · intro e e'
    rcases hd with rfl | rfl | rfl
    · rw [ne 9 (by omega), ne 10 (by omega)]; exact h.n12 (by simpa using e) (by simpa using e')
    · rw [me, ne 10 (by omega)]; exact ptr_ne (h.p2 (by simpa using e'))
    · rw [me, ne 9 (by omega)]; exact (ptr_ne (h.p1 (by simpa using e))).symm
end
end Go.Proofs.YtjajmonhcnmidaaDoor
namespace Go.Proofs.YtjajmonhcnmidaaDoor
open Go.RowKit

def doneOf (c : Nat) (d0 d1 d2 : Bool) : List Nat := [0, 2, 4] ++ ([1, 3, 5].take c ++ ((if d0 then [6] else []) ++ ((if d1 then [7] else []) ++ (if d2 then [8] else []))))
def readyOf (c : Nat) (d0 d1 d2 : Bool) : List Nat := ([1, 3, 5].drop c).take 1 ++ ((if d0 then [] else [6]) ++ ((if d1 then [] else [7]) ++ (if d2 then [] else [8])))
/-- What is asked of the region's operations: what may come up in each state. -/
def raceB (ops : Array Oper) : Bool :=
  (List.range 4).all fun c => [true, false].all fun d0 => [true, false].all fun d1 => [true, false].all fun d2 =>
    (decide (c = 3) && d0 && d1 && d2) || Region.ready .any ops (maskO 12 (doneOf c d0 d1 d2)) == readyOf c d0 d1 d2
theorem raceB_spec {ops : Array Oper} (h : raceB ops = true) {c : Nat} {d0 d1 d2 : Bool} (hc : c ≤ 3) (hn : (decide (c = 3) && d0 && d1 && d2) = false) : Region.ready .any ops (maskO 12 (doneOf c d0 d1 d2)) = readyOf c d0 d1 d2 := by
  unfold raceB at h
  rw [List.all_eq_true] at h
  have h1 := h c (by simp; omega)
  rw [List.all_eq_true] at h1
  have h2 := h1 d0 (by cases d0 <;> simp)
  rw [List.all_eq_true] at h2
  have h3 := h2 d1 (by cases d1 <;> simp)
  rw [List.all_eq_true] at h3
  have h4 := h3 d2 (by cases d2 <;> simp)
  rw [hn] at h4
  simpa using h4
theorem maskO_congr {N : Nat} {l l' : List Nat} (h : ∀ i, i < N → l.contains i = l'.contains i) : maskO N l = maskO N l' := by
  unfold maskO
  congr 1
  apply List.map_congr_left
  intro i hi
  exact h i (by simpa using hi)
theorem mask_call {c : Nat} {d0 d1 d2 : Bool} (hc : c < 3) : (maskO 12 (doneOf c d0 d1 d2)).setIfInBounds (2 * c + 1) true = maskO 12 (doneOf (c + 1) d0 d1 d2) := by
  rw [maskO_set]
  apply maskO_congr
  obtain rfl | rfl | rfl : c = 0 ∨ c = 1 ∨ c = 2 := by omega
  all_goals cases d0 <;> cases d1 <;> cases d2 <;> decide
theorem mask_alloc {c j : Nat} {d0 d1 d2 : Bool} (hc : c ≤ 3) (hj : j = 6 ∨ j = 7 ∨ j = 8) : (maskO 12 (doneOf c d0 d1 d2)).setIfInBounds j true = maskO 12 (doneOf c (d0 || j + 2 == 8) (d1 || j + 2 == 9) (d2 || j + 2 == 10)) := by
  rw [maskO_set]
  apply maskO_congr
  obtain rfl | rfl | rfl | rfl : c = 0 ∨ c = 1 ∨ c = 2 ∨ c = 3 := by omega
  all_goals
    rcases hj with rfl | rfl | rfl
    all_goals cases d0 <;> cases d1 <;> cases d2 <;> decide

section
variable {N : Nat} {ops : Array Oper} {Q : Exit → Act → World → Prop} {W0 : World} {a0 : Act} {r0 r1 r2 : RawArg}
def left (c : Nat) (d0 d1 d2 : Bool) : Nat := (3 - c) + ((if d0 then 0 else 1) + ((if d1 then 0 else 1) + (if d2 then 0 else 1)))

theorem race (hN : 20 < N) (hr : raceB ops = true) (k0 : r0.Ok W0) (k1 : r1.Ok W0) (k2 : r2.Ok W0)
    (o1 : OpIs ops 1 16 none (.call { callee := .value (.func 12), args := #[.tmp 15], argTypes := #[24] }))
    (o3 : OpIs ops 3 18 none (.call { callee := .value (.func 12), args := #[.tmp 17], argTypes := #[24] }))
    (o5 : OpIs ops 5 20 none (.call { callee := .value (.func 12), args := #[.tmp 19], argTypes := #[24] }))
    (o6 : OpIs ops 6 8 none (.alloc 27)) (o7 : OpIs ops 7 9 none (.alloc 27)) (o8 : OpIs ops 8 10 none (.alloc 27))
    (fin : ∀ a w, Race N W0 a0 r0 r1 r2 3 true true true a w → wpAnyH Tryd.prog .any ops Q (fun w => Below W0.heap.size W0 w) 3 (maskO 12 (doneOf 3 true true true)) a w) :
    ∀ (k c : Nat) (d0 d1 d2 : Bool) (a : Act) (w : World), c ≤ 3 → left c d0 d1 d2 = k → Race N W0 a0 r0 r1 r2 c d0 d1 d2 a w →
      wpAnyH Tryd.prog .any ops Q (fun w => Below W0.heap.size W0 w) (k + 3) (maskO 12 (doneOf c d0 d1 d2)) a w := by
  intro k
  induction k with
  | zero =>
    intro c d0 d1 d2 a w hc hk hR
    have : c = 3 ∧ d0 = true ∧ d1 = true ∧ d2 = true := by
      unfold left at hk
      refine ⟨by omega, ?_, ?_, ?_⟩
      · cases d0 with
        | true => rfl
        | false => simp at hk
      · cases d1 with
        | true => rfl
        | false => simp at hk
      · cases d2 with
        | true => rfl
        | false => simp at hk
    obtain ⟨rfl, rfl, rfl, rfl⟩ := this
    exact fin a w hR
  | succ k ih =>
    intro c d0 d1 d2 a w hc hk hR
    have hn : (decide (c = 3) && d0 && d1 && d2) = false := by
      cases h : (decide (c = 3) && d0 && d1 && d2) with
      | false => rfl
      | true =>
        simp only [Bool.and_eq_true, decide_eq_true_eq] at h
        obtain ⟨⟨⟨rfl, rfl⟩, rfl⟩, rfl⟩ := h
        simp [left] at hk
    have hready := raceB_spec hr hc hn
    have hmem : ∀ i ∈ readyOf c d0 d1 d2, (c < 3 ∧ i = 2 * c + 1) ∨ (d0 = false ∧ i = 6) ∨ (d1 = false ∧ i = 7) ∨ (d2 = false ∧ i = 8) := by
      intro i hi
      unfold readyOf at hi
      obtain rfl | rfl | rfl | rfl : c = 0 ∨ c = 1 ∨ c = 2 ∨ c = 3 := by omega
      all_goals cases d0 <;> cases d1 <;> cases d2 <;> simp at hi ⊢ <;> omega
    have hne : readyOf c d0 d1 d2 ≠ [] := by
      intro e
      unfold readyOf at e
      obtain rfl | rfl | rfl | rfl : c = 0 ∨ c = 1 ∨ c = 2 ∨ c = 3 := by omega
      all_goals cases d0 <;> cases d1 <;> cases d2 <;> simp at e hn
    rw [show k + 1 + 3 = (k + 3) + 1 by omega]
    refine wpAnyH_all hready hne fun i hi => ?_
    rcases hmem i hi with ⟨hc3, rfl⟩ | h
    · rw [mask_call hc3]
      have hl : left (c + 1) d0 d1 d2 = k := by unfold left at hk ⊢; omega
      obtain rfl | rfl | rfl : c = 0 ∨ c = 1 ∨ c = 2 := by omega
      · refine wpOp_call o1 guard_none (fun o ho => run_callMade hR.x0 ho) ((k0.into hR.below).made.mono ?_)
        rintro e w' ⟨v, rfl, hv, hb⟩
        exact ⟨v, rfl, step_below hR.below hb, ih _ _ _ _ _ _ (by omega) hl (hR.call hN rfl (by omega) hb hv)⟩
      · refine wpOp_call o3 guard_none (fun o ho => run_callMade hR.x1 ho) ((k1.into hR.below).made.mono ?_)
        rintro e w' ⟨v, rfl, hv, hb⟩
        exact ⟨v, rfl, step_below hR.below hb, ih _ _ _ _ _ _ (by omega) hl (hR.call hN rfl (by omega) hb hv)⟩
      · refine wpOp_call o5 guard_none (fun o ho => run_callMade hR.x2 ho) ((k2.into hR.below).made.mono ?_)
        rintro e w' ⟨v, rfl, hv, hb⟩
        exact ⟨v, rfl, step_below hR.below hb, ih _ _ _ _ _ _ (by omega) hl (hR.call hN rfl (by omega) hb hv)⟩
    · rcases h with ⟨rfl, rfl⟩ | ⟨rfl, rfl⟩ | ⟨rfl, rfl⟩
      · rw [mask_alloc hc (.inl rfl)]
        refine wpOp_value o6 guard_none (fun o ho => run_allocI ho) ⟨step_below hR.below (below_alloc _ _), ih _ _ _ _ _ _ hc ?_ (hR.alloc (d := 8) hN (.inl rfl))⟩
        simp [left] at hk ⊢
        omega
      · rw [mask_alloc hc (.inr (.inl rfl))]
        refine wpOp_value o7 guard_none (fun o ho => run_allocI ho) ⟨step_below hR.below (below_alloc _ _), ih _ _ _ _ _ _ hc ?_ (hR.alloc (d := 9) hN (.inr (.inl rfl)))⟩
        simp [left] at hk ⊢
        omega
      · rw [mask_alloc hc (.inr (.inr rfl))]
        refine wpOp_value o8 guard_none (fun o ho => run_allocI ho) ⟨step_below hR.below (below_alloc _ _), ih _ _ _ _ _ _ hc ?_ (hR.alloc (d := 10) hN (.inr (.inr rfl)))⟩
        simp [left] at hk ⊢
        omega

/-- A store in its turn. -/
theorem wpOp_store {k : Nat} {g : Option (Nat × Bool)} {op : Op} {a : Act} {w w1 : World} {K : Act → World → Prop} (ho : (ops[k]?).map (fun o => (o.dst, o.guard, o.op)) = some (none, g, op))
    (hg : ∀ o : Oper, o.guard = g → Region.wanted o (yielded ops a.tmps) = true) (hr : ∀ o : Oper, o.op = op → (execOp a.eval o).run Tryd.prog w = .ok .skip w1)
    (h : K a w1) : wpOp Tryd.prog ops Q k K a w := by
  rw [Option.map_eq_some_iff] at ho
  obtain ⟨o, ho, hx⟩ := ho
  simp only [Prod.mk.injEq] at hx
  obtain ⟨hd, hgd, hop⟩ := hx
  unfold wpOp
  simp only [ho]
  rw [if_pos (hg o hgd)]
  left
  unfold Oper.wp
  rw [hr o hop, Oper.upon_skip, hd]
  exact h

/-- What stands behind the region: three boxes. -/
structure Three (N : Nat) (W0 : World) (a0 : Act) (z0 z1 z2 : Int) (a : Act) (w : World) : Prop where
  size : a.tmps.size = N
  low : ∀ t, t < 8 → a.tmps[t]? = a0.tmps[t]?
  defers : a.defers = a0.defers
  below : Below W0.heap.size W0 w
  box0 : ∃ g b A k c, a.tmps[8]? = some (.pointer (some ⟨g, 0, none⟩)) ∧ BoxI w g (.agg #[.bool b, .slice A k c]) z0
  box1 : ∃ g b A k c, a.tmps[9]? = some (.pointer (some ⟨g, 0, none⟩)) ∧ BoxI w g (.agg #[.bool b, .slice A k c]) z1
  box2 : ∃ g b A k c, a.tmps[10]? = some (.pointer (some ⟨g, 0, none⟩)) ∧ BoxI w g (.agg #[.bool b, .slice A k c]) z2

theorem stores {a : Act} {w : World} (hR : Race N W0 a0 r0 r1 r2 3 true true true a w)
    (o9 : (ops[9]?).map (fun o => (o.dst, o.guard, o.op)) = some (none, none, .store 27 (.tmp 8) (.tmp 16))) (o10 : (ops[10]?).map (fun o => (o.dst, o.guard, o.op)) = some (none, none, .store 27 (.tmp 9) (.tmp 18))) (o11 : (ops[11]?).map (fun o => (o.dst, o.guard, o.op)) = some (none, none, .store 27 (.tmp 10) (.tmp 20)))
    (h9 : Region.ready .any ops (maskO 12 (doneOf 3 true true true)) = [9]) (h10 : Region.ready .any ops ((maskO 12 (doneOf 3 true true true)).setIfInBounds 9 true) = [10]) (h11 : Region.ready .any ops (((maskO 12 (doneOf 3 true true true)).setIfInBounds 9 true).setIfInBounds 10 true) = [11])
    (hend : Region.ready .any ops ((((maskO 12 (doneOf 3 true true true)).setIfInBounds 9 true).setIfInBounds 10 true).setIfInBounds 11 true) = [])
    (fin : ∀ a' w', Three N W0 a0 r0.int r1.int r2.int a' w' → Q .normal a' w') : wpAnyH Tryd.prog .any ops Q (fun w => Below W0.heap.size W0 w) 3 (maskO 12 (doneOf 3 true true true)) a w := by
  obtain ⟨v0, s16, i0⟩ := hR.v0 (by omega)
  obtain ⟨v1, s18, i1⟩ := hR.v1 (by omega)
  obtain ⟨v2, s20, i2⟩ := hR.v2 (by omega)
  obtain ⟨g0, s8, q0, e0⟩ := hR.p0 rfl
  obtain ⟨g1, s9, q1, e1⟩ := hR.p1 rfl
  obtain ⟨g2, s10, q2, e2⟩ := hR.p2 rfl
  have n01 : g0 ≠ g1 := fun e => hR.n01 rfl rfl (by rw [s8, s9, e])
  have n02 : g0 ≠ g2 := fun e => hR.n02 rfl rfl (by rw [s8, s10, e])
  have n12 : g1 ≠ g2 := fun e => hR.n12 rfl rfl (by rw [s9, s10, e])
  obtain ⟨b0, A0, k0, c0, rfl, j0⟩ := i0.open_
  obtain ⟨b1, A1, k1, c1, rfl, j1⟩ := i1.open_
  obtain ⟨b2, A2, k2, c2, rfl, j2⟩ := i2.open_
  refine wpAnyH_all (fuel := 2) h9 (by simp) fun i hi => ?_
  obtain rfl : i = 9 := by simpa using hi
  refine wpOp_store o9 guard_none (fun o ho => run_storeI s8 s16 q0 ho) ?_
  have B1 := below_store (u := .bool b0) (u' := .slice A0 k0 c0) hR.below e0
  have X0 := boxI_store q0 i0
  have i1' := int_store (u := .bool b0) (u' := .slice A0 k0 c0) q0 i1
  have i2' := int_store (u := .bool b0) (u' := .slice A0 k0 c0) q0 i2
  have q1' := (heap_store (w := w) (g := g0) (j := g1) (u := .bool b0) (u' := .slice A0 k0 c0) n01.symm).trans q1
  have q2' := (heap_store (w := w) (g := g0) (j := g2) (u := .bool b0) (u' := .slice A0 k0 c0) n02.symm).trans q2
  generalize (w.setCell ⟨g0, 0, none⟩ (.bool b0)).setCell ⟨g0, 1, none⟩ (.slice A0 k0 c0) = w1 at *
  refine ⟨B1, wpAnyH_all (fuel := 1) h10 (by simp) fun i hi => ?_⟩
  obtain rfl : i = 10 := by simpa using hi
  refine wpOp_store o10 guard_none (fun o ho => run_storeI s9 s18 q1' ho) ?_
  have B2 := below_store (u := .bool b1) (u' := .slice A1 k1 c1) B1 e1
  have X1 := boxI_store q1' i1'
  have X0' := boxI_other (u := .bool b1) (u' := .slice A1 k1 c1) q1' n01 X0
  have i2'' := int_store (u := .bool b1) (u' := .slice A1 k1 c1) q1' i2'
  have q2'' := (heap_store (w := w1) (g := g1) (j := g2) (u := .bool b1) (u' := .slice A1 k1 c1) n12.symm).trans q2'
  generalize (w1.setCell ⟨g1, 0, none⟩ (.bool b1)).setCell ⟨g1, 1, none⟩ (.slice A1 k1 c1) = w2 at *
  refine ⟨B2, wpAnyH_all (fuel := 0) h11 (by simp) fun i hi => ?_⟩
  obtain rfl : i = 11 := by simpa using hi
  refine wpOp_store o11 guard_none (fun o ho => run_storeI s10 s20 q2'' ho) ?_
  have B3 := below_store (u := .bool b2) (u' := .slice A2 k2 c2) B2 e2
  have X2 := boxI_store q2'' i2''
  have X0'' := boxI_other (u := .bool b2) (u' := .slice A2 k2 c2) q2'' n02 X0'
  have X1' := boxI_other (u := .bool b2) (u' := .slice A2 k2 c2) q2'' n12 X1
  refine ⟨B3, wpAnyH_done hend ?_ _⟩
  exact fin _ _ ⟨hR.size, hR.low, hR.defers, B3, ⟨g0, b0, A0, k0, c0, s8, X0''⟩, ⟨g1, b1, A1, k1, c1, s9, X1'⟩, ⟨g2, b2, A2, k2, c2, s10, X2⟩⟩

/-- The whole region: what is asked of its operations are closed facts. -/
theorem region2 {g3 g4 g5 : Nat} (hN : 20 < N) (hz : a0.tmps.size = N) (hsz : ops.size = 12) (hn : Region.noSelect ops = true) (hr : raceB ops = true)
    (hQ : ∀ c d v a w, Q (.panic c) (a.put d v) w → Q (.panic c) a w)
    (k0 : r0.Ok W0) (k1 : r1.Ok W0) (k2 : r2.Ok W0)
    (s3 : a0.tmps[3]? = some (.pointer (some ⟨g3, 0, none⟩))) (s4 : a0.tmps[4]? = some (.pointer (some ⟨g4, 0, none⟩))) (s5 : a0.tmps[5]? = some (.pointer (some ⟨g5, 0, none⟩)))
    (x3 : RawBox W0 g3 r0) (x4 : RawBox W0 g4 r1) (x5 : RawBox W0 g5 r2)
    (f0 : pureO ops [] 0 = true) (f2 : pureO ops [0] 2 = true) (f4 : pureO ops [2, 0] 4 = true)
    (o0 : OpIs ops 0 15 none (.load 24 (.tmp 3))) (o2 : OpIs ops 2 17 none (.load 24 (.tmp 4))) (o4 : OpIs ops 4 19 none (.load 24 (.tmp 5)))
    (o1 : OpIs ops 1 16 none (.call { callee := .value (.func 12), args := #[.tmp 15], argTypes := #[24] }))
    (o3 : OpIs ops 3 18 none (.call { callee := .value (.func 12), args := #[.tmp 17], argTypes := #[24] }))
    (o5 : OpIs ops 5 20 none (.call { callee := .value (.func 12), args := #[.tmp 19], argTypes := #[24] }))
    (o6 : OpIs ops 6 8 none (.alloc 27)) (o7 : OpIs ops 7 9 none (.alloc 27)) (o8 : OpIs ops 8 10 none (.alloc 27))
    (o9 : (ops[9]?).map (fun o => (o.dst, o.guard, o.op)) = some (none, none, .store 27 (.tmp 8) (.tmp 16))) (o10 : (ops[10]?).map (fun o => (o.dst, o.guard, o.op)) = some (none, none, .store 27 (.tmp 9) (.tmp 18))) (o11 : (ops[11]?).map (fun o => (o.dst, o.guard, o.op)) = some (none, none, .store 27 (.tmp 10) (.tmp 20)))
    (h9 : Region.ready .any ops (maskO 12 (doneOf 3 true true true)) = [9]) (h10 : Region.ready .any ops ((maskO 12 (doneOf 3 true true true)).setIfInBounds 9 true) = [10]) (h11 : Region.ready .any ops (((maskO 12 (doneOf 3 true true true)).setIfInBounds 9 true).setIfInBounds 10 true) = [11])
    (hend : Region.ready .any ops ((((maskO 12 (doneOf 3 true true true)).setIfInBounds 9 true).setIfInBounds 10 true).setIfInBounds 11 true) = [])
    (fin : ∀ a' w', Three N W0 a0 r0.int r1.int r2.int a' w' → Q .normal a' w') : (Code.region 2 ops true).wp Tryd.prog Q a0 W0 := by
  refine beginO (by kernel_rfl) ?_
  have hB : Below W0.heap.size W0 W0.drew := (Below.refl _ _).drew
  refine stepP (N := N) (L := 8) hn f0 o0 hQ guard_none (fun o ho w hw => run_loadR s3 (x3.into hw) ho) (frHere hz) (by decide) (by omega) hB ?_
  intro a1 hF1 t15 _
  refine stepP (N := N) (L := 8) hn f2 o2 hQ guard_none (fun o ho w hw => run_loadR ((hF1.low 4 (by decide)).trans s4) (x4.into hw) ho) hF1 (by decide) (by omega) hB ?_
  intro a2 hF2 t17 kp
  replace t15 := kp 15 _ (by decide) t15
  refine stepP (N := N) (L := 8) hn f4 o4 hQ guard_none (fun o ho w hw => run_loadR ((hF2.low 5 (by decide)).trans s5) (x5.into hw) ho) hF2 (by decide) (by omega) hB ?_
  intro a3 hF3 t19 kp
  replace t15 := kp 15 _ (by decide) t15
  replace t17 := kp 17 _ (by decide) t17
  have hm : maskO 12 [4, 2, 0] = maskO 12 (doneOf 0 false false false) := by kernel_rfl
  show wpAnyH Tryd.prog .any ops Q (fun w => Below W0.heap.size W0 w) (ops.size - 3) (maskO ops.size [4, 2, 0]) a3 W0.drew
  rw [hsz, hm]
  refine race hN hr k0 k1 k2 o1 o3 o5 o6 o7 o8 (fun a w hR => stores hR o9 o10 o11 h9 h10 h11 hend fin) 6 0 false false false a3 W0.drew (by decide) rfl ?_
  exact ⟨hF3.size, hF3.low, hF3.defers, t15, t17, t19, hB, fun h => by omega, fun h => by omega, fun h => by omega, fun h => Bool.noConfusion h, fun h => Bool.noConfusion h, fun h => Bool.noConfusion h, fun h => Bool.noConfusion h, fun h => Bool.noConfusion h, fun h => Bool.noConfusion h⟩
end
end Go.Proofs.YtjajmonhcnmidaaDoor
