/- How numbers lie in memory: natural numbers as slices of limbs, integers as structs; rows of limbs that a call itself makes. No walk. -/
import Derived.Test.YtjajmonhcnmidaaDoorNum
namespace Go.Proofs.YtjajmonhcnmidaaDoor
open Go.RowKit

/-- v is a slice of the limbs of n. -/
def NatAt (w : World) (v : Value) (n : Nat) : Prop := ∃ A c, v = .slice A (len n) c ∧ len n ≤ c ∧ Mem w w.heap.size A (limbs n)
/-- v is the valid api.Int with the value z. -/
def IntAt (w : World) (v : Value) (z : Int) : Prop := ∃ s, v = .agg #[.bool (decide (z < 0)), s] ∧ NatAt w s z.natAbs

theorem NatAt.into {w w' : World} {v : Value} {n : Nat} (h : NatAt w v n) (hb : Below w.heap.size w w') : NatAt w' v n := by
  obtain ⟨A, c, e, hc, hm⟩ := h
  exact ⟨A, c, e, hc, hm.into hb⟩
theorem IntAt.into {w w' : World} {v : Value} {z : Int} (h : IntAt w v z) (hb : Below w.heap.size w w') : IntAt w' v z := by
  obtain ⟨s, e, hs⟩ := h
  exact ⟨s, e, hs.into hb⟩
theorem NatAt.zero (w : World) (A : Option Addr) (c : Nat) : NatAt w (.slice A 0 c) 0 := ⟨A, c, by rw [len_zero], by rw [len_zero]; omega, by rw [limbs_zero]; exact Mem.nil_⟩
theorem IntAt.zero (w : World) (A : Option Addr) (c : Nat) : IntAt w (.agg #[.bool false, .slice A 0 c]) 0 := ⟨_, rfl, NatAt.zero w A c⟩
theorem IntAt.mk {w : World} {s : Value} {n : Nat} {b : Bool} (h : NatAt w s n) (h0 : n = 0 → b = false) : IntAt w (.agg #[.bool b, s]) (if b then -(n : Int) else n) := by
  refine ⟨s, ?_, ?_⟩
  · cases b
    · simp
    · have : n ≠ 0 := fun h => by simpa using h0 h
      simp; omega
  · cases b
    · simpa using h
    · simpa using h

/-- An integer opened to its parts, which are variables: the fact itself is hidden from the walk. -/
theorem IntAt.open_ {w : World} {v : Value} {z : Int} (h : IntAt w v z) : ∃ (b : Bool) (A : Option Addr) (k c : Nat), v = .agg #[.bool b, .slice A k c] ∧ Hid (IntAt w (.agg #[.bool b, .slice A k c]) z) := by
  obtain ⟨s, rfl, A, c, rfl, hc, hm⟩ := h
  exact ⟨_, A, _, c, rfl, ⟨_, rfl, A, c, rfl, hc, hm⟩⟩
theorem NatAt.open_ {w : World} {v : Value} {n : Nat} (h : NatAt w v n) : ∃ (A : Option Addr) (c : Nat), v = .slice A (len n) c ∧ Hid (NatAt w (.slice A (len n) c) n) := by
  obtain ⟨A, c, rfl, hc, hm⟩ := h
  exact ⟨A, c, rfl, ⟨A, c, rfl, hc, hm⟩⟩
theorem NatAt.mem {w : World} {A : Option Addr} {k c n : Nat} (h : NatAt w (.slice A k c) n) : k = len n ∧ len n ≤ c ∧ Mem w w.heap.size A (limbs n) := by
  obtain ⟨A', c', e, hc, hm⟩ := h
  injection e with e1 e2 e3
  subst e1 e2 e3
  exact ⟨rfl, hc, hm⟩
theorem step_below {w w1 w2 : World} (h : Below w.heap.size w w1) (h2 : Below w1.heap.size w1 w2) : Below w.heap.size w w2 := h.trans (h2.mono h.size)
theorem below_alloc (w : World) (o : Obj) : Below w.heap.size w (w.alloc o) := (Below.refl _ _).alloc (Nat.le_refl _) _
theorem below_drewN (w : World) (n : Nat) : Below w.heap.size w (w.drewN n) := ⟨rfl, rfl, rfl, Nat.le_refl _, fun _ _ => rfl⟩
theorem frozen_of_row {w : World} {g : Nat} {cs : Array Value} {T : TypeId} (h : w.heap[g]? = some (.cells cs T (0, 0))) (i : Nat) : w.frozen? ⟨g, i, none⟩ = false := by simp [World.frozen?, h]
/-- A struct of two cells that the function itself has boxed, later on. -/
theorem box2 {w w1 : World} {x y : Value} {T : TypeId} (hb : Below (w.alloc (.cells #[x, y] T)).heap.size (w.alloc (.cells #[x, y] T)) w1) :
    w1.cell? ⟨w.heap.size, 0, none⟩ = some x ∧ w1.cell? ⟨w.heap.size, 1, none⟩ = some y ∧ w1.frozen? ⟨w.heap.size, 0, none⟩ = false ∧ w1.frozen? ⟨w.heap.size, 1, none⟩ = false ∧ w.heap.size < w1.heap.size := by
  have hs : w.heap.size < (w.alloc (.cells #[x, y] T)).heap.size := by simp
  have hc : ∀ i, (w.alloc (.cells #[x, y] T)).cell? ⟨w.heap.size, i, none⟩ = #[x, y][i]? := fun i => cell_of_row _ _ i _ _ (0, 0) (heap_alloc_new w _)
  have hf : ∀ i, (w.alloc (.cells #[x, y] T)).frozen? ⟨w.heap.size, i, none⟩ = false := fun i => by
    exact frozen_of_row (heap_alloc_new w (.cells #[x, y] T)) i
  refine ⟨(hb.cell (p := ⟨w.heap.size, 0, none⟩) hs).trans (hc 0), (hb.cell (p := ⟨w.heap.size, 1, none⟩) hs).trans (hc 1), (hb.frozen (p := ⟨w.heap.size, 0, none⟩) hs).trans (hf 0), (hb.frozen (p := ⟨w.heap.size, 1, none⟩) hs).trans (hf 1), Nat.lt_of_lt_of_le hs hb.size⟩

theorem NatAt.far {w : World} {v : Value} {n : Nat} (h : NatAt w v n) {g : Nat} {cs : Array Value} {T : TypeId} {fr : Nat × Nat} (hg : w.heap[g]? = some (.cells cs T fr)) (hT : T ≠ 38) (i : Nat) (u : Value) : NatAt (w.setCell ⟨g, i, none⟩ u) v n := by
  obtain ⟨A, c, e, hc, hm⟩ := h
  refine ⟨A, c, e, hc, ?_⟩
  have := hm.far hg hT i u
  simpa [World.setCell] using this
theorem IntAt.far {w : World} {v : Value} {z : Int} (h : IntAt w v z) {g : Nat} {cs : Array Value} {T : TypeId} {fr : Nat × Nat} (hg : w.heap[g]? = some (.cells cs T fr)) (hT : T ≠ 38) (i : Nat) (u : Value) : IntAt (w.setCell ⟨g, i, none⟩ u) v z := by
  obtain ⟨s, e, hs⟩ := h
  exact ⟨s, e, hs.far hg hT i u⟩
theorem block_setCell {w : World} {g : Nat} {cs : Array Value} {T : TypeId} {fr : Nat × Nat} (h : w.heap[g]? = some (.cells cs T fr)) (i : Nat) (u : Value) : (w.setCell ⟨g, i, none⟩ u).heap[g]? = some (.cells (cs.setIfInBounds i u) T fr) := by
  simp [World.setCell, Array.getElem?_modify, h]
/-- The end of a function whose result lies in a box of its own. -/
theorem box2_end {w w1 : World} {x y x' y' v : Value} {z : Int} (hb : Below (w.alloc (.cells #[x, y] 27)).heap.size (w.alloc (.cells #[x, y] 27)) w1) (h : IntAt w1 v z) :
    IntAt ((w1.setCell ⟨w.heap.size, 0, none⟩ x').setCell ⟨w.heap.size, 1, none⟩ y') v z ∧ Below w.heap.size w ((w1.setCell ⟨w.heap.size, 0, none⟩ x').setCell ⟨w.heap.size, 1, none⟩ y') := by
  have hg : w1.heap[w.heap.size]? = some (.cells #[x, y] 27 (0, 0)) := (hb.block _ (by simp)).trans (heap_alloc_new w _)
  have hne : (27 : TypeId) ≠ 38 := by decide
  refine ⟨(h.far hg hne 0 x').far (block_setCell hg 0 x') hne 1 y', ?_⟩
  have h0 : Below w.heap.size w w1 := (below_alloc w _).trans (hb.mono (by simp))
  exact (h0.setCell (by simp) _).setCell (by simp) _

/-- What a function on limbs gives: the limbs of n, in a world in which all that was there is unchanged. -/
def GivesNat (n : Nat) (w : World) (e : Ending) (w' : World) : Prop := ∃ v, e = .returned v ∧ NatAt w' v n ∧ Below w.heap.size w w'
def GivesInt (z : Int) (w : World) (e : Ending) (w' : World) : Prop := ∃ v, e = .returned v ∧ IntAt w' v z ∧ Below w.heap.size w w'

/-- A new block of limbs. -/
def rowObj (ms : List Nat) : Obj := .cells (ms.map (fun (x : Nat) => Value.int .u32 (x : Int))).toArray 38
/-- Block g is the row of limbs ms. -/
def Row (w : World) (g : Nat) (ms : List Nat) : Prop := w.heap[g]? = some (rowObj ms)

section
variable {w w' : World} {g : Nat} {ms : List Nat}
theorem Row.lt (h : Row w g ms) : g < w.heap.size := by
  rcases Nat.lt_or_ge g w.heap.size with hlt | hge
  · exact hlt
  · unfold Row at h; rw [Array.getElem?_eq_none hge] at h; cases h
theorem Row.cell (h : Row w g ms) {i : Nat} (hi : i < ms.length) : w.cell? ⟨g, i, none⟩ = some (.int .u32 (ms[i] : Nat)) := by
  rw [cell_of_row w g i _ _ (0, 0) h]
  simp [hi]
theorem Row.frozen (h : Row w g ms) (i : Nat) : w.frozen? ⟨g, i, none⟩ = false := by
  unfold Row rowObj at h
  simp [World.frozen?, h]
theorem Row.new (w : World) (ms : List Nat) : Row (w.alloc (rowObj ms)) w.heap.size ms := heap_alloc_new w _
theorem Row.drewN (h : Row w g ms) (k : Nat) : Row (w.drewN k) g ms := h
theorem Row.alloc (h : Row w g ms) (o : Obj) : Row (w.alloc o) g ms := (Below.heap_alloc w o g h.lt).trans h
theorem Row.set_ (h : Row w g ms) (i x : Nat) : Row (w.setCell ⟨g, i, none⟩ (.int .u32 (x : Int))) g (ms.set i x) := by
  unfold Row rowObj at h ⊢
  simp [World.setCell, Array.getElem?_modify, h, List.map_set]
theorem Row.far (h : Row w g ms) {p : Addr} (hp : g ≠ p.block) (u : Value) : Row (w.setCell p u) g ms := (Below.heap_setCell w p u g hp).trans h
theorem Row.below {B : Nat} (h : Row w g ms) (hb : Below B w w') (hg : g < B) : Row w' g ms := (hb.block g hg).trans h
theorem Row.mem (h : Row w g ms) {B : Nat} (hB : g < B) : Mem w B (some ⟨g, 0, none⟩) ms := fun _ => ⟨_, rfl, hB, ⟨_, _, h⟩, fun j x hx => by
  have hj : j < ms.length := (List.getElem?_eq_some_iff.1 hx).1
  have hx' : ms[j] = x := (List.getElem?_eq_some_iff.1 hx).2
  have e : (⟨g, 0, none⟩ : Addr).add j = ⟨g, j, none⟩ := by
    unfold Addr.add
    split
    · next h0 => rw [h0]
    · simp
  rw [e, h.cell hj, hx']⟩
theorem Row.nat (h : Row w g ms) (h32 : L32 ms) {c : Nat} (hc : ms.length ≤ c) : NatAt w (.slice (some ⟨g, 0, none⟩) (len (val ms)) c) (val ms) := by
  obtain ⟨e1, e2, _⟩ := limbs_val h32
  refine ⟨_, c, rfl, by omega, ?_⟩
  rw [e1]
  exact (h.mem h.lt).take _
end

theorem info32 : (Tryd.prog.info? 38).map (fun i => (i.zero, i.size, i.bytes)) = some (some (.int .u32 0), 1, 4) := by kernel_rfl
theorem mk32 (l : Int) (h0 : 0 ≤ l) (h : l ≤ 17592186044416) (w : World) :
    (Instr.makeSlice 22 (.int .i64 l) (.int .i64 l)).run Tryd.prog w = .ok (.slice (some ⟨w.heap.size, 0, none⟩) l.toNat l.toNat) (w.alloc (rowObj (List.replicate l.toNat 0))) := by
  obtain ⟨i, hi, hz, hs, hb⟩ := info_parts info32
  have hr := run_make (P := Tryd.prog) w 22 38 i (.int .u32 0) Tryd.underlying22 hi hz .i64 .i64 l l h0 (Int.le_refl _) (by rw [hb]; omega) (by omega)
  have e : madeCells (Value.int .u32 0).cells (l.toNat * i.size) = ((List.replicate l.toNat 0).map (fun (x : Nat) => Value.int .u32 (x : Int))).toArray := by
    rw [hs, Nat.mul_one]
    apply Array.ext_getElem?
    intro j
    by_cases hj : j < l.toNat
    · simp [madeCells, Value.cells, hj, Nat.mod_one]
    · simp [madeCells, Value.cells, hj]
  rw [hr, e]
  rfl

theorem val_replicate (n : Nat) : val (List.replicate n 0) = 0 := by
  induction n with
  | zero => rfl
  | succ n ih => rw [List.replicate_succ, val, ih]
theorem L32.replicate (n : Nat) : L32 (List.replicate n 0) := fun x hx => by
  rw [List.eq_of_mem_replicate hx]; omega
theorem L32.set {ms : List Nat} (h : L32 ms) {i x : Nat} (hx : x < 4294967296) : L32 (ms.set i x) := fun y hy => by
  rcases List.mem_or_eq_of_mem_set hy with h1 | h1
  · exact h y h1
  · rw [h1]; exact hx
/-- The value of a prefix grows by one limb. -/
theorem val_take_succ (ms : List Nat) (k : Nat) : val (ms.take (k + 1)) = val (ms.take k) + 4294967296 ^ k * ms.getD k 0 := by
  rcases Nat.lt_or_ge k ms.length with h | h
  · rw [List.take_succ_eq_append_getElem h, val_append]
    simp [List.getD, List.getElem?_eq_getElem h, val, List.length_take, Nat.min_eq_left (Nat.le_of_lt h)]
  · rw [List.take_of_length_le (by omega), List.take_of_length_le h]
    simp [List.getD, List.getElem?_eq_none h]
end Go.Proofs.YtjajmonhcnmidaaDoor
