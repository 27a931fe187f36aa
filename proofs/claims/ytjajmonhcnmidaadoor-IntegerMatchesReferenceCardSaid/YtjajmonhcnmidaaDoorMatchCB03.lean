/- Facts for the fixed examples: boxes of integers, and the examples' calls. -/
import Derived.Test.YtjajmonhcnmidaaDoorMatchCB02
import Derived.Deep.RegionHeld3
namespace Go.Proofs.YtjajmonhcnmidaaDoor
open Go.RowKit

theorem len_small {n : Nat} (h : n < 18446744073709551616) : len n ≤ 1099511627776 := Nat.le_trans (len_le_two h) (by decide)
theorem DM_lit (va vb : Value) (a b q r : Int) (w : World) (ha : IntAt w va a) (hb : IntAt w vb b) (ha64 : a.natAbs < 18446744073709551616) (hb64 : b.natAbs < 18446744073709551616) (hb0 : b ≠ 0) (hq : a / b = q) (hr : a % b = r) :
    Calls Tryd.prog 31 #[va, vb] w (GivesDM q r 0 w) := by
  subst hq hr
  exact DivMod_small va vb a b w ha hb ha64 hb64 hb0
theorem Same_lit (va vb : Value) (z : Int) (w : World) (ha : IntAt w va z) (hb : IntAt w vb z) (hl : z.natAbs < 18446744073709551616) :
    Calls Tryd.prog 21 #[va, vb] w fun e w' => e = .returned (.bool true) ∧ Below w.heap.size w w' :=
  (Same_any va vb z z w ha hb (len_small hl) (len_small hl)).mono fun _ _ ⟨he, h⟩ => ⟨by rw [he, decide_eq_true rfl], h⟩
theorem Pow_2_32 (v : Value) (w : World) (h : IntAt w v 2) :
    Calls Tryd.prog 36 #[v, .int .i64 32] w fun e w' => ∃ v', e = .returned (.tuple #[v', .int .i64 0]) ∧ IntAt w' v' 4294967296 ∧ Below w.heap.size w w' :=
  (Pow_any v 2 32 w h (Nat.le_trans (len_le_two (by decide)) (by decide)) (by decide)).mono fun _ _ ⟨v', he, hi, hb⟩ => ⟨v', he, hi, hb⟩
theorem Pow_2_257 (v : Value) (w : World) (h : IntAt w v 2) :
    Calls Tryd.prog 36 #[v, .int .i64 257] w fun e w' => ∃ v', e = .returned (.tuple #[v', .int .i64 1]) ∧ IntAt w' v' 0 ∧ Below w.heap.size w w' := by
  obtain ⟨b, A, k, c, e, _⟩ := h.open_
  exact Pow_err v 257 w ⟨b, A, k, c, e⟩ (by omega) (by omega) (by omega)
theorem Small_yes (v : Value) (z : Int) (w : World) (h : IntAt w v z) (h0 : -9223372036854775808 ≤ z) (h1 : z ≤ 9223372036854775807) :
    Calls Tryd.prog 13 #[v] w fun e w' => e = .returned (.tuple #[.int .i64 z, .bool true]) ∧ Below w.heap.size w w' := by
  have e : inI64 z = true := by simp [inI64, h0, h1]
  refine (Small_any v z w h (len_small (by omega))).mono ?_
  rintro e' w' ⟨he, hb⟩
  rw [e] at he
  exact ⟨he, hb⟩

/-- A box with an integer. -/
def BoxI (w : World) (g : Nat) (v : Value) (z : Int) : Prop := ∃ b A k c, v = .agg #[.bool b, .slice A k c] ∧ w.heap[g]? = some (.cells #[.bool b, .slice A k c] 27 (0, 0)) ∧ IntAt w v z
theorem BoxI.lt {w : World} {g : Nat} {v : Value} {z : Int} (h : BoxI w g v z) : g < w.heap.size := by
  obtain ⟨b, A, k, c, _, h, _⟩ := h
  rcases Nat.lt_or_ge g w.heap.size with hlt | hge
  · exact hlt
  · rw [Array.getElem?_eq_none hge] at h; cases h
theorem BoxI.into {w w' : World} {g : Nat} {v : Value} {z : Int} (h : BoxI w g v z) (hb : Below w.heap.size w w') : BoxI w' g v z := by
  have hl := h.lt
  obtain ⟨b, A, k, c, e, h, hi⟩ := h
  exact ⟨b, A, k, c, e, (hb.block g hl).trans h, hi.into hb⟩
theorem BoxI.cells {w : World} {g : Nat} {b : Bool} {A : Option Addr} {k c : Nat} {z : Int} (h : BoxI w g (.agg #[.bool b, .slice A k c]) z) : w.cell? ⟨g, 0, none⟩ = some (.bool b) ∧ w.cell? ⟨g, 1, none⟩ = some (.slice A k c) := by
  obtain ⟨b', A', k', c', e, h, hi⟩ := h
  cases e
  obtain ⟨h0, h1, _, _, _⟩ := box_in h (Below.refl _ _)
  exact ⟨h0, h1⟩
theorem BoxI.int {w : World} {g : Nat} {v : Value} {z : Int} (h : BoxI w g v z) : IntAt w v z := by
  obtain ⟨b', A', k', c', e, h, hi⟩ := h
  exact hi
theorem one_new {w : World} {b : Bool} {A : Option Addr} {k c : Nat} {z : Int} (h : IntAt w (.agg #[.bool b, .slice A k c]) z) :
    BoxI (w.alloc (.cells #[.bool b, .slice A k c] 27)) w.heap.size (.agg #[.bool b, .slice A k c]) z ∧ Below w.heap.size w (w.alloc (.cells #[.bool b, .slice A k c] 27)) :=
  ⟨⟨b, A, k, c, rfl, heap1 w _, h.into (below_alloc _ _)⟩, below_alloc _ _⟩
theorem two_new {w : World} {b : Bool} {A : Option Addr} {k c : Nat} {z : Int} {b2 : Bool} {A2 : Option Addr} {k2 c2 : Nat} {z2 : Int} (h : IntAt w (.agg #[.bool b, .slice A k c]) z) (h2 : IntAt w (.agg #[.bool b2, .slice A2 k2 c2]) z2) :
    BoxI ((w.alloc (.cells #[.bool b, .slice A k c] 27)).alloc (.cells #[.bool b2, .slice A2 k2 c2] 27)) w.heap.size (.agg #[.bool b, .slice A k c]) z ∧
    BoxI ((w.alloc (.cells #[.bool b, .slice A k c] 27)).alloc (.cells #[.bool b2, .slice A2 k2 c2] 27)) (w.heap.size + 1) (.agg #[.bool b2, .slice A2 k2 c2]) z2 ∧
    Below w.heap.size w ((w.alloc (.cells #[.bool b, .slice A k c] 27)).alloc (.cells #[.bool b2, .slice A2 k2 c2] 27)) := by
  obtain ⟨x1, y1⟩ := one_new h
  obtain ⟨x2, y2⟩ := one_new (h2.into y1)
  rw [size_alloc'] at x2
  exact ⟨x1.into y2, x2, step_below y1 y2⟩
theorem Gcd_lit (va vb : Value) (a b g : Int) (w : World) (ha : IntAt w va a) (hb : IntAt w vb b) (hx : a.natAbs < 18446744073709551616) (hy : b.natAbs < 18446744073709551616) (hg : ((Nat.gcd a.natAbs b.natAbs : Nat) : Int) = g) :
    Calls Tryd.prog 33 #[va, vb] w (GivesInt g w) := by
  subst hg
  exact Gcd_small va vb a b w ha hb hx hy
theorem Sign_zero (v : Value) (w : World) (h : IntAt w v 0) : Calls Tryd.prog 28 #[v] w fun e w' => e = .returned (.int .i64 0) ∧ Below w.heap.size w w' :=
  Sign_any v 0 w h (len_small (by decide))
theorem Text_m120 (v : Value) (w : World) (h : IntAt w v (-120)) (htab : P10 w) : Calls Tryd.prog 38 #[v] w fun e w' => e = .returned (.string ⟨#[45, 49, 50, 48]⟩) ∧ Below w.heap.size w w' := by
  have ht : textB true 120 = [45, 49, 50, 48] := by decide +kernel
  have := Text_small v true 120 w h (by decide) (by decide) htab
  rw [ht] at this
  exact this
theorem Valid_nil (w : World) : Calls Tryd.prog 19 #[.agg #[.bool true, .slice none 0 0]] w fun e w' => e = .returned (.bool false) ∧ Below w.heap.size w w' :=
  Valid_raw true none 0 0 [] w rfl (fun h => absurd h (by simp)) (by decide)
theorem Valid_zero0 (w : World) (g : Nat) (h : w.cell? ⟨g, 0, none⟩ = some (.int .u32 0)) (hg : g < w.heap.size) : Calls Tryd.prog 19 #[.agg #[.bool false, .slice (some ⟨g, 0, none⟩) 1 1]] w fun e w' => e = .returned (.bool false) ∧ Below w.heap.size w w' :=
  Valid_raw false (some ⟨g, 0, none⟩) 1 1 [0] w rfl (fun _ => ⟨_, rfl, hg, fun j x hj => by
    rcases j with _ | j
    · simp at hj; subst hj; rw [Lib.add_plain]; exact h
    · simp at hj⟩) (by decide)
theorem Valid_new0 (w : World) : Calls Tryd.prog 19 #[.agg #[.bool false, .slice (some ⟨w.heap.size, 0, none⟩) 1 1]] (w.alloc (.cells #[.int .u32 0] 38)) fun e w' => e = .returned (.bool false) ∧ Below (w.alloc (.cells #[.int .u32 0] 38)).heap.size (w.alloc (.cells #[.int .u32 0] 38)) w' :=
  Valid_zero0 _ _ (by rw [cell_of_row _ _ _ _ _ (0, 0) (heap1 w _)]; rfl) (by simp)
theorem Valid_lit (v : Value) (z : Int) (w : World) (h : IntAt w v z) (hl : z.natAbs < 18446744073709551616) : Calls Tryd.prog 19 #[v] w fun e w' => e = .returned (.bool true) ∧ Below w.heap.size w w' :=
  Valid_int v z w h (len_small hl)
theorem lit_m5 (w : World) : IntAt (w.alloc (.cells #[.int .u32 5] 38)) (.agg #[.bool true, .slice (some ⟨w.heap.size, 0, none⟩) 1 1]) (-5) := by
  have h := (Row.new w [5]).nat (L32.mk (by decide) L32.nil_) (c := 1) (by decide)
  have e : val [5] = 5 := rfl
  rw [e] at h
  have e2 : len 5 = 1 := by rw [len_pos (by decide)]; simp [len_zero]
  rw [e2] at h
  exact ⟨_, rfl, h⟩
theorem lit_p32 (w : World) : IntAt (w.alloc (.cells #[.int .u32 0, .int .u32 1] 38)) (.agg #[.bool false, .slice (some ⟨w.heap.size, 0, none⟩) 2 2]) 4294967296 := by
  have h := (Row.new w [0, 1]).nat (L32.mk (by decide) (L32.mk (by decide) L32.nil_)) (c := 2) (by decide)
  have e : val [0, 1] = 4294967296 := rfl
  rw [e] at h
  have e2 : len 4294967296 = 2 := by rw [len_pos (by decide), show 4294967296 / 4294967296 = 1 from rfl, len_pos (by decide)]; simp [len_zero]
  rw [e2] at h
  exact ⟨_, rfl, h⟩
end Go.Proofs.YtjajmonhcnmidaaDoor
/- A region in which every operation waits for the one before: steps over a frame of which only single slots are known. -/
namespace Go.Proofs.YtjajmonhcnmidaaDoor
open Go.RowKit

/-- The operations of region n, out of a body. -/
def regionOf (n : Nat) : Code → Array Oper
  | .seq a b => if (regionOf n a).size = 0 then regionOf n b else regionOf n a
  | .region i ops _ => if i = n then ops else #[]
  | _ => #[]
/-- The first k of N operations have come up. -/
def mask (N k : Nat) : Array Bool := ((List.range N).map fun i => decide (i < k)).toArray
theorem mask_set (N k : Nat) : (mask N k).setIfInBounds k true = mask N (k + 1) := by
  apply Array.ext_getElem?
  intro j
  by_cases hj : j < N
  · by_cases hjk : k = j
    · subst hjk
      simp [mask, hj]
    · simp [mask, hj, hjk]
      by_cases h2 : j < k
      · simp [h2] <;> omega
      · simp [h2] <;> omega
  · simp [mask, hj]
theorem mask_zero (N : Nat) : mask N 0 = Array.replicate N false := by
  apply Array.ext_getElem?
  intro j
  by_cases hj : j < N <;> simp [mask, hj]

section
variable {P : Program} {ops : Array Oper} {Q : Exit → Act → World → Prop} {S : World → Prop}

/-- Behind the first k operations. -/
def At (P : Program) (ops : Array Oper) (Q : Exit → Act → World → Prop) (S : World → Prop) (k : Nat) (a : Act) (w : World) : Prop :=
  wpAnyH P .any ops Q S (ops.size - k) (mask ops.size k) a w
def pureAt (ops : Array Oper) (k : Nat) : Bool := Region.free .any ops (mask ops.size k) k && (Region.ready .any ops (mask ops.size k)).contains k && decide (k < ops.size)
def nextAt (ops : Array Oper) (k : Nat) : Bool := (Region.ready .any ops (mask ops.size k) == [k]) && decide (k < ops.size)

/-- What an operation must be told of: where it writes, its guard, what it is. -/
def OpIs (ops : Array Oper) (k d : Nat) (g : Option (Nat × Bool)) (op : Op) : Prop := (ops[k]?).map (fun o => (o.dst, o.guard, o.op)) = some (some d, g, op)
theorem opIs_of {k d : Nat} {g : Option (Nat × Bool)} {op : Op} (h : (ops[k]?).map (fun o => (o.dst, o.guard, o.op)) = some (some d, g, op)) : OpIs ops k d g op := h
theorem OpIs.get {k d : Nat} {g : Option (Nat × Bool)} {op : Op} (h : OpIs ops k d g op) : ∃ o, ops[k]? = some o ∧ o.dst = some d ∧ o.guard = g ∧ o.op = op := by
  unfold OpIs at h
  rw [Option.map_eq_some_iff] at h
  obtain ⟨o, ho, h⟩ := h
  simp only [Prod.mk.injEq] at h
  exact ⟨o, ho, h.1, h.2.1, h.2.2⟩

theorem At.pure {k d : Nat} {g : Option (Nat × Bool)} {op : Op} {v : Value} {a : Act} {w : World} (hn : Region.noSelect ops = true) (hk : pureAt ops k = true) (ho : OpIs ops k d g op)
    (hQ : ∀ c d v a w, Q (.panic c) (a.put d v) w → Q (.panic c) a w)
    (hg : ∀ o : Oper, o.guard = g → Region.wanted o (yielded ops a.tmps) = true) (hr : ∀ o : Oper, o.op = op → ∀ w, S w → (execOp a.eval o).run P w = .ok (.value v) w) (hS : S w)
    (h : At P ops Q S (k + 1) (a.put (some d) v) w) : At P ops Q S k a w := by
  obtain ⟨o, ho, hd, hgd, hop⟩ := ho.get
  simp only [pureAt, Bool.and_eq_true, decide_eq_true_eq] at hk
  unfold At
  rw [show ops.size - k = (ops.size - (k + 1)) + 1 by omega]
  refine wpAnyH_take ho hn hk.1.1 hk.1.2 (fun c a w => hQ c _ _ a w) (.inl ⟨hg o hgd, hr o hop⟩) hS ?_
  rw [mask_set, hd]
  exact h
theorem At.next {k : Nat} {a : Act} {w : World} (hk : nextAt ops k = true) (h : wpOp P ops Q k (fun a' w' => S w' ∧ At P ops Q S (k + 1) a' w') a w) : At P ops Q S k a w := by
  simp only [nextAt, Bool.and_eq_true, decide_eq_true_eq, beq_iff_eq] at hk
  unfold At
  rw [show ops.size - k = (ops.size - (k + 1)) + 1 by omega]
  refine wpAnyH_all hk.1 (by simp) fun i hi => ?_
  obtain rfl : i = k := by simpa using hi
  rw [mask_set]
  exact h
theorem wpOp_value {k d : Nat} {g : Option (Nat × Bool)} {op : Op} {v : Value} {a : Act} {w w1 : World} {K : Act → World → Prop} (ho : OpIs ops k d g op)
    (hg : ∀ o : Oper, o.guard = g → Region.wanted o (yielded ops a.tmps) = true) (hr : ∀ o : Oper, o.op = op → (execOp a.eval o).run P w = .ok (.value v) w1)
    (h : K (a.put (some d) v) w1) : wpOp P ops Q k K a w := by
  obtain ⟨o, ho, hd, hgd, hop⟩ := ho.get
  unfold wpOp
  simp only [ho]
  rw [if_pos (hg o hgd)]
  left
  unfold Oper.wp
  rw [hr o hop, Oper.upon_value, hd]
  exact h
theorem wpOp_call {k d : Nat} {f : FuncId} {g : Option (Nat × Bool)} {op : Op} {vs : Array Value} {a : Act} {w : World} {K : Act → World → Prop} (ho : OpIs ops k d g op)
    (hg : ∀ o : Oper, o.guard = g → Region.wanted o (yielded ops a.tmps) = true) (hr : ∀ o : Oper, o.op = op → (execOp a.eval o).run P w = .ok (.enter f vs) w)
    (h : Calls P f vs w fun e w' => ∃ v, e = .returned v ∧ K (a.put (some d) v) w') : wpOp P ops Q k K a w := by
  obtain ⟨o, ho, hd, hgd, hop⟩ := ho.get
  unfold wpOp
  simp only [ho]
  rw [if_pos (hg o hgd)]
  left
  unfold Oper.wp
  rw [hr o hop, Oper.upon_enter, hd]
  exact h.mono fun e w' ⟨v, he, h⟩ => by subst he; exact h
theorem At.call {k d : Nat} {f : FuncId} {g : Option (Nat × Bool)} {op : Op} {vs : Array Value} {a : Act} {w : World} (hk : nextAt ops k = true) (ho : OpIs ops k d g op)
    (hg : ∀ o : Oper, o.guard = g → Region.wanted o (yielded ops a.tmps) = true) (hr : ∀ o : Oper, o.op = op → (execOp a.eval o).run P w = .ok (.enter f vs) w)
    (h : Calls P f vs w fun e w' => ∃ v, e = .returned v ∧ S w' ∧ At P ops Q S (k + 1) (a.put (some d) v) w') : At P ops Q S k a w :=
  At.next hk (wpOp_call ho hg hr h)
theorem At.value {k d : Nat} {g : Option (Nat × Bool)} {op : Op} {v : Value} {a : Act} {w w1 : World} (hk : nextAt ops k = true) (ho : OpIs ops k d g op)
    (hg : ∀ o : Oper, o.guard = g → Region.wanted o (yielded ops a.tmps) = true) (hr : ∀ o : Oper, o.op = op → (execOp a.eval o).run P w = .ok (.value v) w1)
    (hS : S w1) (h : At P ops Q S (k + 1) (a.put (some d) v) w1) : At P ops Q S k a w :=
  At.next hk (wpOp_value ho hg hr ⟨hS, h⟩)
theorem At.done {k : Nat} {a : Act} {w : World} (hk : (Region.ready .any ops (mask ops.size k) == []) = true) (h : Q .normal a w) : At P ops Q S k a w := by
  unfold At
  exact wpAnyH_done (by simpa using hk) h _
theorem At.begin_ {id : Nat} {a : Act} {w : World} (hm : P.follows .mixedOrders = true) (hS : S w.drew) (h : At P ops Q S 0 a w.drew) : (Code.region id ops true).wp P Q a w := by
  refine wp_region_held_drew (S := S) hm hS fun _ => ?_
  have := h
  unfold At at this
  rw [mask_zero] at this
  exact this
end

/-- What is known of a frame: its size, its slots below L as they were, and slot g. -/
structure Fr (N L : Nat) (a0 a : Act) : Prop where
  size : a.tmps.size = N
  low : ∀ t, t < L → a.tmps[t]? = a0.tmps[t]?
  defers : a.defers = a0.defers
theorem Fr.put {N L : Nat} {a0 a : Act} (h : Fr N L a0 a) {d : Nat} (hd : L ≤ d) (v : Value) : Fr N L a0 (a.put (some d) v) :=
  ⟨by simp [Act.put, h.size], fun t ht => by
    have : ¬ d = t := by omega
    simp [Act.put, Array.getElem?_setIfInBounds, this, h.low t ht], h.defers⟩
theorem get_put_same {a : Act} {d : Nat} (v : Value) (h : d < a.tmps.size) : (a.put (some d) v).tmps[d]? = some v := by simp [Act.put, Array.getElem?_setIfInBounds, h]
theorem get_put_ne {a : Act} {d t : Nat} (v : Value) (h : d ≠ t) : (a.put (some d) v).tmps[t]? = a.tmps[t]? := by simp [Act.put, Array.getElem?_setIfInBounds, h]
theorem eval_of {a : Act} {t : Nat} {v : Value} (h : a.tmps[t]? = some v) : a.eval (.tmp t) = v := by
  simp [Act.eval, Array.getD_eq_getD_getElem?, h]
theorem guard_none {ops : Array Oper} {a : Act} (o : Oper) (h : o.guard = none) : Region.wanted o (yielded ops a.tmps) = true := by simp [Region.wanted, h]
theorem guard_of {ops : Array Oper} {a : Act} {j d : Nat} {b : Bool} (hj : (ops[j]?).bind (·.dst) = some d) (h : a.tmps[d]? = some (.bool b)) (o : Oper) (ho : o.guard = some (j, b)) : Region.wanted o (yielded ops a.tmps) = true := by
  simp [Region.wanted, ho, yielded, hj, h]
end Go.Proofs.YtjajmonhcnmidaaDoor
