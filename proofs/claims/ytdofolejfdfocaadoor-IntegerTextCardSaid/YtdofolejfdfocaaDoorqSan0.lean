/- Facts for the fixed examples: boxes of integers, and the examples' calls. -/
import Derived.Test.YtdofolejfdfocaaDoorqR3
import Derived.Test.YtdofolejfdfocaaDoorqTx
import Derived.Test.YtdofolejfdfocaaDoorqPow
import Derived.Deep.RegionHeld3
namespace Go.Proofs.YtdofolejfdfocaaDoor
open Go.RowKit

theorem len_small {n : Nat} (h : n < 18446744073709551616) : len n ≤ 1099511627776 := Nat.le_trans (len_le_two h) (by decide)
theorem DM_lit (va vb : Value) (a b q r : Int) (w : World) (ha : IntAt w va a) (hb : IntAt w vb b) (ha64 : a.natAbs < 18446744073709551616) (hb64 : b.natAbs < 18446744073709551616) (hb0 : b ≠ 0) (hq : a / b = q) (hr : a % b = r) :
    Calls Tryd.prog 11 #[va, vb] w (GivesDM q r 0 w) := by
  subst hq hr
  exact DivMod_small va vb a b w ha hb ha64 hb64 hb0
theorem Same_lit (va vb : Value) (z : Int) (w : World) (ha : IntAt w va z) (hb : IntAt w vb z) (hl : z.natAbs < 18446744073709551616) :
    Calls Tryd.prog 10 #[va, vb] w fun e w' => e = .returned (.bool true) ∧ Below w.heap.size w w' :=
  (Same_any va vb z z w ha hb (len_small hl) (len_small hl)).mono fun _ _ ⟨he, h⟩ => ⟨by rw [he, decide_eq_true rfl], h⟩
theorem Pow_2_32 (v : Value) (w : World) (h : IntAt w v 2) :
    Calls Tryd.prog 13 #[v, .int .i64 32] w fun e w' => ∃ v', e = .returned (.tuple #[v', .int .i64 0]) ∧ IntAt w' v' 4294967296 ∧ Below w.heap.size w w' :=
  (Pow_any v 2 32 w h (Nat.le_trans (len_le_two (by decide)) (by decide)) (by decide)).mono fun _ _ ⟨v', he, hi, hb⟩ => ⟨v', he, hi, hb⟩
theorem Pow_2_257 (v : Value) (w : World) (h : IntAt w v 2) :
    Calls Tryd.prog 13 #[v, .int .i64 257] w fun e w' => ∃ v', e = .returned (.tuple #[v', .int .i64 1]) ∧ IntAt w' v' 0 ∧ Below w.heap.size w w' := by
  obtain ⟨b, A, k, c, e, _⟩ := h.open_
  exact Pow_err v 257 w ⟨b, A, k, c, e⟩ (by omega) (by omega) (by omega)
theorem Small_yes (v : Value) (z : Int) (w : World) (h : IntAt w v z) (h0 : -9223372036854775808 ≤ z) (h1 : z ≤ 9223372036854775807) :
    Calls Tryd.prog 14 #[v] w fun e w' => e = .returned (.tuple #[.int .i64 z, .bool true]) ∧ Below w.heap.size w w' := by
  have e : inI64 z = true := by simp [inI64, h0, h1]
  refine (Small_any v z w h (len_small (by omega))).mono ?_
  rintro e' w' ⟨he, hb⟩
  rw [e] at he
  exact ⟨he, hb⟩

/-- A box with an integer. -/
def BoxI (w : World) (g : Nat) (v : Value) (z : Int) : Prop := ∃ b A k c, v = .agg #[.bool b, .slice A k c] ∧ w.heap[g]? = some (.cells #[.bool b, .slice A k c] 27 (0, 0)) ∧ IntAt w v z
theorem BoxI.lt {w : World} {g : Nat} {v : Value} {z : Int} (h : BoxI w g v z) : g < w.heap.size := by
  obtain ⟨b, A, k, c, _, h, _⟩ := h
  rcases Nat.lt_or_ge g w.heap.size with hlt | hge
  · exact hlt
  · rw [Array.getElem?_eq_none hge] at h; cases h
theorem BoxI.into {w w' : World} {g : Nat} {v : Value} {z : Int} (h : BoxI w g v z) (hb : Below w.heap.size w w') : BoxI w' g v z := by
  have hl := h.lt
  obtain ⟨b, A, k, c, e, h, hi⟩ := h
  exact ⟨b, A, k, c, e, (hb.block g hl).trans h, hi.into hb⟩
theorem BoxI.cells {w : World} {g : Nat} {b : Bool} {A : Option Addr} {k c : Nat} {z : Int} (h : BoxI w g (.agg #[.bool b, .slice A k c]) z) : w.cell? ⟨g, 0, none⟩ = some (.bool b) ∧ w.cell? ⟨g, 1, none⟩ = some (.slice A k c) := by
  obtain ⟨b', A', k', c', e, h, hi⟩ := h
  cases e
  obtain ⟨h0, h1, _, _, _⟩ := box_in h (Below.refl _ _)
  exact ⟨h0, h1⟩
theorem BoxI.int {w : World} {g : Nat} {v : Value} {z : Int} (h : BoxI w g v z) : IntAt w v z := by
  obtain ⟨b', A', k', c', e, h, hi⟩ := h
  exact hi
theorem one_new {w : World} {b : Bool} {A : Option Addr} {k c : Nat} {z : Int} (h : IntAt w (.agg #[.bool b, .slice A k c]) z) :
    BoxI (w.alloc (.cells #[.bool b, .slice A k c] 27)) w.heap.size (.agg #[.bool b, .slice A k c]) z ∧ Below w.heap.size w (w.alloc (.cells #[.bool b, .slice A k c] 27)) :=
  ⟨⟨b, A, k, c, rfl, heap1 w _, h.into (below_alloc _ _)⟩, below_alloc _ _⟩
theorem two_new {w : World} {b : Bool} {A : Option Addr} {k c : Nat} {z : Int} {b2 : Bool} {A2 : Option Addr} {k2 c2 : Nat} {z2 : Int} (h : IntAt w (.agg #[.bool b, .slice A k c]) z) (h2 : IntAt w (.agg #[.bool b2, .slice A2 k2 c2]) z2) :
    BoxI ((w.alloc (.cells #[.bool b, .slice A k c] 27)).alloc (.cells #[.bool b2, .slice A2 k2 c2] 27)) w.heap.size (.agg #[.bool b, .slice A k c]) z ∧
    BoxI ((w.alloc (.cells #[.bool b, .slice A k c] 27)).alloc (.cells #[.bool b2, .slice A2 k2 c2] 27)) (w.heap.size + 1) (.agg #[.bool b2, .slice A2 k2 c2]) z2 ∧
    Below w.heap.size w ((w.alloc (.cells #[.bool b, .slice A k c] 27)).alloc (.cells #[.bool b2, .slice A2 k2 c2] 27)) := by
  obtain ⟨x1, y1⟩ := one_new h
  obtain ⟨x2, y2⟩ := one_new (h2.into y1)
  rw [size_alloc'] at x2
  exact ⟨x1.into y2, x2, step_below y1 y2⟩
theorem Gcd_lit (va vb : Value) (a b g : Int) (w : World) (ha : IntAt w va a) (hb : IntAt w vb b) (hx : a.natAbs < 18446744073709551616) (hy : b.natAbs < 18446744073709551616) (hg : ((Nat.gcd a.natAbs b.natAbs : Nat) : Int) = g) :
    Calls Tryd.prog 16 #[va, vb] w (GivesInt g w) := by
  subst hg
  exact Gcd_small va vb a b w ha hb hx hy
theorem Sign_zero (v : Value) (w : World) (h : IntAt w v 0) : Calls Tryd.prog 17 #[v] w fun e w' => e = .returned (.int .i64 0) ∧ Below w.heap.size w w' :=
  Sign_any v 0 w h (len_small (by decide))
theorem Text_m120 (v : Value) (w : World) (h : IntAt w v (-120)) (htab : P10 w) : Calls Tryd.prog 6 #[v] w fun e w' => e = .returned (.string ⟨#[45, 49, 50, 48]⟩) ∧ Below w.heap.size w w' := by
  have ht : textB true 120 = [45, 49, 50, 48] := by decide +kernel
  have := Text_small v true 120 w h (by decide) (by decide) htab
  rw [ht] at this
  exact this
theorem Valid_nil (w : World) : Calls Tryd.prog 18 #[.agg #[.bool true, .slice none 0 0]] w fun e w' => e = .returned (.bool false) ∧ Below w.heap.size w w' :=
  Valid_raw true none 0 0 [] w rfl (fun h => absurd h (by simp)) (by decide)
theorem Valid_zero0 (w : World) (g : Nat) (h : w.cell? ⟨g, 0, none⟩ = some (.int .u32 0)) (hg : g < w.heap.size) : Calls Tryd.prog 18 #[.agg #[.bool false, .slice (some ⟨g, 0, none⟩) 1 1]] w fun e w' => e = .returned (.bool false) ∧ Below w.heap.size w w' :=
  Valid_raw false (some ⟨g, 0, none⟩) 1 1 [0] w rfl (fun _ => ⟨_, rfl, hg, fun j x hj => by
    rcases j with _ | j
    · simp at hj; subst hj; rw [Lib.add_plain]; exact h
    · simp at hj⟩) (by decide)
theorem Valid_new0 (w : World) : Calls Tryd.prog 18 #[.agg #[.bool false, .slice (some ⟨w.heap.size, 0, none⟩) 1 1]] (w.alloc (.cells #[.int .u32 0] 41)) fun e w' => e = .returned (.bool false) ∧ Below (w.alloc (.cells #[.int .u32 0] 41)).heap.size (w.alloc (.cells #[.int .u32 0] 41)) w' :=
  Valid_zero0 _ _ (by rw [cell_of_row _ _ _ _ _ (0, 0) (heap1 w _)]; rfl) (by simp)
theorem Valid_lit (v : Value) (z : Int) (w : World) (h : IntAt w v z) (hl : z.natAbs < 18446744073709551616) : Calls Tryd.prog 18 #[v] w fun e w' => e = .returned (.bool true) ∧ Below w.heap.size w w' :=
  Valid_int v z w h (len_small hl)
theorem lit_m5 (w : World) : IntAt (w.alloc (.cells #[.int .u32 5] 41)) (.agg #[.bool true, .slice (some ⟨w.heap.size, 0, none⟩) 1 1]) (-5) := by
  have h := (Row.new w [5]).nat (L32.mk (by decide) L32.nil_) (c := 1) (by decide)
  have e : val [5] = 5 := rfl
  rw [e] at h
  have e2 : len 5 = 1 := by rw [len_pos (by decide)]; simp [len_zero]
  rw [e2] at h
  exact ⟨_, rfl, h⟩
theorem lit_p32 (w : World) : IntAt (w.alloc (.cells #[.int .u32 0, .int .u32 1] 41)) (.agg #[.bool false, .slice (some ⟨w.heap.size, 0, none⟩) 2 2]) 4294967296 := by
  have h := (Row.new w [0, 1]).nat (L32.mk (by decide) (L32.mk (by decide) L32.nil_)) (c := 2) (by decide)
  have e : val [0, 1] = 4294967296 := rfl
  rw [e] at h
  have e2 : len 4294967296 = 2 := by rw [len_pos (by decide), show 4294967296 / 4294967296 = 1 from rfl, len_pos (by decide)]; simp [len_zero]
  rw [e2] at h
  exact ⟨_, rfl, h⟩
end Go.Proofs.YtdofolejfdfocaaDoor
namespace Go.Proofs.YtdofolejfdfocaaDoor
open Go.RowKit

/-- The operations of region n, out of a body. -/
def regionOf (n : Nat) : Code → Array Oper
  | .seq a b => if (regionOf n a).size = 0 then regionOf n b else regionOf n a
  | .region i ops _ => if i = n then ops else #[]
  | _ => #[]
/-- The first k of N operations have come up. -/
def mask (N k : Nat) : Array Bool := ((List.range N).map fun i => decide (i < k)).toArray
theorem mask_set (N k : Nat) : (mask N k).setIfInBounds k true = mask N (k + 1) := by
  apply Array.ext_getElem?
  intro j
  by_cases hj : j < N
  · by_cases hjk : k = j
    · subst hjk
      simp [mask, hj]
    · simp [mask, hj, hjk]
      by_cases h2 : j < k
      · simp [h2] <;> omega
      · simp [h2] <;> omega
  · simp [mask, hj]
theorem mask_zero (N : Nat) : mask N 0 = Array.replicate N false := by
  apply Array.ext_getElem?
  intro j
  by_cases hj : j < N <;> simp [mask, hj]

section
variable {P : Program} {ops : Array Oper} {Q : Exit → Act → World → Prop} {S : World → Prop}

/-- Behind the first k operations. -/
def At (P : Program) (ops : Array Oper) (Q : Exit → Act → World → Prop) (S : World → Prop) (k : Nat) (a : Act) (w : World) : Prop :=
  wpAnyH P .any ops Q S (ops.size - k) (mask ops.size k) a w
def pureAt (ops : Array Oper) (k : Nat) : Bool := Region.free .any ops (mask ops.size k) k && (Region.ready .any ops (mask ops.size k)).contains k && decide (k < ops.size)
def nextAt (ops : Array Oper) (k : Nat) : Bool := (Region.ready .any ops (mask ops.size k) == [k]) && decide (k < ops.size)

/-- What an operation must be told of: where it writes, its guard, what it is. -/
def OpIs (ops : Array Oper) (k d : Nat) (g : Option (Nat × Bool)) (op : Op) : Prop := (ops[k]?).map (fun o => (o.dst, o.guard, o.op)) = some (some d, g, op)
theorem opIs_of {k d : Nat} {g : Option (Nat × Bool)} {op : Op} (h : (ops[k]?).map (fun o => (o.dst, o.guard, o.op)) = some (some d, g, op)) : OpIs ops k d g op := h
theorem OpIs.get {k d : Nat} {g : Option (Nat × Bool)} {op : Op} (h : OpIs ops k d g op) : ∃ o, ops[k]? = some o ∧ o.dst = some d ∧ o.guard = g ∧ o.op = op := by
  unfold OpIs at h
  rw [Option.map_eq_some_iff] at h
  obtain ⟨o, ho, h⟩ := h
  simp only [Prod.mk.injEq] at h
  exact ⟨o, ho, h.1, h.2.1, h.2.2⟩

theorem At.pure {k d : Nat} {g : Option (Nat × Bool)} {op : Op} {v : Value} {a : Act} {w : World} (hn : Region.noSelect ops = true) (hk : pureAt ops k = true) (ho : OpIs ops k d g op)
    (hQ : ∀ c d v a w, Q (.panic c) (a.put d v) w → Q (.panic c) a w)
    (hg : ∀ o : Oper, o.guard = g → Region.wanted o (yielded ops a.tmps) = true) (hr : ∀ o : Oper, o.op = op → ∀ w, S w → (execOp a.eval o).run P w = .ok (.value v) w) (hS : S w)
    (h : At P ops Q S (k + 1) (a.put (some d) v) w) : At P ops Q S k a w := by
  obtain ⟨o, ho, hd, hgd, hop⟩ := ho.get
  simp only [pureAt, Bool.and_eq_true, decide_eq_true_eq] at hk
  unfold At
  rw [show ops.size - k = (ops.size - (k + 1)) + 1 by omega]
  refine wpAnyH_take ho hn hk.1.1 hk.1.2 (fun c a w => hQ c _ _ a w) (.inl ⟨hg o hgd, hr o hop⟩) hS ?_
  rw [mask_set, hd]
  exact h
theorem At.next {k : Nat} {a : Act} {w : World} (hk : nextAt ops k = true) (h : wpOp P ops Q k (fun a' w' => S w' ∧ At P ops Q S (k + 1) a' w') a w) : At P ops Q S k a w := by
  simp only [nextAt, Bool.and_eq_true, decide_eq_true_eq, beq_iff_eq] at hk
  unfold At
  rw [show ops.size - k = (ops.size - (k + 1)) + 1 by omega]
  refine wpAnyH_all hk.1 (by simp) fun i hi => ?_
  obtain rfl : i = k := by simpa using hi
  rw [mask_set]
  exact h
theorem wpOp_value {k d : Nat} {g : Option (Nat × Bool)} {op : Op} {v : Value} {a : Act} {w w1 : World} {K : Act → World → Prop} (ho : OpIs ops k d g op)
    (hg : ∀ o : Oper, o.guard = g → Region.wanted o (yielded ops a.tmps) = true) (hr : ∀ o : Oper, o.op = op → (execOp a.eval o).run P w = .ok (.value v) w1)
    (h : K (a.put (some d) v) w1) : wpOp P ops Q k K a w := by
  obtain ⟨o, ho, hd, hgd, hop⟩ := ho.get
  unfold wpOp
  simp only [ho]
  rw [if_pos (hg o hgd)]
  left
  unfold Oper.wp
  rw [hr o hop, Oper.upon_value, hd]
  exact h
theorem wpOp_call {k d : Nat} {f : FuncId} {g : Option (Nat × Bool)} {op : Op} {vs : Array Value} {a : Act} {w : World} {K : Act → World → Prop} (ho : OpIs ops k d g op)
    (hg : ∀ o : Oper, o.guard = g → Region.wanted o (yielded ops a.tmps) = true) (hr : ∀ o : Oper, o.op = op → (execOp a.eval o).run P w = .ok (.enter f vs) w)
    (h : Calls P f vs w fun e w' => ∃ v, e = .returned v ∧ K (a.put (some d) v) w') : wpOp P ops Q k K a w := by
  obtain ⟨o, ho, hd, hgd, hop⟩ := ho.get
  unfold wpOp
  simp only [ho]
  rw [if_pos (hg o hgd)]
  left
  unfold Oper.wp
  rw [hr o hop, Oper.upon_enter, hd]
  exact h.mono fun e w' ⟨v, he, h⟩ => by subst he; exact h
theorem At.call {k d : Nat} {f : FuncId} {g : Option (Nat × Bool)} {op : Op} {vs : Array Value} {a : Act} {w : World} (hk : nextAt ops k = true) (ho : OpIs ops k d g op)
    (hg : ∀ o : Oper, o.guard = g → Region.wanted o (yielded ops a.tmps) = true) (hr : ∀ o : Oper, o.op = op → (execOp a.eval o).run P w = .ok (.enter f vs) w)
    (h : Calls P f vs w fun e w' => ∃ v, e = .returned v ∧ S w' ∧ At P ops Q S (k + 1) (a.put (some d) v) w') : At P ops Q S k a w :=
  At.next hk (wpOp_call ho hg hr h)
theorem At.value {k d : Nat} {g : Option (Nat × Bool)} {op : Op} {v : Value} {a : Act} {w w1 : World} (hk : nextAt ops k = true) (ho : OpIs ops k d g op)
    (hg : ∀ o : Oper, o.guard = g → Region.wanted o (yielded ops a.tmps) = true) (hr : ∀ o : Oper, o.op = op → (execOp a.eval o).run P w = .ok (.value v) w1)
    (hS : S w1) (h : At P ops Q S (k + 1) (a.put (some d) v) w1) : At P ops Q S k a w :=
  At.next hk (wpOp_value ho hg hr ⟨hS, h⟩)
theorem At.done {k : Nat} {a : Act} {w : World} (hk : (Region.ready .any ops (mask ops.size k) == []) = true) (h : Q .normal a w) : At P ops Q S k a w := by
  unfold At
  exact wpAnyH_done (by simpa using hk) h _
theorem At.begin_ {id : Nat} {a : Act} {w : World} (hm : P.follows .mixedOrders = true) (hS : S w.drew) (h : At P ops Q S 0 a w.drew) : (Code.region id ops true).wp P Q a w := by
  refine wp_region_held_drew (S := S) hm hS fun _ => ?_
  have := h
  unfold At at this
  rw [mask_zero] at this
  exact this
end

/-- What is known of a frame: its size, its slots below L as they were, and slot g. -/
structure Fr (N L : Nat) (a0 a : Act) : Prop where
  size : a.tmps.size = N
  low : ∀ t, t < L → a.tmps[t]? = a0.tmps[t]?
  defers : a.defers = a0.defers
theorem Fr.put {N L : Nat} {a0 a : Act} (h : Fr N L a0 a) {d : Nat} (hd : L ≤ d) (v : Value) : Fr N L a0 (a.put (some d) v) :=
  ⟨by simp [Act.put, h.size], fun t ht => by
    have : ¬ d = t := by omega
    simp [Act.put, this, h.low t ht], h.defers⟩
theorem get_put_same {a : Act} {d : Nat} (v : Value) (h : d < a.tmps.size) : (a.put (some d) v).tmps[d]? = some v := by simp [Act.put, h]
theorem get_put_ne {a : Act} {d t : Nat} (v : Value) (h : d ≠ t) : (a.put (some d) v).tmps[t]? = a.tmps[t]? := by simp [Act.put, h]
theorem eval_of {a : Act} {t : Nat} {v : Value} (h : a.tmps[t]? = some v) : a.eval (.tmp t) = v := by
  simp [Act.eval, Array.getD_eq_getD_getElem?, h]
theorem guard_none {ops : Array Oper} {a : Act} (o : Oper) (h : o.guard = none) : Region.wanted o (yielded ops a.tmps) = true := by simp [Region.wanted, h]
theorem guard_of {ops : Array Oper} {a : Act} {j d : Nat} {b : Bool} (hj : (ops[j]?).bind (·.dst) = some d) (h : a.tmps[d]? = some (.bool b)) (o : Oper) (ho : o.guard = some (j, b)) : Region.wanted o (yielded ops a.tmps) = true := by
  simp [Region.wanted, ho, yielded, hj, h]
end Go.Proofs.YtdofolejfdfocaaDoor
namespace Go.Proofs.YtdofolejfdfocaaDoor
open Go.RowKit

section
variable {a : Act} {w : World} {o : Oper}
theorem run_move' {t : Nat} {v : Value} (h : a.tmps[t]? = some v) (ho : o.op = .move (.tmp t)) : (execOp a.eval o).run Tryd.prog w = .ok (.value v) w := by
  unfold execOp; rw [ho]; simp [go_sem, h]
theorem run_assign' {t : Nat} {v : Value} (h : a.tmps[t]? = some v) (ho : o.op = .assign (.tmp t)) : (execOp a.eval o).run Tryd.prog w = .ok (.value v) w := by
  unfold execOp; rw [ho]; simp [go_sem, h]
theorem run_pick' {g c : Nat} {x : Bool} (hg : a.tmps[g]? = some (.bool true)) (hc : a.tmps[c]? = some (.bool x)) (ho : o.op = .pick (.tmp g) (.tmp c) (.const (.bool false))) : (execOp a.eval o).run Tryd.prog w = .ok (.value (.bool x)) w := by
  unfold execOp; rw [ho]; simp [go_sem, hg, hc]
theorem run_not' {c ty : Nat} {x : Bool} (hc : a.tmps[c]? = some (.bool x)) (ho : o.op = .unOp .not ty (.tmp c)) : (execOp a.eval o).run Tryd.prog w = .ok (.value (.bool !x)) w := by
  unfold execOp; rw [ho]; simp [go_sem, hc]
theorem run_eqI' {c ty y2 : Nat} {k : IntKind} {x y : Int} (hc : a.tmps[c]? = some (.int k x)) (ho : o.op = .binOp .eql ty (.tmp c) (.const (.int k y)) y2) : (execOp a.eval o).run Tryd.prog w = .ok (.value (.bool (x == y))) w := by
  unfold execOp; rw [ho]; simp [go_sem, hc]
theorem run_eqS' {c ty y2 : Nat} {x y : ByteArray} (hc : a.tmps[c]? = some (.string x)) (ho : o.op = .binOp .eql ty (.tmp c) (.const (.string y)) y2) : (execOp a.eval o).run Tryd.prog w = .ok (.value (.bool (x.toList == y.toList))) w := by
  unfold execOp; rw [ho]; simp [go_sem, hc]
theorem run_call1 {x : Operand} (ho : o.op = .call { callee := .value (.func 12), args := #[x], argTypes := #[2] }) : (execOp a.eval o).run Tryd.prog w = .ok (.enter 12 #[a.eval x]) w := by
  unfold execOp; rw [ho]; simp [go_sem]
theorem run_slice5 (ho : o.op = .buildSlice 22 1 #[(0, .const (.int .u32 5))]) : (execOp a.eval o).run Tryd.prog w = .ok (.value (.slice (some ⟨w.heap.size, 0, none⟩) 1 1)) (w.alloc (.cells #[.int .u32 5] 41)) := by
  unfold execOp; rw [ho]; simp [go_sem]
theorem run_build5 {t : Nat} {A : Option Addr} {k c : Nat} (h : a.tmps[t]? = some (.slice A k c)) (ho : o.op = .build 27 #[(0, .const (.bool true)), (1, .tmp t)]) : (execOp a.eval o).run Tryd.prog w = .ok (.value (.agg #[.bool true, .slice A k c])) w := by
  unfold execOp; rw [ho]; simp [go_sem, h]
theorem run_buildF {t : Nat} {A : Option Addr} {k c : Nat} (h : a.tmps[t]? = some (.slice A k c)) (ho : o.op = .build 27 #[(1, .tmp t)]) : (execOp a.eval o).run Tryd.prog w = .ok (.value (.agg #[.bool false, .slice A k c])) w := by
  unfold execOp; rw [ho]; simp [go_sem, h]
theorem run_buildT (ho : o.op = .build 27 #[(0, .const (.bool true))]) : (execOp a.eval o).run Tryd.prog w = .ok (.value (.agg #[.bool true, .slice none 0 0])) w := by
  unfold execOp; rw [ho]; simp [go_sem]
theorem run_slice0 (ho : o.op = .buildSlice 22 1 #[(0, .const (.int .u32 0))]) : (execOp a.eval o).run Tryd.prog w = .ok (.value (.slice (some ⟨w.heap.size, 0, none⟩) 1 1)) (w.alloc (.cells #[.int .u32 0] 41)) := by
  unfold execOp; rw [ho]; simp [go_sem]
theorem run_slice01 (ho : o.op = .buildSlice 22 2 #[(0, .const (.int .u32 0)), (1, .const (.int .u32 1))]) : (execOp a.eval o).run Tryd.prog w = .ok (.value (.slice (some ⟨w.heap.size, 0, none⟩) 2 2)) (w.alloc (.cells #[.int .u32 0, .int .u32 1] 41)) := by
  unfold execOp; rw [ho]; simp [go_sem]
theorem run_loadI {t g : Nat} {b : Bool} {A : Option Addr} {k c : Nat} (h : a.tmps[t]? = some (.pointer (some ⟨g, 0, none⟩))) (h0 : w.cell? ⟨g, 0, none⟩ = some (.bool b)) (h1 : w.cell? ⟨g, 1, none⟩ = some (.slice A k c)) (ho : o.op = .load 27 (.tmp t)) : (execOp a.eval o).run Tryd.prog w = .ok (.value (.agg #[.bool b, .slice A k c])) w := by
  unfold execOp; rw [ho]; simp [go_sem, h, h0, h1]
theorem run_callROf {x : Operand} (ho : o.op = .call { callee := .value (.func 15), args := #[x], argTypes := #[2] }) : (execOp a.eval o).run Tryd.prog w = .ok (.enter 15 #[a.eval x]) w := by
  unfold execOp; rw [ho]; simp [go_sem]
theorem run_callSame {x y : Nat} {vx vy : Value} (hx : a.tmps[x]? = some vx) (hy : a.tmps[y]? = some vy) (ho : o.op = .call { callee := .value (.func 10), args := #[.tmp x, .tmp y], argTypes := #[27, 27] }) : (execOp a.eval o).run Tryd.prog w = .ok (.enter 10 #[vx, vy]) w := by
  unfold execOp; rw [ho]; simp [go_sem, hx, hy]
theorem run_callGcd {x y : Nat} {vx vy : Value} (hx : a.tmps[x]? = some vx) (hy : a.tmps[y]? = some vy) (ho : o.op = .call { callee := .value (.func 16), args := #[.tmp x, .tmp y], argTypes := #[27, 27] }) : (execOp a.eval o).run Tryd.prog w = .ok (.enter 16 #[vx, vy]) w := by
  unfold execOp; rw [ho]; simp [go_sem, hx, hy]
theorem run_callSign {x : Nat} {vx : Value} (hx : a.tmps[x]? = some vx) (ho : o.op = .call { callee := .value (.func 17), args := #[.tmp x], argTypes := #[27] }) : (execOp a.eval o).run Tryd.prog w = .ok (.enter 17 #[vx]) w := by
  unfold execOp; rw [ho]; simp [go_sem, hx]
theorem run_callText {x : Nat} {vx : Value} (hx : a.tmps[x]? = some vx) (ho : o.op = .call { callee := .value (.func 6), args := #[.tmp x], argTypes := #[27] }) : (execOp a.eval o).run Tryd.prog w = .ok (.enter 6 #[vx]) w := by
  unfold execOp; rw [ho]; simp [go_sem, hx]
theorem run_callValid {x : Nat} {vx : Value} (hx : a.tmps[x]? = some vx) (ho : o.op = .call { callee := .value (.func 18), args := #[.tmp x], argTypes := #[27] }) : (execOp a.eval o).run Tryd.prog w = .ok (.enter 18 #[vx]) w := by
  unfold execOp; rw [ho]; simp [go_sem, hx]
end
end Go.Proofs.YtdofolejfdfocaaDoor
namespace Go.Proofs.YtdofolejfdfocaaDoor
open Go.RowKit

/-- Those of N operations that have come up. -/
def maskO (N : Nat) (l : List Nat) : Array Bool := ((List.range N).map fun i => l.contains i).toArray
theorem maskO_set (N i : Nat) (l : List Nat) : (maskO N l).setIfInBounds i true = maskO N (i :: l) := by
  apply Array.ext_getElem?
  intro j
  by_cases hj : j < N
  · by_cases hij : i = j
    · subst hij
      simp [maskO, hj]
    · have hji : ¬ j = i := fun h => hij h.symm
      simp [maskO, hj, hij, hji]
  · by_cases hij : i = j
    · subst hij
      simp [maskO, hj]
    · simp [maskO, hj]
theorem maskO_nil (N : Nat) : maskO N [] = Array.replicate N false := by
  apply Array.ext_getElem?
  intro j
  by_cases hj : j < N <;> simp [maskO, hj]

section
variable {P : Program} {ops : Array Oper} {Q : Exit → Act → World → Prop} {W0 : World} {a0 a : Act} {w : World} {N L : Nat}

/-- Behind the operations 'done'. -/
def AtO (P : Program) (ops : Array Oper) (Q : Exit → Act → World → Prop) (W0 : World) (done : List Nat) (a : Act) (w : World) : Prop :=
  wpAnyH P .any ops Q (fun w => Below W0.heap.size W0 w) (ops.size - done.length) (maskO ops.size done) a w
def pureO (ops : Array Oper) (done : List Nat) (i : Nat) : Bool := Region.free .any ops (maskO ops.size done) i && (Region.ready .any ops (maskO ops.size done)).contains i && decide (done.length < ops.size)
def nextO (ops : Array Oper) (done : List Nat) (i : Nat) : Bool := (Region.ready .any ops (maskO ops.size done) == [i]) && decide (done.length < ops.size)

theorem stepP {d i : Nat} {done : List Nat} {g : Option (Nat × Bool)} {op : Op} {v : Value} (hn : Region.noSelect ops = true) (hk : pureO ops done i = true) (ho : OpIs ops i d g op)
    (hQ : ∀ c d v a w, Q (.panic c) (a.put d v) w → Q (.panic c) a w) (hg : ∀ o : Oper, o.guard = g → Region.wanted o (yielded ops a.tmps) = true)
    (hr : ∀ o : Oper, o.op = op → ∀ w, Below W0.heap.size W0 w → (execOp a.eval o).run P w = .ok (.value v) w) (hF : Fr N L a0 a) (hd1 : L ≤ d) (hd2 : d < N) (hB : Below W0.heap.size W0 w)
    (next : ∀ a', Fr N L a0 a' → a'.tmps[d]? = some v → (∀ t u, d ≠ t → a.tmps[t]? = some u → a'.tmps[t]? = some u) → AtO P ops Q W0 (i :: done) a' w) : AtO P ops Q W0 done a w := by
  obtain ⟨o, ho, hd, hgd, hop⟩ := ho.get
  simp only [pureO, Bool.and_eq_true, decide_eq_true_eq] at hk
  unfold AtO
  rw [show ops.size - done.length = (ops.size - (i :: done).length) + 1 by simp only [List.length_cons]; omega]
  refine wpAnyH_take ho hn hk.1.1 hk.1.2 (fun c a w => hQ c _ _ a w) (.inl ⟨hg o hgd, hr o hop⟩) hB ?_
  rw [maskO_set, hd]
  exact next _ (hF.put hd1 _) (get_put_same _ (by rw [hF.size]; exact hd2)) (fun t u ht h => (get_put_ne _ ht).trans h)
/-- One that its guard passes over. -/
theorem stepS {d i : Nat} {done : List Nat} {g : Option (Nat × Bool)} {op : Op} (hn : Region.noSelect ops = true) (hk : pureO ops done i = true) (ho : OpIs ops i d g op)
    (hQ : ∀ c d v a w, Q (.panic c) (a.put d v) w → Q (.panic c) a w) (hg : ∀ o : Oper, o.guard = g → Region.wanted o (yielded ops a.tmps) = false)
    (hF : Fr N L a0 a) (hd1 : L ≤ d) (hB : Below W0.heap.size W0 w)
    (next : ∀ a', Fr N L a0 a' → (∀ t u, d ≠ t → a.tmps[t]? = some u → a'.tmps[t]? = some u) → AtO P ops Q W0 (i :: done) a' w) : AtO P ops Q W0 done a w := by
  obtain ⟨o, ho, hd, hgd, hop⟩ := ho.get
  simp only [pureO, Bool.and_eq_true, decide_eq_true_eq] at hk
  unfold AtO
  rw [show ops.size - done.length = (ops.size - (i :: done).length) + 1 by simp only [List.length_cons]; omega]
  refine wpAnyH_take ho hn hk.1.1 hk.1.2 (fun c a w => hQ c _ _ a w) (.inr ⟨hg o hgd, rfl⟩) hB ?_
  rw [maskO_set, hd]
  exact next _ (hF.put hd1 _) (fun t u ht h => (get_put_ne _ ht).trans h)
theorem stepC {d i f : Nat} {done : List Nat} {g : Option (Nat × Bool)} {op : Op} {vs : Array Value} (R : Value → World → Prop) (hk : nextO ops done i = true) (ho : OpIs ops i d g op)
    (hg : ∀ o : Oper, o.guard = g → Region.wanted o (yielded ops a.tmps) = true)
    (hr : ∀ o : Oper, o.op = op → (execOp a.eval o).run P w = .ok (.enter f vs) w) (hF : Fr N L a0 a) (hd1 : L ≤ d) (hd2 : d < N) (hB : Below W0.heap.size W0 w)
    (hc : Calls P f vs w fun e w' => ∃ v, e = .returned v ∧ R v w' ∧ Below w.heap.size w w')
    (next : ∀ v a' w', Fr N L a0 a' → a'.tmps[d]? = some v → (∀ t u, d ≠ t → a.tmps[t]? = some u → a'.tmps[t]? = some u) → R v w' → Below w.heap.size w w' → Below W0.heap.size W0 w' → AtO P ops Q W0 (i :: done) a' w') : AtO P ops Q W0 done a w := by
  simp only [nextO, Bool.and_eq_true, decide_eq_true_eq, beq_iff_eq] at hk
  unfold AtO
  rw [show ops.size - done.length = (ops.size - (i :: done).length) + 1 by simp only [List.length_cons]; omega]
  refine wpAnyH_all hk.1 (by simp) fun j hj => ?_
  obtain rfl : j = i := by simpa using hj
  rw [maskO_set]
  refine wpOp_call ho hg hr (hc.mono ?_)
  rintro e w' ⟨v, rfl, hR, hb⟩
  exact ⟨v, rfl, step_below hB hb, next v _ w' (hF.put hd1 _) (get_put_same _ (by rw [hF.size]; exact hd2)) (fun t u ht h => (get_put_ne _ ht).trans h) hR hb (step_below hB hb)⟩
/-- A call that its guard passes over. -/
theorem stepSC {d i : Nat} {done : List Nat} {g : Option (Nat × Bool)} {op : Op} (hk : nextO ops done i = true) (ho : OpIs ops i d g op)
    (hg : ∀ o : Oper, o.guard = g → Region.wanted o (yielded ops a.tmps) = false) (hF : Fr N L a0 a) (hd1 : L ≤ d) (hB : Below W0.heap.size W0 w)
    (next : ∀ a', Fr N L a0 a' → (∀ t u, d ≠ t → a.tmps[t]? = some u → a'.tmps[t]? = some u) → AtO P ops Q W0 (i :: done) a' w) : AtO P ops Q W0 done a w := by
  obtain ⟨o, ho, hd, hgd, hop⟩ := ho.get
  simp only [nextO, Bool.and_eq_true, decide_eq_true_eq, beq_iff_eq] at hk
  unfold AtO
  rw [show ops.size - done.length = (ops.size - (i :: done).length) + 1 by simp only [List.length_cons]; omega]
  refine wpAnyH_all hk.1 (by simp) fun j hj => ?_
  obtain rfl : j = i := by simpa using hj
  rw [maskO_set]
  unfold wpOp
  simp only [ho]
  rw [if_neg (by rw [hg o hgd]; exact Bool.false_ne_true), hd]
  exact ⟨hB, next _ (hF.put hd1 _) (fun t u ht h => (get_put_ne _ ht).trans h)⟩
/-- The last operation lays the answer into a slot below. -/
theorem stepEnd {d i : Nat} {done : List Nat} {op : Op} {v : Value} (hn : Region.noSelect ops = true) (hk : pureO ops done i = true) (ho : OpIs ops i d none op)
    (hQ : ∀ c d v a w, Q (.panic c) (a.put d v) w → Q (.panic c) a w)
    (hr : ∀ o : Oper, o.op = op → ∀ w, Below W0.heap.size W0 w → (execOp a.eval o).run P w = .ok (.value v) w) (hF : Fr N L a0 a) (hd2 : d < N) (hB : Below W0.heap.size W0 w)
    (hz : (Region.ready .any ops (maskO ops.size (i :: done)) == []) = true)
    (fin : ∀ a' w', a'.tmps.size = N → (∀ t, t < L → d ≠ t → a'.tmps[t]? = a0.tmps[t]?) → a'.tmps[d]? = some v → a'.defers = a0.defers → Below W0.heap.size W0 w' → Q .normal a' w') : AtO P ops Q W0 done a w := by
  obtain ⟨o, ho, hd, hgd, hop⟩ := ho.get
  simp only [pureO, Bool.and_eq_true, decide_eq_true_eq] at hk
  unfold AtO
  rw [show ops.size - done.length = (ops.size - (i :: done).length) + 1 by simp only [List.length_cons]; omega]
  refine wpAnyH_take ho hn hk.1.1 hk.1.2 (fun c a w => hQ c _ _ a w) (.inl ⟨guard_none o hgd, hr o hop⟩) hB ?_
  rw [maskO_set, hd]
  refine wpAnyH_done (by simpa using hz) ?_ _
  exact fin _ _ (by simp [Act.put, hF.size]) (fun t ht hne => (get_put_ne _ hne).trans (hF.low t ht)) (get_put_same _ (by rw [hF.size]; exact hd2)) (by simp [Act.put, hF.defers]) hB
theorem beginO {id : Nat} (hm : P.follows .mixedOrders = true) (h : AtO P ops Q W0 [] a W0.drew) : (Code.region id ops true).wp P Q a W0 := by
  refine wp_region_held_drew (S := fun w => Below W0.heap.size W0 w) hm (Below.refl _ _).drew fun _ => ?_
  have := h
  unfold AtO at this
  rw [maskO_nil] at this
  exact this
theorem frHere (h : a.tmps.size = N) : Fr N L a a := ⟨h, fun _ _ => rfl, rfl⟩
theorem guard_off {j d : Nat} {b b' : Bool} (hj : (ops[j]?).bind (·.dst) = some d) (h : a.tmps[d]? = some (.bool b)) (hbb : (b == b') = false) (o : Oper) (ho : o.guard = some (j, b')) : Region.wanted o (yielded ops a.tmps) = false := by
  simp [Region.wanted, ho, yielded, hj, h]
  simpa using hbb
end

/-! ### Numbers of few limbs -/
/-- Below k limbs. -/
def Sm (z : Int) (k : Nat) : Prop := z.natAbs < 4294967296 ^ k
theorem len_le_pow : ∀ {k n : Nat}, n < 4294967296 ^ k → len n ≤ k
  | 0, n, h => by
    obtain rfl : n = 0 := by simpa using h
    rw [len_zero]
    exact Nat.le_refl _
  | k + 1, n, h => by
    rcases Nat.eq_zero_or_pos n with rfl | h0
    · rw [len_zero]; exact Nat.zero_le _
    · rw [len_pos h0]
      have := len_le_pow (k := k) (n := n / 4294967296) (Nat.div_lt_of_lt_mul (by rw [Nat.pow_succ] at h; rw [Nat.mul_comm]; exact h))
      omega
theorem Sm.len {z : Int} {k : Nat} (h : Sm z k) (hk : k ≤ 1000) : len z.natAbs ≤ 1099511627775 := Nat.le_trans (len_le_pow h) (by omega)
theorem Sm.mono {z : Int} {k j : Nat} (h : Sm z k) (hk : k ≤ j) : Sm z j := Nat.lt_of_lt_of_le h (Nat.pow_le_pow_right (by decide) hk)
theorem Sm.neg {z : Int} {k : Nat} (h : Sm z k) : Sm (-z) k := by unfold Sm; rw [Int.natAbs_neg]; exact h
theorem Sm.add {x y : Int} {i j : Nat} (hx : Sm x i) (hy : Sm y j) : Sm (x + y) (max i j + 1) := by
  have h1 := hx.mono (Nat.le_max_left i j)
  have h2 := hy.mono (Nat.le_max_right i j)
  unfold Sm at *
  have := Int.natAbs_add_le x y
  rw [Nat.pow_succ]
  omega
theorem Sm.sub {x y : Int} {i j : Nat} (hx : Sm x i) (hy : Sm y j) : Sm (x - y) (max i j + 1) := by
  rw [Int.sub_eq_add_neg]
  exact hx.add hy.neg
theorem Sm.mul {x y : Int} {i j : Nat} (hx : Sm x i) (hy : Sm y j) : Sm (x * y) (i + j) := by
  unfold Sm at *
  rw [Int.natAbs_mul, Nat.pow_add]
  exact Nat.mul_lt_mul'' hx hy
theorem Sm.of (z : Int) (h : z.natAbs < 18446744073709551616) : Sm z 2 := by unfold Sm; exact Nat.lt_of_lt_of_le h (by decide)

section
variable {w : World} {va vb : Value} {x y : Int} {i j : Nat}
theorem cOf (z : Int) (h0 : -9223372036854775808 ≤ z) (h1 : z ≤ 9223372036854775807) : Calls Tryd.prog 12 #[.int .i64 z] w fun e w' => ∃ v, e = .returned v ∧ IntAt w' v z ∧ Below w.heap.size w w' := Of_any z w h0 h1
theorem cMul (ha : IntAt w va x) (hb : IntAt w vb y) (sx : Sm x i) (sy : Sm y j) (hi : i ≤ 1000) (hj : j ≤ 1000) : Calls Tryd.prog 40 #[va, vb] w fun e w' => ∃ v, e = .returned v ∧ IntAt w' v (x * y) ∧ Below w.heap.size w w' :=
  Mul_any va vb x y w ha hb (Nat.le_trans (sx.len hi) (by decide)) (Nat.le_trans (sy.len hj) (by decide))
theorem cSign (ha : IntAt w va x) (sx : Sm x i) (hi : i ≤ 1000) : Calls Tryd.prog 17 #[va] w fun e w' => ∃ v, e = .returned v ∧ v = .int .i64 x.sign ∧ Below w.heap.size w w' :=
  (Sign_any va x w ha (Nat.le_trans (sx.len hi) (by decide))).mono fun _ _ ⟨he, hb⟩ => ⟨_, he, rfl, hb⟩
theorem cSame (ha : IntAt w va x) (hb : IntAt w vb y) (sx : Sm x i) (sy : Sm y j) (hi : i ≤ 1000) (hj : j ≤ 1000) : Calls Tryd.prog 10 #[va, vb] w fun e w' => ∃ v, e = .returned v ∧ v = .bool (decide (x = y)) ∧ Below w.heap.size w w' :=
  (Same_any va vb x y w ha hb (Nat.le_trans (sx.len hi) (by decide)) (Nat.le_trans (sy.len hj) (by decide))).mono fun _ _ ⟨he, hb⟩ => ⟨_, he, rfl, hb⟩
theorem cSameT (ha : IntAt w va x) (hb : IntAt w vb y) (sx : Sm x i) (sy : Sm y j) (hi : i ≤ 1000) (hj : j ≤ 1000) (e : x = y) : Calls Tryd.prog 10 #[va, vb] w fun e w' => ∃ v, e = .returned v ∧ v = .bool true ∧ Below w.heap.size w w' := by
  have := cSame ha hb sx sy hi hj
  rw [decide_eq_true e] at this
  exact this
end

section
variable {a : Act} {w : World} {o : Oper}
theorem run_callMul {x y : Nat} {vx vy : Value} (hx : a.tmps[x]? = some vx) (hy : a.tmps[y]? = some vy) (ho : o.op = .call { callee := .value (.func 40), args := #[.tmp x, .tmp y], argTypes := #[27, 27] }) : (execOp a.eval o).run Tryd.prog w = .ok (.enter 40 #[vx, vy]) w := by
  unfold execOp; rw [ho]; simp [go_sem, hx, hy]
theorem run_loadB {t g : Nat} {b : Bool} {A : Option Addr} {k c : Nat} {z : Int} {W0 : World} (hbx : BoxI W0 g (.agg #[.bool b, .slice A k c]) z) (hB : Below W0.heap.size W0 w) (h : a.tmps[t]? = some (.pointer (some ⟨g, 0, none⟩))) (ho : o.op = .load 27 (.tmp t)) : (execOp a.eval o).run Tryd.prog w = .ok (.value (.agg #[.bool b, .slice A k c])) w :=
  run_loadI h (hbx.into hB).cells.1 (hbx.into hB).cells.2 ho
theorem run_pickOrT {c y : Nat} (hc : a.tmps[c]? = some (.bool true)) (ho : o.op = .pick (.tmp c) (.const (.bool true)) (.tmp y)) : (execOp a.eval o).run Tryd.prog w = .ok (.value (.bool true)) w := by
  unfold execOp; rw [ho]; simp [go_sem, hc]
theorem run_pickOrF {c y : Nat} {x : Bool} (hc : a.tmps[c]? = some (.bool false)) (hy : a.tmps[y]? = some (.bool x)) (ho : o.op = .pick (.tmp c) (.const (.bool true)) (.tmp y)) : (execOp a.eval o).run Tryd.prog w = .ok (.value (.bool x)) w := by
  unfold execOp; rw [ho]; simp [go_sem, hc, hy]
theorem run_eqB {c d : Nat} {x y : Bool} (hc : a.tmps[c]? = some (.bool x)) (hd : a.tmps[d]? = some (.bool y)) (ho : o.op = .binOp .eql 4 (.tmp c) (.tmp d) 4) : (execOp a.eval o).run Tryd.prog w = .ok (.value (.bool (x == y))) w := by
  unfold execOp; rw [ho]; cases x <;> cases y <;> simp [go_sem, hc, hd]
theorem run_eqII {c d ty y2 : Nat} {k : IntKind} {x y : Int} (hc : a.tmps[c]? = some (.int k x)) (hd : a.tmps[d]? = some (.int k y)) (ho : o.op = .binOp .eql ty (.tmp c) (.tmp d) y2) : (execOp a.eval o).run Tryd.prog w = .ok (.value (.bool (x == y))) w := by
  unfold execOp; rw [ho]; simp [go_sem, hc, hd]
theorem run_mulII {c d : Nat} {x y z : Int} (hc : a.tmps[c]? = some (.int .i64 x)) (hd : a.tmps[d]? = some (.int .i64 y)) (hz : IntKind.i64.wrap (x * y) = z) (ho : o.op = .binOp .mul 3 (.tmp c) (.tmp d) 3) : (execOp a.eval o).run Tryd.prog w = .ok (.value (.int .i64 z)) w := by
  unfold execOp; rw [ho]; simp [go_sem, hc, hd, hz]
end
end Go.Proofs.YtdofolejfdfocaaDoor
namespace Go.Proofs.YtdofolejfdfocaaDoor
open Go.RowKit

section
variable {ops : Array Oper} {Q : Exit → Act → World → Prop} {a0 a : Act} {w W0 : World} {N L : Nat}
theorem seqP {d i : Nat} {rest : List Nat} {g : Option (Nat × Bool)} {op : Op} {v : Value} (ho : OpIs ops i d g op) (hg : ∀ o : Oper, o.guard = g → Region.wanted o (yielded ops a.tmps) = true)
    (hr : ∀ o : Oper, o.op = op → (execOp a.eval o).run Tryd.prog w = .ok (.value v) w) (hF : Fr N L a0 a) (hd1 : L ≤ d) (hd2 : d < N)
    (next : ∀ a', Fr N L a0 a' → a'.tmps[d]? = some v → (∀ t u, d ≠ t → a.tmps[t]? = some u → a'.tmps[t]? = some u) → wpOps Tryd.prog ops Q rest a' w) : wpOps Tryd.prog ops Q (i :: rest) a w := by
  rw [wpOps_cons]
  exact wpOp_value ho hg hr (next _ (hF.put hd1 _) (get_put_same _ (by rw [hF.size]; exact hd2)) (fun t u ht h => (get_put_ne _ ht).trans h))
theorem wpOp_skip {k d : Nat} {g : Option (Nat × Bool)} {op : Op} {K : Act → World → Prop} (ho : OpIs ops k d g op)
    (hg : ∀ o : Oper, o.guard = g → Region.wanted o (yielded ops a.tmps) = false) (h : K (a.put (some d) undef) w) : wpOp Tryd.prog ops Q k K a w := by
  obtain ⟨o, ho, hd, hgd, hop⟩ := ho.get
  unfold wpOp
  simp only [ho]
  rw [if_neg (by rw [hg o hgd]; exact Bool.false_ne_true), hd]
  exact h
theorem seqS {d i : Nat} {rest : List Nat} {g : Option (Nat × Bool)} {op : Op} (ho : OpIs ops i d g op) (hg : ∀ o : Oper, o.guard = g → Region.wanted o (yielded ops a.tmps) = false)
    (hF : Fr N L a0 a) (hd1 : L ≤ d)
    (next : ∀ a', Fr N L a0 a' → (∀ t u, d ≠ t → a.tmps[t]? = some u → a'.tmps[t]? = some u) → wpOps Tryd.prog ops Q rest a' w) : wpOps Tryd.prog ops Q (i :: rest) a w := by
  rw [wpOps_cons]
  exact wpOp_skip ho hg (next _ (hF.put hd1 _) (fun t u ht h => (get_put_ne _ ht).trans h))
theorem seqC {d i f : Nat} {rest : List Nat} {g : Option (Nat × Bool)} {op : Op} {vs : Array Value} (R : Value → World → Prop) (ho : OpIs ops i d g op) (hg : ∀ o : Oper, o.guard = g → Region.wanted o (yielded ops a.tmps) = true)
    (hr : ∀ o : Oper, o.op = op → (execOp a.eval o).run Tryd.prog w = .ok (.enter f vs) w) (hF : Fr N L a0 a) (hd1 : L ≤ d) (hd2 : d < N) (hB : Below W0.heap.size W0 w)
    (hc : Calls Tryd.prog f vs w fun e w' => ∃ v, e = .returned v ∧ R v w' ∧ Below w.heap.size w w')
    (next : ∀ v a' w', Fr N L a0 a' → a'.tmps[d]? = some v → (∀ t u, d ≠ t → a.tmps[t]? = some u → a'.tmps[t]? = some u) → R v w' → Below w.heap.size w w' → Below W0.heap.size W0 w' → wpOps Tryd.prog ops Q rest a' w') : wpOps Tryd.prog ops Q (i :: rest) a w := by
  rw [wpOps_cons]
  refine wpOp_call ho hg hr (hc.mono ?_)
  rintro e w' ⟨v, rfl, hR, hb⟩
  exact ⟨v, rfl, next v _ w' (hF.put hd1 _) (get_put_same _ (by rw [hF.size]; exact hd2)) (fun t u ht h => (get_put_ne _ ht).trans h) hR hb (step_below hB hb)⟩
theorem seqEnd {d i : Nat} {op : Op} {v : Value} (ho : OpIs ops i d none op)
    (hr : ∀ o : Oper, o.op = op → (execOp a.eval o).run Tryd.prog w = .ok (.value v) w) (hF : Fr N L a0 a) (hd2 : d < N) (hB : Below W0.heap.size W0 w)
    (fin : ∀ a' w', a'.tmps.size = N → (∀ t, t < L → d ≠ t → a'.tmps[t]? = a0.tmps[t]?) → a'.tmps[d]? = some v → a'.defers = a0.defers → Below W0.heap.size W0 w' → Q .normal a' w') : wpOps Tryd.prog ops Q [i] a w := by
  rw [wpOps_cons]
  refine wpOp_value ho guard_none hr ?_
  show Q .normal _ _
  exact fin _ _ (by simp [Act.put, hF.size]) (fun t ht hne => (get_put_ne _ hne).trans (hF.low t ht)) (get_put_same _ (by rw [hF.size]; exact hd2)) (by simp [Act.put, hF.defers]) hB
end

section
variable {a : Act} {w : World} {o : Oper}
theorem run_neg' {c : Nat} {x z : Int} (hc : a.tmps[c]? = some (.int .i64 x)) (hz : IntKind.i64.wrap (-x) = z) (ho : o.op = .unOp .neg 3 (.tmp c)) : (execOp a.eval o).run Tryd.prog w = .ok (.value (.int .i64 z)) w := by
  unfold execOp; rw [ho]; simp [go_sem, hc, hz]
theorem run_gtrC {c : Nat} {x y : Int} (hc : a.tmps[c]? = some (.int .i64 x)) (ho : o.op = .binOp .gtr 3 (.tmp c) (.const (.int .i64 y)) 3) : (execOp a.eval o).run Tryd.prog w = .ok (.value (.bool (decide (y < x)))) w := by
  unfold execOp; rw [ho]; simp [go_sem, hc]
theorem run_leqC {c : Nat} {x y : Int} (hc : a.tmps[c]? = some (.int .i64 x)) (ho : o.op = .binOp .leq 3 (.tmp c) (.const (.int .i64 y)) 3) : (execOp a.eval o).run Tryd.prog w = .ok (.value (.bool (decide (x ≤ y)))) w := by
  unfold execOp; rw [ho]; simp [go_sem, hc]
theorem run_geqC {c : Nat} {x y : Int} (hc : a.tmps[c]? = some (.int .i64 x)) (ho : o.op = .binOp .geq 3 (.tmp c) (.const (.int .i64 y)) 3) : (execOp a.eval o).run Tryd.prog w = .ok (.value (.bool (decide (y ≤ x)))) w := by
  unfold execOp; rw [ho]; simp [go_sem, hc]
end

/-! ### What a comparison answers -/
theorem cmp_three (a b : Int) : (a < b ∧ cmpI a b = -1) ∨ (a = b ∧ cmpI a b = 0) ∨ (b < a ∧ cmpI a b = 1) := by
  rcases Int.lt_trichotomy a b with h | h | h
  · exact .inl ⟨h, cmpI_lt h⟩
  · exact .inr (.inl ⟨h, cmpI_eq h⟩)
  · exact .inr (.inr ⟨h, cmpI_gt h⟩)
theorem cmp_neg (a b : Int) : IntKind.i64.wrap (-(cmpI b a)) = cmpI a b := by
  rcases cmp_three a b with ⟨h, e⟩ | ⟨h, e⟩ | ⟨h, e⟩
  · rw [e, cmpI_gt h]; decide
  · rw [e, cmpI_eq h.symm]; decide
  · rw [e, cmpI_lt h]; decide
theorem cmp_zero (a b : Int) : ((cmpI a b == 0) == decide (a = b)) = true := by
  rcases cmp_three a b with ⟨h, e⟩ | ⟨h, e⟩ | ⟨h, e⟩
  · rw [e, decide_eq_false (by omega)]; decide
  · rw [e, decide_eq_true h]; decide
  · rw [e, decide_eq_false (by omega)]; decide
theorem cmp_ge (a b : Int) : decide (-1 ≤ cmpI a b) = true := by
  rcases cmp_three a b with ⟨_, e⟩ | ⟨_, e⟩ | ⟨_, e⟩ <;> rw [e] <;> decide
theorem cmp_le (a b : Int) : decide (cmpI a b ≤ 1) = true := by
  rcases cmp_three a b with ⟨_, e⟩ | ⟨_, e⟩ | ⟨_, e⟩ <;> rw [e] <;> decide
theorem cmp_sign (a b : Int) : (cmpI a b == Int.sign (a - b)) = true := by
  rcases cmp_three a b with ⟨h, e⟩ | ⟨h, e⟩ | ⟨h, e⟩
  · rw [e, Int.sign_eq_neg_one_of_neg (by omega)]; decide
  · rw [e, h, Int.sub_self]; decide
  · rw [e, Int.sign_eq_one_of_pos (by omega)]; decide
theorem cmp_self (x : Int) : (x == x) = true := by simp
theorem cmp_gt {a b : Int} (h : b < a) : decide (0 < cmpI a b) = true := by rw [cmpI_gt h]; decide
theorem cmp_ngt {a b : Int} (h : ¬ b < a) : decide (0 < cmpI a b) = false := by
  rcases cmp_three a b with ⟨_, e⟩ | ⟨_, e⟩ | ⟨h', _⟩
  · rw [e]; decide
  · rw [e]; decide
  · exact absurd h' h
theorem cmp_nle {a b : Int} (h : a ≤ b) : decide (cmpI a b ≤ 0) = true := by
  rcases cmp_three a b with ⟨_, e⟩ | ⟨_, e⟩ | ⟨h', _⟩
  · rw [e]; decide
  · rw [e]; decide
  · exact absurd h' (by omega)
theorem cmp_of {a b a' b' : Int} (h1 : a < b → a' < b') (h2 : a = b → a' = b') (h3 : b < a → b' < a') : cmpI a' b' = cmpI a b := by
  rcases cmp_three a b with ⟨h, e⟩ | ⟨h, e⟩ | ⟨h, e⟩
  · rw [e, cmpI_lt (h1 h)]
  · rw [e, cmpI_eq (h2 h)]
  · rw [e, cmpI_gt (h3 h)]
theorem cmp_add (a b c : Int) : (cmpI (a + c) (b + c) == cmpI a b) = true := by
  rw [cmp_of (a := a) (b := b) (by omega) (by omega) (by omega)]
  simp
theorem cmp_mul (a b c : Int) : (cmpI (a * c) (b * c) == cmpI a b * Int.sign c) = true := by
  rcases Int.lt_trichotomy c 0 with h | h | h
  · rw [Int.sign_eq_neg_one_of_neg h]
    have : cmpI (a * c) (b * c) = cmpI b a := cmp_of (fun h' => Int.mul_lt_mul_of_neg_right h' h) (fun h' => by rw [h']) (fun h' => Int.mul_lt_mul_of_neg_right h' h)
    rw [this]
    rcases cmp_three a b with ⟨h, e⟩ | ⟨h, e⟩ | ⟨h, e⟩
    · rw [e, cmpI_gt h]; decide
    · rw [e, cmpI_eq h.symm]; decide
    · rw [e, cmpI_lt h]; decide
  · subst h
    rw [Int.mul_zero, Int.mul_zero, cmpI_eq rfl]
    simp
  · rw [Int.sign_eq_one_of_pos h]
    have : cmpI (a * c) (b * c) = cmpI a b := cmp_of (fun h' => Int.mul_lt_mul_of_pos_right h' h) (fun h' => by rw [h']) (fun h' => Int.mul_lt_mul_of_pos_right h' h)
    rw [this]
    simp
theorem cmp_wrap (a b c : Int) : IntKind.i64.wrap (cmpI a b * Int.sign c) = cmpI a b * Int.sign c := by
  have hs : Int.sign c = -1 ∨ Int.sign c = 0 ∨ Int.sign c = 1 := by
    rcases Int.lt_trichotomy c 0 with h | h | h
    · exact .inl (Int.sign_eq_neg_one_of_neg h)
    · subst h; exact .inr (.inl rfl)
    · exact .inr (.inr (Int.sign_eq_one_of_pos h))
  rcases cmp_three a b with ⟨_, e⟩ | ⟨_, e⟩ | ⟨_, e⟩ <;> rcases hs with s | s | s <;> rw [e, s] <;> decide
end Go.Proofs.YtdofolejfdfocaaDoor
namespace Go.Proofs.YtdofolejfdfocaaDoor
open Go.RowKit

/-- The fixed examples hold in every world with the table. -/
def Sanity : Prop := ∀ w : World, P10 w → Calls Tryd.prog 4 #[] w fun e w' => e = .returned (.bool true) ∧ Below w.heap.size w w'
theorem cells2 {w : World} {g : Nat} {x y : Value} {T : TypeId} (h : w.heap[g]? = some (.cells #[x, y] T (0, 0))) : w.cell? ⟨g, 0, none⟩ = some x ∧ w.cell? ⟨g, 1, none⟩ = some y :=
  ⟨by rw [cell_of_row w g 0 _ _ (0, 0) h]; rfl, by rw [cell_of_row w g 1 _ _ (0, 0) h]; rfl⟩
theorem RawMem.more_ {w : World} {B B' : Nat} {A : Option Addr} {ms : List Nat} (h : RawMem w B A ms) (hB : B ≤ B') : RawMem w B' A ms := fun hn => by
  obtain ⟨ad, e, hb, hc⟩ := h hn
  exact ⟨ad, e, by omega, hc⟩
theorem lt_of_some {w : World} {g : Nat} {o : Obj} (h : w.heap[g]? = some o) : g < w.heap.size := by
  rcases Nat.lt_or_ge g w.heap.size with hlt | hge
  · exact hlt
  · rw [Array.getElem?_eq_none hge] at h; cases h

end Go.Proofs.YtdofolejfdfocaaDoor
