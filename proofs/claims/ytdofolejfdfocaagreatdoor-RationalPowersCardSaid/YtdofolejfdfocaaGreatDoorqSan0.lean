/- Facts for the fixed examples: boxes of integers, and the examples' calls. -/
import Derived.Test.YtdofolejfdfocaaGreatDoorqR3
import Derived.Test.YtdofolejfdfocaaGreatDoorqTx
import Derived.Test.YtdofolejfdfocaaGreatDoorqPow
import Derived.Deep.RegionHeld3
namespace Go.Proofs.YtdofolejfdfocaaGreatDoor
open Go.RowKit

/-- A box with an integer. -/
def BoxI (w : World) (g : Nat) (v : Value) (z : Int) : Prop := ∃ b A k c, v = .agg #[.bool b, .slice A k c] ∧ w.heap[g]? = some (.cells #[.bool b, .slice A k c] 27 (0, 0)) ∧ IntAt w v z
theorem BoxI.lt {w : World} {g : Nat} {v : Value} {z : Int} (h : BoxI w g v z) : g < w.heap.size := by
  obtain ⟨b, A, k, c, _, h, _⟩ := h
  rcases Nat.lt_or_ge g w.heap.size with hlt | hge
  · exact hlt
  · rw [Array.getElem?_eq_none hge] at h; cases h
theorem BoxI.into {w w' : World} {g : Nat} {v : Value} {z : Int} (h : BoxI w g v z) (hb : Below w.heap.size w w') : BoxI w' g v z := by
  have hl := h.lt
  obtain ⟨b, A, k, c, e, h, hi⟩ := h
  exact ⟨b, A, k, c, e, (hb.block g hl).trans h, hi.into hb⟩
theorem BoxI.cells {w : World} {g : Nat} {b : Bool} {A : Option Addr} {k c : Nat} {z : Int} (h : BoxI w g (.agg #[.bool b, .slice A k c]) z) : w.cell? ⟨g, 0, none⟩ = some (.bool b) ∧ w.cell? ⟨g, 1, none⟩ = some (.slice A k c) := by
  obtain ⟨b', A', k', c', e, h, hi⟩ := h
  cases e
  obtain ⟨h0, h1, _, _, _⟩ := box_in h (Below.refl _ _)
  exact ⟨h0, h1⟩
theorem BoxI.int {w : World} {g : Nat} {v : Value} {z : Int} (h : BoxI w g v z) : IntAt w v z := by
  obtain ⟨b', A', k', c', e, h, hi⟩ := h
  exact hi
end Go.Proofs.YtdofolejfdfocaaGreatDoor
namespace Go.Proofs.YtdofolejfdfocaaGreatDoor
open Go.RowKit

/-- The first k of N operations have come up. -/
def mask (N k : Nat) : Array Bool := ((List.range N).map fun i => decide (i < k)).toArray
theorem mask_set (N k : Nat) : (mask N k).setIfInBounds k true = mask N (k + 1) := by
  apply Array.ext_getElem?
  intro j
  by_cases hj : j < N
  · by_cases hjk : k = j
    · subst hjk
      simp [mask, hj]
    · simp [mask, hj, hjk]
      by_cases h2 : j < k
      · simp [h2] <;> omega
      · simp [h2] <;> omega
  · simp [mask, hj]
section
variable {P : Program} {ops : Array Oper} {Q : Exit → Act → World → Prop} {S : World → Prop}

/-- Behind the first k operations. -/
def At (P : Program) (ops : Array Oper) (Q : Exit → Act → World → Prop) (S : World → Prop) (k : Nat) (a : Act) (w : World) : Prop :=
  wpAnyH P .any ops Q S (ops.size - k) (mask ops.size k) a w
def pureAt (ops : Array Oper) (k : Nat) : Bool := Region.free .any ops (mask ops.size k) k && (Region.ready .any ops (mask ops.size k)).contains k && decide (k < ops.size)
def nextAt (ops : Array Oper) (k : Nat) : Bool := (Region.ready .any ops (mask ops.size k) == [k]) && decide (k < ops.size)

/-- What an operation must be told of: where it writes, its guard, what it is. -/
def OpIs (ops : Array Oper) (k d : Nat) (g : Option (Nat × Bool)) (op : Op) : Prop := (ops[k]?).map (fun o => (o.dst, o.guard, o.op)) = some (some d, g, op)
theorem OpIs.get {k d : Nat} {g : Option (Nat × Bool)} {op : Op} (h : OpIs ops k d g op) : ∃ o, ops[k]? = some o ∧ o.dst = some d ∧ o.guard = g ∧ o.op = op := by
  unfold OpIs at h
  rw [Option.map_eq_some_iff] at h
  obtain ⟨o, ho, h⟩ := h
  simp only [Prod.mk.injEq] at h
  exact ⟨o, ho, h.1, h.2.1, h.2.2⟩

theorem At.pure {k d : Nat} {g : Option (Nat × Bool)} {op : Op} {v : Value} {a : Act} {w : World} (hn : Region.noSelect ops = true) (hk : pureAt ops k = true) (ho : OpIs ops k d g op)
    (hQ : ∀ c d v a w, Q (.panic c) (a.put d v) w → Q (.panic c) a w)
    (hg : ∀ o : Oper, o.guard = g → Region.wanted o (yielded ops a.tmps) = true) (hr : ∀ o : Oper, o.op = op → ∀ w, S w → (execOp a.eval o).run P w = .ok (.value v) w) (hS : S w)
    (h : At P ops Q S (k + 1) (a.put (some d) v) w) : At P ops Q S k a w := by
  obtain ⟨o, ho, hd, hgd, hop⟩ := ho.get
  simp only [pureAt, Bool.and_eq_true, decide_eq_true_eq] at hk
  unfold At
  rw [show ops.size - k = (ops.size - (k + 1)) + 1 by omega]
  refine wpAnyH_take ho hn hk.1.1 hk.1.2 (fun c a w => hQ c _ _ a w) (.inl ⟨hg o hgd, hr o hop⟩) hS ?_
  rw [mask_set, hd]
  exact h
theorem At.next {k : Nat} {a : Act} {w : World} (hk : nextAt ops k = true) (h : wpOp P ops Q k (fun a' w' => S w' ∧ At P ops Q S (k + 1) a' w') a w) : At P ops Q S k a w := by
  simp only [nextAt, Bool.and_eq_true, decide_eq_true_eq, beq_iff_eq] at hk
  unfold At
  rw [show ops.size - k = (ops.size - (k + 1)) + 1 by omega]
  refine wpAnyH_all hk.1 (by simp) fun i hi => ?_
  obtain rfl : i = k := by simpa using hi
  rw [mask_set]
  exact h
theorem wpOp_value {k d : Nat} {g : Option (Nat × Bool)} {op : Op} {v : Value} {a : Act} {w w1 : World} {K : Act → World → Prop} (ho : OpIs ops k d g op)
    (hg : ∀ o : Oper, o.guard = g → Region.wanted o (yielded ops a.tmps) = true) (hr : ∀ o : Oper, o.op = op → (execOp a.eval o).run P w = .ok (.value v) w1)
    (h : K (a.put (some d) v) w1) : wpOp P ops Q k K a w := by
  obtain ⟨o, ho, hd, hgd, hop⟩ := ho.get
  unfold wpOp
  simp only [ho]
  rw [if_pos (hg o hgd)]
  left
  unfold Oper.wp
  rw [hr o hop, Oper.upon_value, hd]
  exact h
theorem wpOp_call {k d : Nat} {f : FuncId} {g : Option (Nat × Bool)} {op : Op} {vs : Array Value} {a : Act} {w : World} {K : Act → World → Prop} (ho : OpIs ops k d g op)
    (hg : ∀ o : Oper, o.guard = g → Region.wanted o (yielded ops a.tmps) = true) (hr : ∀ o : Oper, o.op = op → (execOp a.eval o).run P w = .ok (.enter f vs) w)
    (h : Calls P f vs w fun e w' => ∃ v, e = .returned v ∧ K (a.put (some d) v) w') : wpOp P ops Q k K a w := by
  obtain ⟨o, ho, hd, hgd, hop⟩ := ho.get
  unfold wpOp
  simp only [ho]
  rw [if_pos (hg o hgd)]
  left
  unfold Oper.wp
  rw [hr o hop, Oper.upon_enter, hd]
  exact h.mono fun e w' ⟨v, he, h⟩ => by subst he; exact h
theorem At.call {k d : Nat} {f : FuncId} {g : Option (Nat × Bool)} {op : Op} {vs : Array Value} {a : Act} {w : World} (hk : nextAt ops k = true) (ho : OpIs ops k d g op)
    (hg : ∀ o : Oper, o.guard = g → Region.wanted o (yielded ops a.tmps) = true) (hr : ∀ o : Oper, o.op = op → (execOp a.eval o).run P w = .ok (.enter f vs) w)
    (h : Calls P f vs w fun e w' => ∃ v, e = .returned v ∧ S w' ∧ At P ops Q S (k + 1) (a.put (some d) v) w') : At P ops Q S k a w :=
  At.next hk (wpOp_call ho hg hr h)
theorem At.value {k d : Nat} {g : Option (Nat × Bool)} {op : Op} {v : Value} {a : Act} {w w1 : World} (hk : nextAt ops k = true) (ho : OpIs ops k d g op)
    (hg : ∀ o : Oper, o.guard = g → Region.wanted o (yielded ops a.tmps) = true) (hr : ∀ o : Oper, o.op = op → (execOp a.eval o).run P w = .ok (.value v) w1)
    (hS : S w1) (h : At P ops Q S (k + 1) (a.put (some d) v) w1) : At P ops Q S k a w :=
  At.next hk (wpOp_value ho hg hr ⟨hS, h⟩)
theorem At.done {k : Nat} {a : Act} {w : World} (hk : (Region.ready .any ops (mask ops.size k) == []) = true) (h : Q .normal a w) : At P ops Q S k a w := by
  unfold At
  exact wpAnyH_done (by simpa using hk) h _
end

/-- What is known of a frame: its size, its slots below L as they were, and slot g. -/
structure Fr (N L : Nat) (a0 a : Act) : Prop where
  size : a.tmps.size = N
  low : ∀ t, t < L → a.tmps[t]? = a0.tmps[t]?
  defers : a.defers = a0.defers
theorem Fr.put {N L : Nat} {a0 a : Act} (h : Fr N L a0 a) {d : Nat} (hd : L ≤ d) (v : Value) : Fr N L a0 (a.put (some d) v) :=
  ⟨by simp [Act.put, h.size], fun t ht => by
    have : ¬ d = t := by omega
    simp [Act.put, this, h.low t ht], h.defers⟩
theorem get_put_same {a : Act} {d : Nat} (v : Value) (h : d < a.tmps.size) : (a.put (some d) v).tmps[d]? = some v := by simp [Act.put, h]
theorem get_put_ne {a : Act} {d t : Nat} (v : Value) (h : d ≠ t) : (a.put (some d) v).tmps[t]? = a.tmps[t]? := by simp [Act.put, h]
theorem eval_of {a : Act} {t : Nat} {v : Value} (h : a.tmps[t]? = some v) : a.eval (.tmp t) = v := by
  simp [Act.eval, Array.getD_eq_getD_getElem?, h]
theorem guard_none {ops : Array Oper} {a : Act} (o : Oper) (h : o.guard = none) : Region.wanted o (yielded ops a.tmps) = true := by simp [Region.wanted, h]
end Go.Proofs.YtdofolejfdfocaaGreatDoor
namespace Go.Proofs.YtdofolejfdfocaaGreatDoor
open Go.RowKit

section
variable {a : Act} {w : World} {o : Oper}
end
end Go.Proofs.YtdofolejfdfocaaGreatDoor
namespace Go.Proofs.YtdofolejfdfocaaGreatDoor
open Go.RowKit

/-- Those of N operations that have come up. -/
def maskO (N : Nat) (l : List Nat) : Array Bool := ((List.range N).map fun i => l.contains i).toArray
section
variable {P : Program} {ops : Array Oper} {Q : Exit → Act → World → Prop} {W0 : World} {a0 a : Act} {w : World} {N L : Nat}

end

/-! ### Numbers of few limbs -/
/-- Below k limbs. -/
def Sm (z : Int) (k : Nat) : Prop := z.natAbs < 4294967296 ^ k
theorem len_le_pow : ∀ {k n : Nat}, n < 4294967296 ^ k → len n ≤ k
  | 0, n, h => by
    obtain rfl : n = 0 := by simpa using h
    rw [len_zero]
    exact Nat.le_refl _
  | k + 1, n, h => by
    rcases Nat.eq_zero_or_pos n with rfl | h0
    · rw [len_zero]; exact Nat.zero_le _
    · rw [len_pos h0]
      have := len_le_pow (k := k) (n := n / 4294967296) (Nat.div_lt_of_lt_mul (by rw [Nat.pow_succ] at h; rw [Nat.mul_comm]; exact h))
      omega
theorem Sm.len {z : Int} {k : Nat} (h : Sm z k) (hk : k ≤ 1000) : len z.natAbs ≤ 1099511627775 := Nat.le_trans (len_le_pow h) (by omega)
theorem Sm.mono {z : Int} {k j : Nat} (h : Sm z k) (hk : k ≤ j) : Sm z j := Nat.lt_of_lt_of_le h (Nat.pow_le_pow_right (by decide) hk)
theorem Sm.neg {z : Int} {k : Nat} (h : Sm z k) : Sm (-z) k := by unfold Sm; rw [Int.natAbs_neg]; exact h
theorem Sm.add {x y : Int} {i j : Nat} (hx : Sm x i) (hy : Sm y j) : Sm (x + y) (max i j + 1) := by
  have h1 := hx.mono (Nat.le_max_left i j)
  have h2 := hy.mono (Nat.le_max_right i j)
  unfold Sm at *
  have := Int.natAbs_add_le x y
  rw [Nat.pow_succ]
  omega
theorem Sm.sub {x y : Int} {i j : Nat} (hx : Sm x i) (hy : Sm y j) : Sm (x - y) (max i j + 1) := by
  rw [Int.sub_eq_add_neg]
  exact hx.add hy.neg
theorem Sm.mul {x y : Int} {i j : Nat} (hx : Sm x i) (hy : Sm y j) : Sm (x * y) (i + j) := by
  unfold Sm at *
  rw [Int.natAbs_mul, Nat.pow_add]
  exact Nat.mul_lt_mul'' hx hy
theorem Sm.of (z : Int) (h : z.natAbs < 18446744073709551616) : Sm z 2 := by unfold Sm; exact Nat.lt_of_lt_of_le h (by decide)

section
variable {w : World} {va vb : Value} {x y : Int} {i j : Nat}
theorem cOf (z : Int) (h0 : -9223372036854775808 ≤ z) (h1 : z ≤ 9223372036854775807) : Calls Tryz.prog 59 #[.int .i64 z] w fun e w' => ∃ v, e = .returned v ∧ IntAt w' v z ∧ Below w.heap.size w w' := Of_any z w h0 h1
theorem cAdd (ha : IntAt w va x) (hb : IntAt w vb y) (sx : Sm x i) (sy : Sm y j) (hi : i ≤ 1000) (hj : j ≤ 1000) : Calls Tryz.prog 103 #[va, vb] w fun e w' => ∃ v, e = .returned v ∧ IntAt w' v (x + y) ∧ Below w.heap.size w w' :=
  Add_any va vb x y w ha hb (Nat.le_trans (sx.len hi) (by decide)) (Nat.le_trans (sy.len hj) (by decide))
theorem cMul (ha : IntAt w va x) (hb : IntAt w vb y) (sx : Sm x i) (sy : Sm y j) (hi : i ≤ 1000) (hj : j ≤ 1000) : Calls Tryz.prog 58 #[va, vb] w fun e w' => ∃ v, e = .returned v ∧ IntAt w' v (x * y) ∧ Below w.heap.size w w' :=
  Mul_any va vb x y w ha hb (Nat.le_trans (sx.len hi) (by decide)) (Nat.le_trans (sy.len hj) (by decide))
theorem cNeg (ha : IntAt w va x) (sx : Sm x i) (hi : i ≤ 1000) : Calls Tryz.prog 48 #[va] w fun e w' => ∃ v, e = .returned v ∧ IntAt w' v (-x) ∧ Below w.heap.size w w' :=
  Neg_any va x w ha (Nat.le_trans (sx.len hi) (by decide))
theorem cSign (ha : IntAt w va x) (sx : Sm x i) (hi : i ≤ 1000) : Calls Tryz.prog 46 #[va] w fun e w' => ∃ v, e = .returned v ∧ v = .int .i64 x.sign ∧ Below w.heap.size w w' :=
  (Sign_any va x w ha (Nat.le_trans (sx.len hi) (by decide))).mono fun _ _ ⟨he, hb⟩ => ⟨_, he, rfl, hb⟩
theorem cCmp (ha : IntAt w va x) (hb : IntAt w vb y) (sx : Sm x i) (sy : Sm y j) (hi : i ≤ 1000) (hj : j ≤ 1000) : Calls Tryz.prog 60 #[va, vb] w fun e w' => ∃ v, e = .returned v ∧ v = .int .i64 (cmpI x y) ∧ Below w.heap.size w w' :=
  (Cmp_any va vb x y w ha hb (Nat.le_trans (sx.len hi) (by decide)) (Nat.le_trans (sy.len hj) (by decide))).mono fun _ _ ⟨he, hb⟩ => ⟨_, he, rfl, hb⟩
theorem cSame (ha : IntAt w va x) (hb : IntAt w vb y) (sx : Sm x i) (sy : Sm y j) (hi : i ≤ 1000) (hj : j ≤ 1000) : Calls Tryz.prog 31 #[va, vb] w fun e w' => ∃ v, e = .returned v ∧ v = .bool (decide (x = y)) ∧ Below w.heap.size w w' :=
  (Same_any va vb x y w ha hb (Nat.le_trans (sx.len hi) (by decide)) (Nat.le_trans (sy.len hj) (by decide))).mono fun _ _ ⟨he, hb⟩ => ⟨_, he, rfl, hb⟩
theorem cSameT (ha : IntAt w va x) (hb : IntAt w vb y) (sx : Sm x i) (sy : Sm y j) (hi : i ≤ 1000) (hj : j ≤ 1000) (e : x = y) : Calls Tryz.prog 31 #[va, vb] w fun e w' => ∃ v, e = .returned v ∧ v = .bool true ∧ Below w.heap.size w w' := by
  have := cSame ha hb sx sy hi hj
  rw [decide_eq_true e] at this
  exact this
end

section
variable {a : Act} {w : World} {o : Oper}
end
end Go.Proofs.YtdofolejfdfocaaGreatDoor
namespace Go.Proofs.YtdofolejfdfocaaGreatDoor
open Go.RowKit

section
variable {ops : Array Oper} {Q : Exit → Act → World → Prop} {a0 a : Act} {w W0 : World} {N L : Nat}
end

section
variable {a : Act} {w : World} {o : Oper}
end

/-! ### What a comparison answers -/
end Go.Proofs.YtdofolejfdfocaaGreatDoor
namespace Go.Proofs.YtdofolejfdfocaaGreatDoor
open Go.RowKit

end Go.Proofs.YtdofolejfdfocaaGreatDoor
