/- A region in which every operation waits for the one before: steps over a frame of which only single slots are known. -/
import Derived.Test.YtjajmonhcnmidaaDoorqSan0
import Derived.Deep.RegionHeld3
namespace Go.Proofs.YtjajmonhcnmidaaDoor
open Go.RowKit

/-- The operations of region n, out of a body. -/
def regionOf (n : Nat) : Code → Array Oper
  | .seq a b => if (regionOf n a).size = 0 then regionOf n b else regionOf n a
  | .region i ops _ => if i = n then ops else #[]
  | _ => #[]
/-- The first k of N operations have come up. -/
def mask (N k : Nat) : Array Bool := ((List.range N).map fun i => decide (i < k)).toArray
theorem mask_set (N k : Nat) : (mask N k).setIfInBounds k true = mask N (k + 1) := by
  apply Array.ext_getElem?
  intro j
  by_cases hj : j < N
  · by_cases hjk : k = j
    · subst hjk
      simp [mask, hj]
    · simp [mask, hj, hjk]
      by_cases h2 : j < k
      · simp [h2] <;> omega
      · simp [h2] <;> omega
  · simp [mask, hj]
theorem mask_zero (N : Nat) : mask N 0 = Array.replicate N false := by
  apply Array.ext_getElem?
  intro j
  by_cases hj : j < N <;> simp [mask, hj]

section
variable {P : Program} {ops : Array Oper} {Q : Exit → Act → World → Prop} {S : World → Prop}

/-- Behind the first k operations. -/
def At (P : Program) (ops : Array Oper) (Q : Exit → Act → World → Prop) (S : World → Prop) (k : Nat) (a : Act) (w : World) : Prop :=
  wpAnyH P .any ops Q S (ops.size - k) (mask ops.size k) a w
def pureAt (ops : Array Oper) (k : Nat) : Bool := Region.free .any ops (mask ops.size k) k && (Region.ready .any ops (mask ops.size k)).contains k && decide (k < ops.size)
def nextAt (ops : Array Oper) (k : Nat) : Bool := (Region.ready .any ops (mask ops.size k) == [k]) && decide (k < ops.size)

/-- What an operation must be told of: where it writes, its guard, what it is. -/
def OpIs (ops : Array Oper) (k d : Nat) (g : Option (Nat × Bool)) (op : Op) : Prop := (ops[k]?).map (fun o => (o.dst, o.guard, o.op)) = some (some d, g, op)
theorem opIs_of {k d : Nat} {g : Option (Nat × Bool)} {op : Op} (h : (ops[k]?).map (fun o => (o.dst, o.guard, o.op)) = some (some d, g, op)) : OpIs ops k d g op := h
theorem OpIs.get {k d : Nat} {g : Option (Nat × Bool)} {op : Op} (h : OpIs ops k d g op) : ∃ o, ops[k]? = some o ∧ o.dst = some d ∧ o.guard = g ∧ o.op = op := by
  unfold OpIs at h
  rw [Option.map_eq_some_iff] at h
  obtain ⟨o, ho, h⟩ := h
  simp only [Prod.mk.injEq] at h
  exact ⟨o, ho, h.1, h.2.1, h.2.2⟩

theorem At.pure {k d : Nat} {g : Option (Nat × Bool)} {op : Op} {v : Value} {a : Act} {w : World} (hn : Region.noSelect ops = true) (hk : pureAt ops k = true) (ho : OpIs ops k d g op)
    (hQ : ∀ c d v a w, Q (.panic c) (a.put d v) w → Q (.panic c) a w)
    (hg : ∀ o : Oper, o.guard = g → Region.wanted o (yielded ops a.tmps) = true) (hr : ∀ o : Oper, o.op = op → ∀ w, S w → (execOp a.eval o).run P w = .ok (.value v) w) (hS : S w)
    (h : At P ops Q S (k + 1) (a.put (some d) v) w) : At P ops Q S k a w := by
  obtain ⟨o, ho, hd, hgd, hop⟩ := ho.get
  simp only [pureAt, Bool.and_eq_true, decide_eq_true_eq] at hk
  unfold At
  rw [show ops.size - k = (ops.size - (k + 1)) + 1 by omega]
  refine wpAnyH_take ho hn hk.1.1 hk.1.2 (fun c a w => hQ c _ _ a w) (.inl ⟨hg o hgd, hr o hop⟩) hS ?_
  rw [mask_set, hd]
  exact h
theorem At.next {k : Nat} {a : Act} {w : World} (hk : nextAt ops k = true) (h : wpOp P ops Q k (fun a' w' => S w' ∧ At P ops Q S (k + 1) a' w') a w) : At P ops Q S k a w := by
  simp only [nextAt, Bool.and_eq_true, decide_eq_true_eq, beq_iff_eq] at hk
  unfold At
  rw [show ops.size - k = (ops.size - (k + 1)) + 1 by omega]
  refine wpAnyH_all hk.1 (by simp) fun i hi => ?_
  obtain rfl : i = k := by simpa using hi
  rw [mask_set]
  exact h
theorem wpOp_value {k d : Nat} {g : Option (Nat × Bool)} {op : Op} {v : Value} {a : Act} {w w1 : World} {K : Act → World → Prop} (ho : OpIs ops k d g op)
    (hg : ∀ o : Oper, o.guard = g → Region.wanted o (yielded ops a.tmps) = true) (hr : ∀ o : Oper, o.op = op → (execOp a.eval o).run P w = .ok (.value v) w1)
    (h : K (a.put (some d) v) w1) : wpOp P ops Q k K a w := by
  obtain ⟨o, ho, hd, hgd, hop⟩ := ho.get
  unfold wpOp
  simp only [ho]
  rw [if_pos (hg o hgd)]
  left
  unfold Oper.wp
  rw [hr o hop, Oper.upon_value, hd]
  exact h
theorem wpOp_call {k d : Nat} {f : FuncId} {g : Option (Nat × Bool)} {op : Op} {vs : Array Value} {a : Act} {w : World} {K : Act → World → Prop} (ho : OpIs ops k d g op)
    (hg : ∀ o : Oper, o.guard = g → Region.wanted o (yielded ops a.tmps) = true) (hr : ∀ o : Oper, o.op = op → (execOp a.eval o).run P w = .ok (.enter f vs) w)
    (h : Calls P f vs w fun e w' => ∃ v, e = .returned v ∧ K (a.put (some d) v) w') : wpOp P ops Q k K a w := by
  obtain ⟨o, ho, hd, hgd, hop⟩ := ho.get
  unfold wpOp
  simp only [ho]
  rw [if_pos (hg o hgd)]
  left
  unfold Oper.wp
  rw [hr o hop, Oper.upon_enter, hd]
  exact h.mono fun e w' ⟨v, he, h⟩ => by subst he; exact h
theorem At.call {k d : Nat} {f : FuncId} {g : Option (Nat × Bool)} {op : Op} {vs : Array Value} {a : Act} {w : World} (hk : nextAt ops k = true) (ho : OpIs ops k d g op)
    (hg : ∀ o : Oper, o.guard = g → Region.wanted o (yielded ops a.tmps) = true) (hr : ∀ o : Oper, o.op = op → (execOp a.eval o).run P w = .ok (.enter f vs) w)
    (h : Calls P f vs w fun e w' => ∃ v, e = .returned v ∧ S w' ∧ At P ops Q S (k + 1) (a.put (some d) v) w') : At P ops Q S k a w :=
  At.next hk (wpOp_call ho hg hr h)
theorem At.value {k d : Nat} {g : Option (Nat × Bool)} {op : Op} {v : Value} {a : Act} {w w1 : World} (hk : nextAt ops k = true) (ho : OpIs ops k d g op)
    (hg : ∀ o : Oper, o.guard = g → Region.wanted o (yielded ops a.tmps) = true) (hr : ∀ o : Oper, o.op = op → (execOp a.eval o).run P w = .ok (.value v) w1)
    (hS : S w1) (h : At P ops Q S (k + 1) (a.put (some d) v) w1) : At P ops Q S k a w :=
  At.next hk (wpOp_value ho hg hr ⟨hS, h⟩)
theorem At.done {k : Nat} {a : Act} {w : World} (hk : (Region.ready .any ops (mask ops.size k) == []) = true) (h : Q .normal a w) : At P ops Q S k a w := by
  unfold At
  exact wpAnyH_done (by simpa using hk) h _
theorem At.begin_ {id : Nat} {a : Act} {w : World} (hm : P.follows .mixedOrders = true) (hS : S w.drew) (h : At P ops Q S 0 a w.drew) : (Code.region id ops true).wp P Q a w := by
  refine wp_region_held_drew (S := S) hm hS fun _ => ?_
  have := h
  unfold At at this
  rw [mask_zero] at this
  exact this
end

/-- What is known of a frame: its size, its slots below L as they were, and slot g. -/
structure Fr (N L : Nat) (a0 a : Act) : Prop where
  size : a.tmps.size = N
  low : ∀ t, t < L → a.tmps[t]? = a0.tmps[t]?
  defers : a.defers = a0.defers
theorem Fr.put {N L : Nat} {a0 a : Act} (h : Fr N L a0 a) {d : Nat} (hd : L ≤ d) (v : Value) : Fr N L a0 (a.put (some d) v) :=
  ⟨by simp [Act.put, h.size], fun t ht => by
    have : ¬ d = t := by omega
    simp [Act.put, this, h.low t ht], h.defers⟩
theorem get_put_same {a : Act} {d : Nat} (v : Value) (h : d < a.tmps.size) : (a.put (some d) v).tmps[d]? = some v := by simp [Act.put, h]
theorem get_put_ne {a : Act} {d t : Nat} (v : Value) (h : d ≠ t) : (a.put (some d) v).tmps[t]? = a.tmps[t]? := by simp [Act.put, h]
theorem eval_of {a : Act} {t : Nat} {v : Value} (h : a.tmps[t]? = some v) : a.eval (.tmp t) = v := by
  simp [Act.eval, Array.getD_eq_getD_getElem?, h]
theorem guard_none {ops : Array Oper} {a : Act} (o : Oper) (h : o.guard = none) : Region.wanted o (yielded ops a.tmps) = true := by simp [Region.wanted, h]
theorem guard_of {ops : Array Oper} {a : Act} {j d : Nat} {b : Bool} (hj : (ops[j]?).bind (·.dst) = some d) (h : a.tmps[d]? = some (.bool b)) (o : Oper) (ho : o.guard = some (j, b)) : Region.wanted o (yielded ops a.tmps) = true := by
  simp [Region.wanted, ho, yielded, hj, h]
end Go.Proofs.YtjajmonhcnmidaaDoor
