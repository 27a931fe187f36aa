/- A drawn region, in the order that its edges leave: steps over a frame of which only single slots are known; and the contracts of the arithmetic for numbers of few limbs. -/
import Derived.Test.YtjajmonhcnmidaaDoorqRun
namespace Go.Proofs.YtjajmonhcnmidaaDoor
open Go.RowKit

/-- Those of N operations that have come up. -/
def maskO (N : Nat) (l : List Nat) : Array Bool := ((List.range N).map fun i => l.contains i).toArray
theorem maskO_set (N i : Nat) (l : List Nat) : (maskO N l).setIfInBounds i true = maskO N (i :: l) := by
  apply Array.ext_getElem?
  intro j
  by_cases hj : j < N
  · by_cases hij : i = j
    · subst hij
      simp [maskO, hj]
    · have hji : ¬ j = i := fun h => hij h.symm
      simp [maskO, hj, hij, hji]
  · by_cases hij : i = j
    · subst hij
      simp [maskO, hj]
    · simp [maskO, hj]
theorem maskO_nil (N : Nat) : maskO N [] = Array.replicate N false := by
  apply Array.ext_getElem?
  intro j
  by_cases hj : j < N <;> simp [maskO, hj]

section
variable {P : Program} {ops : Array Oper} {Q : Exit → Act → World → Prop} {W0 : World} {a0 a : Act} {w : World} {N L : Nat}

/-- Behind the operations 'done'. -/
def AtO (P : Program) (ops : Array Oper) (Q : Exit → Act → World → Prop) (W0 : World) (done : List Nat) (a : Act) (w : World) : Prop :=
  wpAnyH P .any ops Q (fun w => Below W0.heap.size W0 w) (ops.size - done.length) (maskO ops.size done) a w
def pureO (ops : Array Oper) (done : List Nat) (i : Nat) : Bool := Region.free .any ops (maskO ops.size done) i && (Region.ready .any ops (maskO ops.size done)).contains i && decide (done.length < ops.size)
def nextO (ops : Array Oper) (done : List Nat) (i : Nat) : Bool := (Region.ready .any ops (maskO ops.size done) == [i]) && decide (done.length < ops.size)

theorem stepP {d i : Nat} {done : List Nat} {g : Option (Nat × Bool)} {op : Op} {v : Value} (hn : Region.noSelect ops = true) (hk : pureO ops done i = true) (ho : OpIs ops i d g op)
    (hQ : ∀ c d v a w, Q (.panic c) (a.put d v) w → Q (.panic c) a w) (hg : ∀ o : Oper, o.guard = g → Region.wanted o (yielded ops a.tmps) = true)
    (hr : ∀ o : Oper, o.op = op → ∀ w, Below W0.heap.size W0 w → (execOp a.eval o).run P w = .ok (.value v) w) (hF : Fr N L a0 a) (hd1 : L ≤ d) (hd2 : d < N) (hB : Below W0.heap.size W0 w)
    (next : ∀ a', Fr N L a0 a' → a'.tmps[d]? = some v → (∀ t u, d ≠ t → a.tmps[t]? = some u → a'.tmps[t]? = some u) → AtO P ops Q W0 (i :: done) a' w) : AtO P ops Q W0 done a w := by
  obtain ⟨o, ho, hd, hgd, hop⟩ := ho.get
  simp only [pureO, Bool.and_eq_true, decide_eq_true_eq] at hk
  unfold AtO
  rw [show ops.size - done.length = (ops.size - (i :: done).length) + 1 by simp only [List.length_cons]; omega]
  refine wpAnyH_take ho hn hk.1.1 hk.1.2 (fun c a w => hQ c _ _ a w) (.inl ⟨hg o hgd, hr o hop⟩) hB ?_
  rw [maskO_set, hd]
  exact next _ (hF.put hd1 _) (get_put_same _ (by rw [hF.size]; exact hd2)) (fun t u ht h => (get_put_ne _ ht).trans h)
/-- One that its guard passes over. -/
theorem stepS {d i : Nat} {done : List Nat} {g : Option (Nat × Bool)} {op : Op} (hn : Region.noSelect ops = true) (hk : pureO ops done i = true) (ho : OpIs ops i d g op)
    (hQ : ∀ c d v a w, Q (.panic c) (a.put d v) w → Q (.panic c) a w) (hg : ∀ o : Oper, o.guard = g → Region.wanted o (yielded ops a.tmps) = false)
    (hF : Fr N L a0 a) (hd1 : L ≤ d) (hB : Below W0.heap.size W0 w)
    (next : ∀ a', Fr N L a0 a' → (∀ t u, d ≠ t → a.tmps[t]? = some u → a'.tmps[t]? = some u) → AtO P ops Q W0 (i :: done) a' w) : AtO P ops Q W0 done a w := by
  obtain ⟨o, ho, hd, hgd, hop⟩ := ho.get
  simp only [pureO, Bool.and_eq_true, decide_eq_true_eq] at hk
  unfold AtO
  rw [show ops.size - done.length = (ops.size - (i :: done).length) + 1 by simp only [List.length_cons]; omega]
  refine wpAnyH_take ho hn hk.1.1 hk.1.2 (fun c a w => hQ c _ _ a w) (.inr ⟨hg o hgd, rfl⟩) hB ?_
  rw [maskO_set, hd]
  exact next _ (hF.put hd1 _) (fun t u ht h => (get_put_ne _ ht).trans h)
theorem stepC {d i f : Nat} {done : List Nat} {g : Option (Nat × Bool)} {op : Op} {vs : Array Value} (R : Value → World → Prop) (hk : nextO ops done i = true) (ho : OpIs ops i d g op)
    (hg : ∀ o : Oper, o.guard = g → Region.wanted o (yielded ops a.tmps) = true)
    (hr : ∀ o : Oper, o.op = op → (execOp a.eval o).run P w = .ok (.enter f vs) w) (hF : Fr N L a0 a) (hd1 : L ≤ d) (hd2 : d < N) (hB : Below W0.heap.size W0 w)
    (hc : Calls P f vs w fun e w' => ∃ v, e = .returned v ∧ R v w' ∧ Below w.heap.size w w')
    (next : ∀ v a' w', Fr N L a0 a' → a'.tmps[d]? = some v → (∀ t u, d ≠ t → a.tmps[t]? = some u → a'.tmps[t]? = some u) → R v w' → Below w.heap.size w w' → Below W0.heap.size W0 w' → AtO P ops Q W0 (i :: done) a' w') : AtO P ops Q W0 done a w := by
  simp only [nextO, Bool.and_eq_true, decide_eq_true_eq, beq_iff_eq] at hk
  unfold AtO
  rw [show ops.size - done.length = (ops.size - (i :: done).length) + 1 by simp only [List.length_cons]; omega]
  refine wpAnyH_all hk.1 (by simp) fun j hj => ?_
  obtain rfl : j = i := by simpa using hj
  rw [maskO_set]
  refine wpOp_call ho hg hr (hc.mono ?_)
  rintro e w' ⟨v, rfl, hR, hb⟩
  exact ⟨v, rfl, step_below hB hb, next v _ w' (hF.put hd1 _) (get_put_same _ (by rw [hF.size]; exact hd2)) (fun t u ht h => (get_put_ne _ ht).trans h) hR hb (step_below hB hb)⟩
/-- A call that its guard passes over. -/
theorem stepSC {d i : Nat} {done : List Nat} {g : Option (Nat × Bool)} {op : Op} (hk : nextO ops done i = true) (ho : OpIs ops i d g op)
    (hg : ∀ o : Oper, o.guard = g → Region.wanted o (yielded ops a.tmps) = false) (hF : Fr N L a0 a) (hd1 : L ≤ d) (hB : Below W0.heap.size W0 w)
    (next : ∀ a', Fr N L a0 a' → (∀ t u, d ≠ t → a.tmps[t]? = some u → a'.tmps[t]? = some u) → AtO P ops Q W0 (i :: done) a' w) : AtO P ops Q W0 done a w := by
  obtain ⟨o, ho, hd, hgd, hop⟩ := ho.get
  simp only [nextO, Bool.and_eq_true, decide_eq_true_eq, beq_iff_eq] at hk
  unfold AtO
  rw [show ops.size - done.length = (ops.size - (i :: done).length) + 1 by simp only [List.length_cons]; omega]
  refine wpAnyH_all hk.1 (by simp) fun j hj => ?_
  obtain rfl : j = i := by simpa using hj
  rw [maskO_set]
  unfold wpOp
  simp only [ho]
  rw [if_neg (by rw [hg o hgd]; exact Bool.false_ne_true), hd]
  exact ⟨hB, next _ (hF.put hd1 _) (fun t u ht h => (get_put_ne _ ht).trans h)⟩
/-- The last operation lays the answer into a slot below. -/
theorem stepEnd {d i : Nat} {done : List Nat} {op : Op} {v : Value} (hn : Region.noSelect ops = true) (hk : pureO ops done i = true) (ho : OpIs ops i d none op)
    (hQ : ∀ c d v a w, Q (.panic c) (a.put d v) w → Q (.panic c) a w)
    (hr : ∀ o : Oper, o.op = op → ∀ w, Below W0.heap.size W0 w → (execOp a.eval o).run P w = .ok (.value v) w) (hF : Fr N L a0 a) (hd2 : d < N) (hB : Below W0.heap.size W0 w)
    (hz : (Region.ready .any ops (maskO ops.size (i :: done)) == []) = true)
    (fin : ∀ a' w', a'.tmps.size = N → (∀ t, t < L → d ≠ t → a'.tmps[t]? = a0.tmps[t]?) → a'.tmps[d]? = some v → a'.defers = a0.defers → Below W0.heap.size W0 w' → Q .normal a' w') : AtO P ops Q W0 done a w := by
  obtain ⟨o, ho, hd, hgd, hop⟩ := ho.get
  simp only [pureO, Bool.and_eq_true, decide_eq_true_eq] at hk
  unfold AtO
  rw [show ops.size - done.length = (ops.size - (i :: done).length) + 1 by simp only [List.length_cons]; omega]
  refine wpAnyH_take ho hn hk.1.1 hk.1.2 (fun c a w => hQ c _ _ a w) (.inl ⟨guard_none o hgd, hr o hop⟩) hB ?_
  rw [maskO_set, hd]
  refine wpAnyH_done (by simpa using hz) ?_ _
  exact fin _ _ (by simp [Act.put, hF.size]) (fun t ht hne => (get_put_ne _ hne).trans (hF.low t ht)) (get_put_same _ (by rw [hF.size]; exact hd2)) (by simp [Act.put, hF.defers]) hB
theorem beginO {id : Nat} (hm : P.follows .mixedOrders = true) (h : AtO P ops Q W0 [] a W0.drew) : (Code.region id ops true).wp P Q a W0 := by
  refine wp_region_held_drew (S := fun w => Below W0.heap.size W0 w) hm (Below.refl _ _).drew fun _ => ?_
  have := h
  unfold AtO at this
  rw [maskO_nil] at this
  exact this
theorem frHere (h : a.tmps.size = N) : Fr N L a a := ⟨h, fun _ _ => rfl, rfl⟩
theorem guard_off {j d : Nat} {b b' : Bool} (hj : (ops[j]?).bind (·.dst) = some d) (h : a.tmps[d]? = some (.bool b)) (hbb : (b == b') = false) (o : Oper) (ho : o.guard = some (j, b')) : Region.wanted o (yielded ops a.tmps) = false := by
  simp [Region.wanted, ho, yielded, hj, h]
  simpa using hbb
end

/-! ### Numbers of few limbs -/
/-- Below k limbs. -/
def Sm (z : Int) (k : Nat) : Prop := z.natAbs < 4294967296 ^ k
theorem len_le_pow : ∀ {k n : Nat}, n < 4294967296 ^ k → len n ≤ k
  | 0, n, h => by
    obtain rfl : n = 0 := by simpa using h
    rw [len_zero]
    exact Nat.le_refl _
  | k + 1, n, h => by
    rcases Nat.eq_zero_or_pos n with rfl | h0
    · rw [len_zero]; exact Nat.zero_le _
    · rw [len_pos h0]
      have := len_le_pow (k := k) (n := n / 4294967296) (Nat.div_lt_of_lt_mul (by rw [Nat.pow_succ] at h; rw [Nat.mul_comm]; exact h))
      omega
theorem Sm.len {z : Int} {k : Nat} (h : Sm z k) (hk : k ≤ 1000) : len z.natAbs ≤ 1099511627775 := Nat.le_trans (len_le_pow h) (by omega)
theorem Sm.mono {z : Int} {k j : Nat} (h : Sm z k) (hk : k ≤ j) : Sm z j := Nat.lt_of_lt_of_le h (Nat.pow_le_pow_right (by decide) hk)
theorem Sm.neg {z : Int} {k : Nat} (h : Sm z k) : Sm (-z) k := by unfold Sm; rw [Int.natAbs_neg]; exact h
theorem Sm.add {x y : Int} {i j : Nat} (hx : Sm x i) (hy : Sm y j) : Sm (x + y) (max i j + 1) := by
  have h1 := hx.mono (Nat.le_max_left i j)
  have h2 := hy.mono (Nat.le_max_right i j)
  unfold Sm at *
  have := Int.natAbs_add_le x y
  rw [Nat.pow_succ]
  omega
theorem Sm.sub {x y : Int} {i j : Nat} (hx : Sm x i) (hy : Sm y j) : Sm (x - y) (max i j + 1) := by
  rw [Int.sub_eq_add_neg]
  exact hx.add hy.neg
theorem Sm.mul {x y : Int} {i j : Nat} (hx : Sm x i) (hy : Sm y j) : Sm (x * y) (i + j) := by
  unfold Sm at *
  rw [Int.natAbs_mul, Nat.pow_add]
  exact Nat.mul_lt_mul'' hx hy
theorem Sm.of (z : Int) (h : z.natAbs < 18446744073709551616) : Sm z 2 := by unfold Sm; exact Nat.lt_of_lt_of_le h (by decide)

section
variable {w : World} {va vb : Value} {x y : Int} {i j : Nat}
theorem cOf (z : Int) (h0 : -9223372036854775808 ≤ z) (h1 : z ≤ 9223372036854775807) : Calls Tryd.prog 30 #[.int .i64 z] w fun e w' => ∃ v, e = .returned v ∧ IntAt w' v z ∧ Below w.heap.size w w' := Of_any z w h0 h1
theorem cAdd (ha : IntAt w va x) (hb : IntAt w vb y) (sx : Sm x i) (sy : Sm y j) (hi : i ≤ 1000) (hj : j ≤ 1000) : Calls Tryd.prog 15 #[va, vb] w fun e w' => ∃ v, e = .returned v ∧ IntAt w' v (x + y) ∧ Below w.heap.size w w' :=
  Add_any va vb x y w ha hb (Nat.le_trans (sx.len hi) (by decide)) (Nat.le_trans (sy.len hj) (by decide))
theorem cSub (ha : IntAt w va x) (hb : IntAt w vb y) (sx : Sm x i) (sy : Sm y j) (hi : i ≤ 1000) (hj : j ≤ 1000) : Calls Tryd.prog 16 #[va, vb] w fun e w' => ∃ v, e = .returned v ∧ IntAt w' v (x - y) ∧ Below w.heap.size w w' :=
  Sub_any va vb x y w ha hb (sx.len hi) (sy.len hj)
theorem cMul (ha : IntAt w va x) (hb : IntAt w vb y) (sx : Sm x i) (sy : Sm y j) (hi : i ≤ 1000) (hj : j ≤ 1000) : Calls Tryd.prog 17 #[va, vb] w fun e w' => ∃ v, e = .returned v ∧ IntAt w' v (x * y) ∧ Below w.heap.size w w' :=
  Mul_any va vb x y w ha hb (Nat.le_trans (sx.len hi) (by decide)) (Nat.le_trans (sy.len hj) (by decide))
theorem cNeg (ha : IntAt w va x) (sx : Sm x i) (hi : i ≤ 1000) : Calls Tryd.prog 18 #[va] w fun e w' => ∃ v, e = .returned v ∧ IntAt w' v (-x) ∧ Below w.heap.size w w' :=
  Neg_any va x w ha (Nat.le_trans (sx.len hi) (by decide))
theorem cSign (ha : IntAt w va x) (sx : Sm x i) (hi : i ≤ 1000) : Calls Tryd.prog 28 #[va] w fun e w' => ∃ v, e = .returned v ∧ v = .int .i64 x.sign ∧ Below w.heap.size w w' :=
  (Sign_any va x w ha (Nat.le_trans (sx.len hi) (by decide))).mono fun _ _ ⟨he, hb⟩ => ⟨_, he, rfl, hb⟩
theorem cCmp (ha : IntAt w va x) (hb : IntAt w vb y) (sx : Sm x i) (sy : Sm y j) (hi : i ≤ 1000) (hj : j ≤ 1000) : Calls Tryd.prog 26 #[va, vb] w fun e w' => ∃ v, e = .returned v ∧ v = .int .i64 (cmpI x y) ∧ Below w.heap.size w w' :=
  (Cmp_any va vb x y w ha hb (Nat.le_trans (sx.len hi) (by decide)) (Nat.le_trans (sy.len hj) (by decide))).mono fun _ _ ⟨he, hb⟩ => ⟨_, he, rfl, hb⟩
theorem cSame (ha : IntAt w va x) (hb : IntAt w vb y) (sx : Sm x i) (sy : Sm y j) (hi : i ≤ 1000) (hj : j ≤ 1000) : Calls Tryd.prog 21 #[va, vb] w fun e w' => ∃ v, e = .returned v ∧ v = .bool (decide (x = y)) ∧ Below w.heap.size w w' :=
  (Same_any va vb x y w ha hb (Nat.le_trans (sx.len hi) (by decide)) (Nat.le_trans (sy.len hj) (by decide))).mono fun _ _ ⟨he, hb⟩ => ⟨_, he, rfl, hb⟩
theorem cSameT (ha : IntAt w va x) (hb : IntAt w vb y) (sx : Sm x i) (sy : Sm y j) (hi : i ≤ 1000) (hj : j ≤ 1000) (e : x = y) : Calls Tryd.prog 21 #[va, vb] w fun e w' => ∃ v, e = .returned v ∧ v = .bool true ∧ Below w.heap.size w w' := by
  have := cSame ha hb sx sy hi hj
  rw [decide_eq_true e] at this
  exact this
end

section
variable {a : Act} {w : World} {o : Oper}
theorem run_callAdd {x y : Nat} {vx vy : Value} (hx : a.tmps[x]? = some vx) (hy : a.tmps[y]? = some vy) (ho : o.op = .call { callee := .value (.func 15), args := #[.tmp x, .tmp y], argTypes := #[27, 27] }) : (execOp a.eval o).run Tryd.prog w = .ok (.enter 15 #[vx, vy]) w := by
  unfold execOp; rw [ho]; simp [go_sem, hx, hy]
theorem run_callSub {x y : Nat} {vx vy : Value} (hx : a.tmps[x]? = some vx) (hy : a.tmps[y]? = some vy) (ho : o.op = .call { callee := .value (.func 16), args := #[.tmp x, .tmp y], argTypes := #[27, 27] }) : (execOp a.eval o).run Tryd.prog w = .ok (.enter 16 #[vx, vy]) w := by
  unfold execOp; rw [ho]; simp [go_sem, hx, hy]
theorem run_callMul {x y : Nat} {vx vy : Value} (hx : a.tmps[x]? = some vx) (hy : a.tmps[y]? = some vy) (ho : o.op = .call { callee := .value (.func 17), args := #[.tmp x, .tmp y], argTypes := #[27, 27] }) : (execOp a.eval o).run Tryd.prog w = .ok (.enter 17 #[vx, vy]) w := by
  unfold execOp; rw [ho]; simp [go_sem, hx, hy]
theorem run_callCmp {x y : Nat} {vx vy : Value} (hx : a.tmps[x]? = some vx) (hy : a.tmps[y]? = some vy) (ho : o.op = .call { callee := .value (.func 26), args := #[.tmp x, .tmp y], argTypes := #[27, 27] }) : (execOp a.eval o).run Tryd.prog w = .ok (.enter 26 #[vx, vy]) w := by
  unfold execOp; rw [ho]; simp [go_sem, hx, hy]
theorem run_callNeg {x : Nat} {vx : Value} (hx : a.tmps[x]? = some vx) (ho : o.op = .call { callee := .value (.func 18), args := #[.tmp x], argTypes := #[27] }) : (execOp a.eval o).run Tryd.prog w = .ok (.enter 18 #[vx]) w := by
  unfold execOp; rw [ho]; simp [go_sem, hx]
theorem run_loadB {t g : Nat} {b : Bool} {A : Option Addr} {k c : Nat} {z : Int} {W0 : World} (hbx : BoxI W0 g (.agg #[.bool b, .slice A k c]) z) (hB : Below W0.heap.size W0 w) (h : a.tmps[t]? = some (.pointer (some ⟨g, 0, none⟩))) (ho : o.op = .load 27 (.tmp t)) : (execOp a.eval o).run Tryd.prog w = .ok (.value (.agg #[.bool b, .slice A k c])) w :=
  run_loadI h (hbx.into hB).cells.1 (hbx.into hB).cells.2 ho
theorem run_pickOrT {c y : Nat} (hc : a.tmps[c]? = some (.bool true)) (ho : o.op = .pick (.tmp c) (.const (.bool true)) (.tmp y)) : (execOp a.eval o).run Tryd.prog w = .ok (.value (.bool true)) w := by
  unfold execOp; rw [ho]; simp [go_sem, hc]
theorem run_pickOrF {c y : Nat} {x : Bool} (hc : a.tmps[c]? = some (.bool false)) (hy : a.tmps[y]? = some (.bool x)) (ho : o.op = .pick (.tmp c) (.const (.bool true)) (.tmp y)) : (execOp a.eval o).run Tryd.prog w = .ok (.value (.bool x)) w := by
  unfold execOp; rw [ho]; simp [go_sem, hc, hy]
theorem run_eqB {c d : Nat} {x y : Bool} (hc : a.tmps[c]? = some (.bool x)) (hd : a.tmps[d]? = some (.bool y)) (ho : o.op = .binOp .eql 4 (.tmp c) (.tmp d) 4) : (execOp a.eval o).run Tryd.prog w = .ok (.value (.bool (x == y))) w := by
  unfold execOp; rw [ho]; cases x <;> cases y <;> simp [go_sem, hc, hd]
theorem run_eqII {c d ty y2 : Nat} {k : IntKind} {x y : Int} (hc : a.tmps[c]? = some (.int k x)) (hd : a.tmps[d]? = some (.int k y)) (ho : o.op = .binOp .eql ty (.tmp c) (.tmp d) y2) : (execOp a.eval o).run Tryd.prog w = .ok (.value (.bool (x == y))) w := by
  unfold execOp; rw [ho]; simp [go_sem, hc, hd]
theorem run_mulII {c d : Nat} {x y z : Int} (hc : a.tmps[c]? = some (.int .i64 x)) (hd : a.tmps[d]? = some (.int .i64 y)) (hz : IntKind.i64.wrap (x * y) = z) (ho : o.op = .binOp .mul 3 (.tmp c) (.tmp d) 3) : (execOp a.eval o).run Tryd.prog w = .ok (.value (.int .i64 z)) w := by
  unfold execOp; rw [ho]; simp [go_sem, hc, hd, hz]
end
end Go.Proofs.YtjajmonhcnmidaaDoor
