/- A region in its written order: steps over a frame of which only single slots are known; comparisons of small numbers. -/
import Derived.Test.YtjajmonhcnmidaaDoorqRg
namespace Go.Proofs.YtjajmonhcnmidaaDoor
open Go.RowKit

section
variable {ops : Array Oper} {Q : Exit → Act → World → Prop} {a0 a : Act} {w W0 : World} {N L : Nat}
theorem seqP {d i : Nat} {rest : List Nat} {g : Option (Nat × Bool)} {op : Op} {v : Value} (ho : OpIs ops i d g op) (hg : ∀ o : Oper, o.guard = g → Region.wanted o (yielded ops a.tmps) = true)
    (hr : ∀ o : Oper, o.op = op → (execOp a.eval o).run Tryd.prog w = .ok (.value v) w) (hF : Fr N L a0 a) (hd1 : L ≤ d) (hd2 : d < N)
    (next : ∀ a', Fr N L a0 a' → a'.tmps[d]? = some v → (∀ t u, d ≠ t → a.tmps[t]? = some u → a'.tmps[t]? = some u) → wpOps Tryd.prog ops Q rest a' w) : wpOps Tryd.prog ops Q (i :: rest) a w := by
  rw [wpOps_cons]
  exact wpOp_value ho hg hr (next _ (hF.put hd1 _) (get_put_same _ (by rw [hF.size]; exact hd2)) (fun t u ht h => (get_put_ne _ ht).trans h))
theorem wpOp_skip {k d : Nat} {g : Option (Nat × Bool)} {op : Op} {K : Act → World → Prop} (ho : OpIs ops k d g op)
    (hg : ∀ o : Oper, o.guard = g → Region.wanted o (yielded ops a.tmps) = false) (h : K (a.put (some d) undef) w) : wpOp Tryd.prog ops Q k K a w := by
  obtain ⟨o, ho, hd, hgd, hop⟩ := ho.get
  unfold wpOp
  simp only [ho]
  rw [if_neg (by rw [hg o hgd]; exact Bool.false_ne_true), hd]
  exact h
theorem seqS {d i : Nat} {rest : List Nat} {g : Option (Nat × Bool)} {op : Op} (ho : OpIs ops i d g op) (hg : ∀ o : Oper, o.guard = g → Region.wanted o (yielded ops a.tmps) = false)
    (hF : Fr N L a0 a) (hd1 : L ≤ d)
    (next : ∀ a', Fr N L a0 a' → (∀ t u, d ≠ t → a.tmps[t]? = some u → a'.tmps[t]? = some u) → wpOps Tryd.prog ops Q rest a' w) : wpOps Tryd.prog ops Q (i :: rest) a w := by
  rw [wpOps_cons]
  exact wpOp_skip ho hg (next _ (hF.put hd1 _) (fun t u ht h => (get_put_ne _ ht).trans h))
theorem seqC {d i f : Nat} {rest : List Nat} {g : Option (Nat × Bool)} {op : Op} {vs : Array Value} (R : Value → World → Prop) (ho : OpIs ops i d g op) (hg : ∀ o : Oper, o.guard = g → Region.wanted o (yielded ops a.tmps) = true)
    (hr : ∀ o : Oper, o.op = op → (execOp a.eval o).run Tryd.prog w = .ok (.enter f vs) w) (hF : Fr N L a0 a) (hd1 : L ≤ d) (hd2 : d < N) (hB : Below W0.heap.size W0 w)
    (hc : Calls Tryd.prog f vs w fun e w' => ∃ v, e = .returned v ∧ R v w' ∧ Below w.heap.size w w')
    (next : ∀ v a' w', Fr N L a0 a' → a'.tmps[d]? = some v → (∀ t u, d ≠ t → a.tmps[t]? = some u → a'.tmps[t]? = some u) → R v w' → Below w.heap.size w w' → Below W0.heap.size W0 w' → wpOps Tryd.prog ops Q rest a' w') : wpOps Tryd.prog ops Q (i :: rest) a w := by
  rw [wpOps_cons]
  refine wpOp_call ho hg hr (hc.mono ?_)
  rintro e w' ⟨v, rfl, hR, hb⟩
  exact ⟨v, rfl, next v _ w' (hF.put hd1 _) (get_put_same _ (by rw [hF.size]; exact hd2)) (fun t u ht h => (get_put_ne _ ht).trans h) hR hb (step_below hB hb)⟩
theorem seqEnd {d i : Nat} {op : Op} {v : Value} (ho : OpIs ops i d none op)
    (hr : ∀ o : Oper, o.op = op → (execOp a.eval o).run Tryd.prog w = .ok (.value v) w) (hF : Fr N L a0 a) (hd2 : d < N) (hB : Below W0.heap.size W0 w)
    (fin : ∀ a' w', a'.tmps.size = N → (∀ t, t < L → d ≠ t → a'.tmps[t]? = a0.tmps[t]?) → a'.tmps[d]? = some v → a'.defers = a0.defers → Below W0.heap.size W0 w' → Q .normal a' w') : wpOps Tryd.prog ops Q [i] a w := by
  rw [wpOps_cons]
  refine wpOp_value ho guard_none hr ?_
  show Q .normal _ _
  exact fin _ _ (by simp [Act.put, hF.size]) (fun t ht hne => (get_put_ne _ hne).trans (hF.low t ht)) (get_put_same _ (by rw [hF.size]; exact hd2)) (by simp [Act.put, hF.defers]) hB
end

section
variable {a : Act} {w : World} {o : Oper}
theorem run_neg' {c : Nat} {x z : Int} (hc : a.tmps[c]? = some (.int .i64 x)) (hz : IntKind.i64.wrap (-x) = z) (ho : o.op = .unOp .neg 3 (.tmp c)) : (execOp a.eval o).run Tryd.prog w = .ok (.value (.int .i64 z)) w := by
  unfold execOp; rw [ho]; simp [go_sem, hc, hz]
theorem run_gtrC {c : Nat} {x y : Int} (hc : a.tmps[c]? = some (.int .i64 x)) (ho : o.op = .binOp .gtr 3 (.tmp c) (.const (.int .i64 y)) 3) : (execOp a.eval o).run Tryd.prog w = .ok (.value (.bool (decide (y < x)))) w := by
  unfold execOp; rw [ho]; simp [go_sem, hc]
theorem run_leqC {c : Nat} {x y : Int} (hc : a.tmps[c]? = some (.int .i64 x)) (ho : o.op = .binOp .leq 3 (.tmp c) (.const (.int .i64 y)) 3) : (execOp a.eval o).run Tryd.prog w = .ok (.value (.bool (decide (x ≤ y)))) w := by
  unfold execOp; rw [ho]; simp [go_sem, hc]
theorem run_geqC {c : Nat} {x y : Int} (hc : a.tmps[c]? = some (.int .i64 x)) (ho : o.op = .binOp .geq 3 (.tmp c) (.const (.int .i64 y)) 3) : (execOp a.eval o).run Tryd.prog w = .ok (.value (.bool (decide (y ≤ x)))) w := by
  unfold execOp; rw [ho]; simp [go_sem, hc]
end

/-! ### What a comparison answers -/
theorem cmp_three (a b : Int) : (a < b ∧ cmpI a b = -1) ∨ (a = b ∧ cmpI a b = 0) ∨ (b < a ∧ cmpI a b = 1) := by
  rcases Int.lt_trichotomy a b with h | h | h
  · exact .inl ⟨h, cmpI_lt h⟩
  · exact .inr (.inl ⟨h, cmpI_eq h⟩)
  · exact .inr (.inr ⟨h, cmpI_gt h⟩)
theorem cmp_neg (a b : Int) : IntKind.i64.wrap (-(cmpI b a)) = cmpI a b := by
  rcases cmp_three a b with ⟨h, e⟩ | ⟨h, e⟩ | ⟨h, e⟩
  · rw [e, cmpI_gt h]; decide
  · rw [e, cmpI_eq h.symm]; decide
  · rw [e, cmpI_lt h]; decide
theorem cmp_zero (a b : Int) : ((cmpI a b == 0) == decide (a = b)) = true := by
  rcases cmp_three a b with ⟨h, e⟩ | ⟨h, e⟩ | ⟨h, e⟩
  · rw [e, decide_eq_false (by omega)]; decide
  · rw [e, decide_eq_true h]; decide
  · rw [e, decide_eq_false (by omega)]; decide
theorem cmp_ge (a b : Int) : decide (-1 ≤ cmpI a b) = true := by
  rcases cmp_three a b with ⟨_, e⟩ | ⟨_, e⟩ | ⟨_, e⟩ <;> rw [e] <;> decide
theorem cmp_le (a b : Int) : decide (cmpI a b ≤ 1) = true := by
  rcases cmp_three a b with ⟨_, e⟩ | ⟨_, e⟩ | ⟨_, e⟩ <;> rw [e] <;> decide
theorem cmp_sign (a b : Int) : (cmpI a b == Int.sign (a - b)) = true := by
  rcases cmp_three a b with ⟨h, e⟩ | ⟨h, e⟩ | ⟨h, e⟩
  · rw [e, Int.sign_eq_neg_one_of_neg (by omega)]; decide
  · rw [e, h, Int.sub_self]; decide
  · rw [e, Int.sign_eq_one_of_pos (by omega)]; decide
theorem cmp_self (x : Int) : (x == x) = true := by simp
theorem cmp_gt {a b : Int} (h : b < a) : decide (0 < cmpI a b) = true := by rw [cmpI_gt h]; decide
theorem cmp_ngt {a b : Int} (h : ¬ b < a) : decide (0 < cmpI a b) = false := by
  rcases cmp_three a b with ⟨_, e⟩ | ⟨_, e⟩ | ⟨h', _⟩
  · rw [e]; decide
  · rw [e]; decide
  · exact absurd h' h
theorem cmp_nle {a b : Int} (h : a ≤ b) : decide (cmpI a b ≤ 0) = true := by
  rcases cmp_three a b with ⟨_, e⟩ | ⟨_, e⟩ | ⟨h', _⟩
  · rw [e]; decide
  · rw [e]; decide
  · exact absurd h' (by omega)
theorem cmp_of {a b a' b' : Int} (h1 : a < b → a' < b') (h2 : a = b → a' = b') (h3 : b < a → b' < a') : cmpI a' b' = cmpI a b := by
  rcases cmp_three a b with ⟨h, e⟩ | ⟨h, e⟩ | ⟨h, e⟩
  · rw [e, cmpI_lt (h1 h)]
  · rw [e, cmpI_eq (h2 h)]
  · rw [e, cmpI_gt (h3 h)]
theorem cmp_add (a b c : Int) : (cmpI (a + c) (b + c) == cmpI a b) = true := by
  rw [cmp_of (a := a) (b := b) (by omega) (by omega) (by omega)]
  simp
theorem cmp_mul (a b c : Int) : (cmpI (a * c) (b * c) == cmpI a b * Int.sign c) = true := by
  rcases Int.lt_trichotomy c 0 with h | h | h
  · rw [Int.sign_eq_neg_one_of_neg h]
    have : cmpI (a * c) (b * c) = cmpI b a := cmp_of (fun h' => Int.mul_lt_mul_of_neg_right h' h) (fun h' => by rw [h']) (fun h' => Int.mul_lt_mul_of_neg_right h' h)
    rw [this]
    rcases cmp_three a b with ⟨h, e⟩ | ⟨h, e⟩ | ⟨h, e⟩
    · rw [e, cmpI_gt h]; decide
    · rw [e, cmpI_eq h.symm]; decide
    · rw [e, cmpI_lt h]; decide
  · subst h
    rw [Int.mul_zero, Int.mul_zero, cmpI_eq rfl]
    simp
  · rw [Int.sign_eq_one_of_pos h]
    have : cmpI (a * c) (b * c) = cmpI a b := cmp_of (fun h' => Int.mul_lt_mul_of_pos_right h' h) (fun h' => by rw [h']) (fun h' => Int.mul_lt_mul_of_pos_right h' h)
    rw [this]
    simp
theorem cmp_wrap (a b c : Int) : IntKind.i64.wrap (cmpI a b * Int.sign c) = cmpI a b * Int.sign c := by
  have hs : Int.sign c = -1 ∨ Int.sign c = 0 ∨ Int.sign c = 1 := by
    rcases Int.lt_trichotomy c 0 with h | h | h
    · exact .inl (Int.sign_eq_neg_one_of_neg h)
    · subst h; exact .inr (.inl rfl)
    · exact .inr (.inr (Int.sign_eq_one_of_pos h))
  rcases cmp_three a b with ⟨_, e⟩ | ⟨_, e⟩ | ⟨_, e⟩ <;> rcases hs with s | s | s <;> rw [e, s] <;> decide
end Go.Proofs.YtjajmonhcnmidaaDoor
