/- The last line of the fixed examples: a region of 71 operations, conjunct by conjunct. -/
import Derived.Test.YtdofolejfdfocaaDoorqSan0
import Derived.Deep.RegionHeld3
namespace Go.Proofs.YtdofolejfdfocaaDoor
open Go.RowKit

noncomputable def rops : Array Oper := match Tryd.f4.body with | some c => regionOf 14 c | none => #[]
theorem nosel : Region.noSelect rops = true := by kernel_rfl
theorem rsize : rops.size = 71 := by kernel_rfl
abbrev AtS (Q : Exit → Act → World → Prop) (S : World → Prop) (k : Nat) (a : Act) (w : World) : Prop := At Tryd.prog rops Q S k a w
abbrev Tr (a : Act) (t : Nat) : Prop := a.tmps[t]? = some (.bool true)

section
variable {Q : Exit → Act → World → Prop} {S : World → Prop} {W0 : World} {a0 a : Act} {w : World}

/-- The end of a conjunct: 'pick', then the next gate. -/
theorem tail {k g c p g' : Nat} (ho1 : OpIs rops k p none (.pick (.tmp g) (.tmp c) (.const (.bool false)))) (ho2 : OpIs rops (k + 1) g' none (.move (.tmp p)))
    (hk1 : pureAt rops k = true) (hk2 : pureAt rops (k + 1) = true) (h1 : 137 ≤ p) (h2 : p < 207) (h3 : 137 ≤ g') (h4 : g' < 207)
    (hQ : ∀ c d v a w, Q (.panic c) (a.put d v) w → Q (.panic c) a w) (hS : ∀ w, Below W0.heap.size W0 w → S w)
    (hF : Fr 207 137 a0 a) (hg : Tr a g) (hc : Tr a c) (hB : Below W0.heap.size W0 w)
    (next : ∀ a', Fr 207 137 a0 a' → Tr a' g' → AtS Q S (k + 2) a' w) : AtS Q S k a w := by
  refine At.pure nosel hk1 ho1 hQ guard_none (fun o ho w _ => run_pick' hg hc ho) (hS _ hB) ?_
  have hs := get_put_same (a := a) (d := p) (.bool true) (by rw [hF.size]; exact h2)
  refine At.pure nosel hk2 ho2 hQ guard_none (fun o ho w _ => run_move' hs ho) (hS _ hB) ?_
  exact next _ ((hF.put h1 _).put h3 _) (get_put_same _ (by rw [(hF.put h1 _).size]; exact h4))

/-- A conjunct that is a slot of the frame. -/
theorem conj_slot {k g gi s c p g' : Nat} (ho0 : OpIs rops k c (some (gi, true)) (.move (.tmp s))) (ho1 : OpIs rops (k + 1) p none (.pick (.tmp g) (.tmp c) (.const (.bool false)))) (ho2 : OpIs rops (k + 2) g' none (.move (.tmp p)))
    (hk0 : pureAt rops k = true) (hk1 : pureAt rops (k + 1) = true) (hk2 : pureAt rops (k + 2) = true) (hgi : (rops[gi]?).bind (·.dst) = some g) (hs : s < 137) (h0 : 137 ≤ c) (h01 : c < 207) (hgc : c ≠ g) (h1 : 137 ≤ p) (h2 : p < 207) (h3 : 137 ≤ g') (h4 : g' < 207)
    (hQ : ∀ c d v a w, Q (.panic c) (a.put d v) w → Q (.panic c) a w) (hS : ∀ w, Below W0.heap.size W0 w → S w)
    (hF : Fr 207 137 a0 a) (hg : Tr a g) (hv : Tr a0 s) (hB : Below W0.heap.size W0 w)
    (next : ∀ a', Fr 207 137 a0 a' → Tr a' g' → AtS Q S (k + 3) a' w) : AtS Q S k a w := by
  refine At.pure nosel hk0 ho0 hQ (guard_of hgi hg) (fun o ho w _ => run_move' ((hF.low s hs).trans hv) ho) (hS _ hB) ?_
  exact tail ho1 ho2 hk1 hk2 h1 h2 h3 h4 hQ hS (hF.put h0 _) ((get_put_ne _ hgc).trans hg) (get_put_same _ (by rw [hF.size]; exact h01)) hB next

/-- Operations 0 to 4. -/
theorem seg0 (hQ : ∀ c d v a w, Q (.panic c) (a.put d v) w → Q (.panic c) a w) (hS : ∀ w, Below W0.heap.size W0 w → S w)
    (hF : Fr 207 137 a0 a) (h26 : Tr a0 26) (h27 : Tr a0 27) (hB : Below W0.heap.size W0 w)
    (next : ∀ a', Fr 207 137 a0 a' → Tr a' 141 → AtS Q S 5 a' w) : AtS Q S 0 a w := by
  refine At.pure (d := 137) (g := none) (op := .move (.tmp 26)) nosel (by kernel_rfl) (opIs_of (by kernel_rfl)) hQ guard_none (fun o ho w _ => run_move' ((hF.low 26 (by decide)).trans h26) ho) (hS _ hB) ?_
  have hF1 := hF.put (d := 137) (by decide) (.bool true)
  have hs1 := get_put_same (a := a) (d := 137) (.bool true) (by rw [hF.size]; decide)
  generalize a.put (some 137) (.bool true) = a1 at *
  refine At.pure (d := 138) (g := none) (op := .move (.tmp 137)) nosel (by kernel_rfl) (opIs_of (by kernel_rfl)) hQ guard_none (fun o ho w _ => run_move' hs1 ho) (hS _ hB) ?_
  have hF2 := hF1.put (d := 138) (by decide) (.bool true)
  have hs2 := get_put_same (a := a1) (d := 138) (.bool true) (by rw [hF1.size]; decide)
  generalize a1.put (some 138) (.bool true) = a2 at *
  exact conj_slot (gi := 1) (s := 27) (c := 139) (p := 140) (g := 138) (opIs_of (by kernel_rfl)) (opIs_of (by kernel_rfl)) (opIs_of (by kernel_rfl)) (by kernel_rfl) (by kernel_rfl) (by kernel_rfl) (by kernel_rfl) (by decide) (by decide) (by decide) (by decide) (by decide) (by decide) (by decide) (by decide) hQ hS hF2 hs2 h27 hB next

/-- Operations 5 to 7, in either order. -/
theorem seg5 (hQ : ∀ c d v a w, Q (.panic c) (a.put d v) w → Q (.panic c) a w) (hS : ∀ w, Below W0.heap.size W0 w → S w)
    (hF : Fr 207 137 a0 a) (hg : Tr a 141) (hB : Below W0.heap.size W0 w)
    (next : ∀ a' w' vo vl, Fr 207 137 a0 a' → Tr a' 141 → a'.tmps[142]? = some vo → a'.tmps[144]? = some vl → IntAt w' vo (-5) → IntAt w' vl (-5) → Below W0.heap.size W0 w' → AtS Q S 8 a' w') : AtS Q S 5 a w := by
  show wpAnyH Tryd.prog .any rops Q S (rops.size - 5) (mask rops.size 5) a w
  rw [rsize]
  refine wpAnyH_all (fuel := 65) (rs := [5, 6]) (by kernel_rfl) (by simp) fun i hi => ?_
  have hG := guard_of (ops := rops) (j := 4) (by kernel_rfl) hg
  rcases List.mem_cons.1 hi with rfl | hi
  · refine wpOp_call (d := 142) (g := some (4, true)) (op := .call { callee := .value (.func 12), args := #[.const (.int .i64 (-5))], argTypes := #[2] }) (opIs_of (by kernel_rfl)) hG (fun o ho => run_call1 ho) ?_
    refine (Of_any (-5) _ (by omega) (by omega)).mono ?_
    rintro e w1 ⟨vo, rfl, ho, hb⟩
    have hB1 := step_below hB hb
    refine ⟨vo, rfl, hS _ hB1, ?_⟩
    rw [mask_set]
    have hF1 := hF.put (d := 142) (by decide) vo
    have hs1 := get_put_same (a := a) (d := 142) vo (by rw [hF.size]; decide)
    have hg1 := (get_put_ne (a := a) (d := 142) (t := 141) vo (by decide)).trans hg
    generalize a.put (some 142) vo = a1 at *
    have hG1 := guard_of (ops := rops) (j := 4) (by kernel_rfl) hg1
    show AtS Q S 6 a1 w1
    have hB2 : Below W0.heap.size W0 (w1.alloc (.cells #[.int .u32 5] 41)) := step_below hB1 (below_alloc _ _)
    refine At.value (d := 143) (g := some (4, true)) (op := .buildSlice 22 1 #[(0, .const (.int .u32 5))]) (by kernel_rfl) (opIs_of (by kernel_rfl)) hG1 (fun o ho => run_slice5 ho) (hS _ hB2) ?_
    have hl := lit_m5 w1
    have ho2 := ho.into (below_alloc w1 (.cells #[.int .u32 5] 41))
    have hF2 := hF1.put (d := 143) (by decide) (.slice (some ⟨w1.heap.size, 0, none⟩) 1 1)
    have hs2 := get_put_same (a := a1) (d := 143) (.slice (some ⟨w1.heap.size, 0, none⟩) 1 1) (by rw [hF1.size]; decide)
    have hg2 := (get_put_ne (a := a1) (d := 143) (t := 141) (.slice (some ⟨w1.heap.size, 0, none⟩) 1 1) (by decide)).trans hg1
    have hs12 := (get_put_ne (a := a1) (d := 143) (t := 142) (.slice (some ⟨w1.heap.size, 0, none⟩) 1 1) (by decide)).trans hs1
    generalize a1.put (some 143) (.slice (some ⟨w1.heap.size, 0, none⟩) 1 1) = a2 at *
    have hG2 := guard_of (ops := rops) (j := 4) (by kernel_rfl) hg2
    refine At.pure (d := 144) (g := some (4, true)) (op := .build 27 #[(0, .const (.bool true)), (1, .tmp 143)]) nosel (by kernel_rfl) (opIs_of (by kernel_rfl)) hQ hG2 (fun o ho w _ => run_build5 hs2 ho) (hS _ hB2) ?_
    exact next _ _ _ _ (hF2.put (by decide) _) ((get_put_ne _ (by decide)).trans hg2) ((get_put_ne _ (by decide)).trans hs12) (get_put_same _ (by rw [hF2.size]; decide)) ho2 hl hB2
  · obtain rfl : i = 6 := by simpa using hi
    have hB1 : Below W0.heap.size W0 (w.alloc (.cells #[.int .u32 5] 41)) := step_below hB (below_alloc _ _)
    refine wpOp_value (d := 143) (g := some (4, true)) (op := .buildSlice 22 1 #[(0, .const (.int .u32 5))]) (opIs_of (by kernel_rfl)) hG (fun o ho => run_slice5 ho) ⟨hS _ hB1, ?_⟩
    have hl := lit_m5 w
    have hF1 := hF.put (d := 143) (by decide) (.slice (some ⟨w.heap.size, 0, none⟩) 1 1)
    have hs1 := get_put_same (a := a) (d := 143) (.slice (some ⟨w.heap.size, 0, none⟩) 1 1) (by rw [hF.size]; decide)
    have hg1 := (get_put_ne (a := a) (d := 143) (t := 141) (.slice (some ⟨w.heap.size, 0, none⟩) 1 1) (by decide)).trans hg
    generalize a.put (some 143) (.slice (some ⟨w.heap.size, 0, none⟩) 1 1) = a1 at *
    generalize w.alloc (.cells #[.int .u32 5] 41) = w1 at *
    have hG1 := guard_of (ops := rops) (j := 4) (by kernel_rfl) hg1
    obtain ⟨o7, ho7, hd7, hgd7, hop7⟩ := OpIs.get (ops := rops) (k := 7) (d := 144) (g := some (4, true)) (op := .build 27 #[(0, .const (.bool true)), (1, .tmp 143)]) (opIs_of (by kernel_rfl))
    refine wpAnyH_take (fuel := 64) ho7 nosel (by kernel_rfl) (by kernel_rfl) (fun c a w => hQ c _ _ a w) (.inl ⟨hG1 o7 hgd7, fun w _ => run_build5 hs1 hop7⟩) (hS _ hB1) ?_
    rw [hd7]
    have hF2 := hF1.put (d := 144) (by decide) (.agg #[.bool true, .slice (some ⟨w.heap.size, 0, none⟩) 1 1])
    have hs2 := get_put_same (a := a1) (d := 144) (.agg #[.bool true, .slice (some ⟨w.heap.size, 0, none⟩) 1 1]) (by rw [hF1.size]; decide)
    have hg2 := (get_put_ne (a := a1) (d := 144) (t := 141) (.agg #[.bool true, .slice (some ⟨w.heap.size, 0, none⟩) 1 1]) (by decide)).trans hg1
    generalize a1.put (some 144) (.agg #[.bool true, .slice (some ⟨w.heap.size, 0, none⟩) 1 1]) = a2 at *
    generalize Value.agg #[.bool true, .slice (some ⟨w.heap.size, 0, none⟩) 1 1] = vl at *
    have hG2 := guard_of (ops := rops) (j := 4) (by kernel_rfl) hg2
    refine wpAnyH_all (fuel := 63) (rs := [5]) (by kernel_rfl) (by simp) fun i hi => ?_
    obtain rfl : i = 5 := by simpa using hi
    refine wpOp_call (d := 142) (g := some (4, true)) (op := .call { callee := .value (.func 12), args := #[.const (.int .i64 (-5))], argTypes := #[2] }) (opIs_of (by kernel_rfl)) hG2 (fun o ho => run_call1 ho) ?_
    refine (Of_any (-5) _ (by omega) (by omega)).mono ?_
    rintro e w2 ⟨vo, rfl, ho, hb⟩
    have hB2 := step_below hB1 hb
    refine ⟨vo, rfl, hS _ hB2, ?_⟩
    have hm : (((mask 71 5).setIfInBounds 6 true).setIfInBounds 7 true).setIfInBounds 5 true = mask 71 8 := by kernel_rfl
    rw [hm]
    exact next _ _ _ _ (hF2.put (by decide) _) ((get_put_ne _ (by decide)).trans hg2) (get_put_same _ (by rw [hF2.size]; decide)) ((get_put_ne _ (by decide)).trans hs2) ho (hl.into hb) hB2

/-- A call behind gate g. -/
theorem callG {k d f gi g : Nat} {op : Op} {vs : Array Value} (R : Value → World → Prop) (hk : nextAt rops k = true) (ho : OpIs rops k d (some (gi, true)) op) (hgi : (rops[gi]?).bind (·.dst) = some g)
    (h1 : 137 ≤ d) (h2 : d < 207) (hne : d ≠ g) (hS : ∀ w, Below W0.heap.size W0 w → S w) (hF : Fr 207 137 a0 a) (hg : Tr a g) (hB : Below W0.heap.size W0 w)
    (hr : ∀ o : Oper, o.op = op → (execOp a.eval o).run Tryd.prog w = .ok (.enter f vs) w)
    (hc : Calls Tryd.prog f vs w fun e w' => ∃ v, e = .returned v ∧ R v w' ∧ Below w.heap.size w w')
    (next : ∀ v a' w', Fr 207 137 a0 a' → Tr a' g → a'.tmps[d]? = some v → (∀ t u, d ≠ t → a.tmps[t]? = some u → a'.tmps[t]? = some u) → R v w' → Below w.heap.size w w' → Below W0.heap.size W0 w' → AtS Q S (k + 1) a' w') : AtS Q S k a w := by
  refine At.call hk ho (guard_of hgi hg) hr (hc.mono ?_)
  rintro e w' ⟨v, rfl, hR, hb⟩
  exact ⟨v, rfl, hS _ (step_below hB hb), next v _ w' (hF.put h1 _) ((get_put_ne _ hne).trans hg) (get_put_same _ (by rw [hF.size]; exact h2)) (fun t u ht h => (get_put_ne _ ht).trans h) hR hb (step_below hB hb)⟩
/-- A value behind gate g. -/
theorem pureG {k d gi g : Nat} {op : Op} {v : Value} (hk : pureAt rops k = true) (ho : OpIs rops k d (some (gi, true)) op) (hgi : (rops[gi]?).bind (·.dst) = some g)
    (h1 : 137 ≤ d) (h2 : d < 207) (hne : d ≠ g) (hQ : ∀ c d v a w, Q (.panic c) (a.put d v) w → Q (.panic c) a w) (hS : ∀ w, Below W0.heap.size W0 w → S w) (hF : Fr 207 137 a0 a) (hg : Tr a g) (hB : Below W0.heap.size W0 w)
    (hr : ∀ o : Oper, o.op = op → ∀ w, S w → (execOp a.eval o).run Tryd.prog w = .ok (.value v) w)
    (next : ∀ a', Fr 207 137 a0 a' → Tr a' g → a'.tmps[d]? = some v → (∀ t u, d ≠ t → a.tmps[t]? = some u → a'.tmps[t]? = some u) → AtS Q S (k + 1) a' w) : AtS Q S k a w :=
  At.pure nosel hk ho hQ (guard_of hgi hg) hr (hS _ hB)
    (next _ (hF.put h1 _) ((get_put_ne _ hne).trans hg) (get_put_same _ (by rw [hF.size]; exact h2)) (fun t u ht h => (get_put_ne _ ht).trans h))
/-- An alloc behind gate g. -/
theorem allocG {k d gi g : Nat} {op : Op} {v : Value} {O : Obj} (hk : nextAt rops k = true) (ho : OpIs rops k d (some (gi, true)) op) (hgi : (rops[gi]?).bind (·.dst) = some g)
    (h1 : 137 ≤ d) (h2 : d < 207) (hne : d ≠ g) (hS : ∀ w, Below W0.heap.size W0 w → S w) (hF : Fr 207 137 a0 a) (hg : Tr a g) (hB : Below W0.heap.size W0 w)
    (hr : ∀ o : Oper, o.op = op → (execOp a.eval o).run Tryd.prog w = .ok (.value v) (w.alloc O))
    (next : ∀ a', Fr 207 137 a0 a' → Tr a' g → a'.tmps[d]? = some v → (∀ t u, d ≠ t → a.tmps[t]? = some u → a'.tmps[t]? = some u) → Below W0.heap.size W0 (w.alloc O) → AtS Q S (k + 1) a' (w.alloc O)) : AtS Q S k a w :=
  At.value hk ho (guard_of hgi hg) hr (hS _ (step_below hB (below_alloc _ _)))
    (next _ (hF.put h1 _) ((get_put_ne _ hne).trans hg) (get_put_same _ (by rw [hF.size]; exact h2)) (fun t u ht h => (get_put_ne _ ht).trans h) (step_below hB (below_alloc _ _)))

theorem seg8 (hQ : ∀ c d v a w, Q (.panic c) (a.put d v) w → Q (.panic c) a w) (hS : ∀ w, Below W0.heap.size W0 w → S w)
    (hF : Fr 207 137 a0 a) (hB : Below W0.heap.size W0 w) (hg : Tr a 141) {vo vl : Value} (hs142 : a.tmps[142]? = some vo) (hs144 : a.tmps[144]? = some vl) (ho : IntAt w vo (-5)) (hl : IntAt w vl (-5))
    (next : ∀ a' w', Fr 207 137 a0 a' → Tr a' 147 → Below W0.heap.size W0 w' → AtS Q S 11 a' w') : AtS Q S 8 a w := by
  refine callG (op := (.call { callee := .value (.func 10), args := #[.tmp 142, .tmp 144], argTypes := #[27, 27] })) (d := 145) (gi := 4) (g := 141) (fun v _ => v = .bool true) (by kernel_rfl) (opIs_of (by kernel_rfl)) (by kernel_rfl) (by decide) (by decide) (by decide) hS hF hg hB (fun o ho => run_callSame hs142 hs144 ho) ((Same_lit _ _ (-5) _ ho hl (by decide)).mono fun e w' ⟨he, hb⟩ => ⟨_, he, rfl, hb⟩) ?_
  rintro v a1 w1 hF1 hg1 hs145 kp rfl hb hB1
  exact tail (g := 141) (c := 145) (p := 146) (opIs_of (by kernel_rfl)) (opIs_of (by kernel_rfl)) (by kernel_rfl) (by kernel_rfl) (by decide) (by decide) (by decide) (by decide) hQ hS hF1 hg1 hs145 hB1 (fun a' h1 h2 => next a' _ h1 h2 hB1)

theorem seg11 (hQ : ∀ c d v a w, Q (.panic c) (a.put d v) w → Q (.panic c) a w) (hS : ∀ w, Below W0.heap.size W0 w → S w)
    (hF : Fr 207 137 a0 a) (hB : Below W0.heap.size W0 w) (hg : Tr a 147) {gp : Nat} {bp : Bool} {Ap : Option Addr} {kp cp : Nat} (h10 : a0.tmps[10]? = some (.pointer (some ⟨gp, 0, none⟩)))
    (hSp : ∀ w, S w → w.cell? ⟨gp, 0, none⟩ = some (.bool bp) ∧ w.cell? ⟨gp, 1, none⟩ = some (.slice Ap kp cp)) (hP : ∀ w, Below W0.heap.size W0 w → IntAt w (.agg #[.bool bp, .slice Ap kp cp]) 4294967296)
    (next : ∀ a' w', Fr 207 137 a0 a' → Tr a' 153 → Below W0.heap.size W0 w' → AtS Q S 17 a' w') : AtS Q S 11 a w := by
  have hF0 := hF
  have hg0 := hg
  have hB0 := hB
  refine pureG (op := .load 27 (.tmp 10)) (d := 148) (gi := 10) (g := 147) (by kernel_rfl) (opIs_of (by kernel_rfl)) (by kernel_rfl) (by decide) (by decide) (by decide) hQ hS hF0 hg0 hB0 (fun o ho w hw => run_loadI ((hF0.low 10 (by decide)).trans h10) (hSp w hw).1 (hSp w hw).2 ho) ?_
  intro a1 hF1 hg1 hs148 _
  refine allocG (op := .buildSlice 22 2 #[(0, .const (.int .u32 0)), (1, .const (.int .u32 1))]) (d := 149) (gi := 10) (g := 147) (by kernel_rfl) (opIs_of (by kernel_rfl)) (by kernel_rfl) (by decide) (by decide) (by decide) hS hF1 hg1 hB0 (fun o ho => run_slice01 ho) ?_
  intro a2 hF2 hg2 hs149 k2 hB2
  replace hs148 := k2 148 _ (by decide) hs148
  refine pureG (op := .build 27 #[(1, .tmp 149)]) (d := 150) (gi := 10) (g := 147) (by kernel_rfl) (opIs_of (by kernel_rfl)) (by kernel_rfl) (by decide) (by decide) (by decide) hQ hS hF2 hg2 hB2 (fun o ho w _ => run_buildF hs149 ho) ?_
  intro a3 hF3 hg3 hs150 k3
  replace hs148 := k3 148 _ (by decide) hs148
  refine callG (op := (.call { callee := .value (.func 10), args := #[.tmp 148, .tmp 150], argTypes := #[27, 27] })) (d := 151) (gi := 10) (g := 147) (fun v _ => v = .bool true) (by kernel_rfl) (opIs_of (by kernel_rfl)) (by kernel_rfl) (by decide) (by decide) (by decide) hS hF3 hg3 hB2 (fun o ho => run_callSame hs148 hs150 ho) ((Same_lit _ _ (4294967296) _ (hP _ hB2) (lit_p32 _) (by decide)).mono fun e w' ⟨he, hb⟩ => ⟨_, he, rfl, hb⟩) ?_
  rintro v a4 w4 hF4 hg4 hs151 _ rfl hb hB4
  exact tail (g := 147) (c := 151) (p := 152) (opIs_of (by kernel_rfl)) (opIs_of (by kernel_rfl)) (by kernel_rfl) (by kernel_rfl) (by decide) (by decide) (by decide) (by decide) hQ hS hF4 hg4 hs151 hB4 (fun a' h1 h2 => next a' _ h1 h2 hB4)

theorem seg17 (hQ : ∀ c d v a w, Q (.panic c) (a.put d v) w → Q (.panic c) a w) (hS : ∀ w, Below W0.heap.size W0 w → S w)
    (hF : Fr 207 137 a0 a) (hB : Below W0.heap.size W0 w) (hg : Tr a 153) {gp : Nat} {bp : Bool} {Ap : Option Addr} {kp cp : Nat} (h18 : a0.tmps[18]? = some (.pointer (some ⟨gp, 0, none⟩)))
    (hSp : ∀ w, S w → w.cell? ⟨gp, 0, none⟩ = some (.bool bp) ∧ w.cell? ⟨gp, 1, none⟩ = some (.slice Ap kp cp)) (hP : ∀ w, Below W0.heap.size W0 w → IntAt w (.agg #[.bool bp, .slice Ap kp cp]) (-7))
    (next : ∀ a' w', Fr 207 137 a0 a' → Tr a' 158 → Below W0.heap.size W0 w' → AtS Q S 22 a' w') : AtS Q S 17 a w := by
  have hF0 := hF
  have hg0 := hg
  have hB0 := hB
  refine pureG (op := .load 27 (.tmp 18)) (d := 154) (gi := 16) (g := 153) (by kernel_rfl) (opIs_of (by kernel_rfl)) (by kernel_rfl) (by decide) (by decide) (by decide) hQ hS hF0 hg0 hB0 (fun o ho w hw => run_loadI ((hF0.low 18 (by decide)).trans h18) (hSp w hw).1 (hSp w hw).2 ho) ?_
  intro a1 hF1 hg1 hs154 _
  have hB1 := hB0
  refine callG (op := (.call { callee := .value (.func 15), args := #[.const (.int .i64 (-7))], argTypes := #[2] })) (d := 155) (gi := 16) (g := 153) (fun v w' => IntAt w' v (-7)) (by kernel_rfl) (opIs_of (by kernel_rfl)) (by kernel_rfl) (by decide) (by decide) (by decide) hS hF1 hg1 hB1 (fun o ho => run_callROf ho) (ROf_any (-7) _ (by omega) (by omega)) ?_
  intro v2 a2 w2 hF2 hg2 hs155 kp hv155 hb hB2
  replace hs154 := kp 154 _ (by decide) hs154
  clear kp hb
  refine callG (op := (.call { callee := .value (.func 10), args := #[.tmp 154, .tmp 155], argTypes := #[27, 27] })) (d := 156) (gi := 16) (g := 153) (fun v _ => v = .bool true) (by kernel_rfl) (opIs_of (by kernel_rfl)) (by kernel_rfl) (by decide) (by decide) (by decide) hS hF2 hg2 hB2 (fun o ho => run_callSame hs154 hs155 ho) ((Same_lit _ _ (-7) _ (hP _ hB2) hv155 (by decide)).mono fun e w' ⟨he, hb⟩ => ⟨_, he, rfl, hb⟩) ?_
  rintro v a3 w3 hF3 hg3 hs156 _ rfl hb hB3
  exact tail (g := 153) (c := 156) (p := 157) (opIs_of (by kernel_rfl)) (opIs_of (by kernel_rfl)) (by kernel_rfl) (by kernel_rfl) (by decide) (by decide) (by decide) (by decide) hQ hS hF3 hg3 hs156 hB3 (fun a' h1 h2 => next a' _ h1 h2 hB3)

theorem seg25 (hQ : ∀ c d v a w, Q (.panic c) (a.put d v) w → Q (.panic c) a w) (hS : ∀ w, Below W0.heap.size W0 w → S w)
    (hF : Fr 207 137 a0 a) (hB : Below W0.heap.size W0 w) (hg : Tr a 161) (h22 : a0.tmps[22]? = some (.int .i64 (-9223372036854775808)))
    (next : ∀ a' w', Fr 207 137 a0 a' → Tr a' 165 → Below W0.heap.size W0 w' → AtS Q S 29 a' w') : AtS Q S 25 a w := by
  have hF0 := hF
  have hg0 := hg
  have hB0 := hB
  refine pureG (op := .move (.tmp 22)) (d := 162) (gi := 24) (g := 161) (by kernel_rfl) (opIs_of (by kernel_rfl)) (by kernel_rfl) (by decide) (by decide) (by decide) hQ hS hF0 hg0 hB0 (fun o ho w _ => run_move' ((hF0.low 22 (by decide)).trans h22) ho) ?_
  intro a1 hF1 hg1 hs162 _
  refine pureG (op := .binOp .eql 2 (.tmp 162) (.const (.int .i64 (-9223372036854775808))) 2) (d := 163) (gi := 24) (g := 161) (by kernel_rfl) (opIs_of (by kernel_rfl)) (by kernel_rfl) (by decide) (by decide) (by decide) hQ hS hF1 hg1 hB0 (fun o ho w _ => run_eqI' hs162 ho) ?_
  intro a2 hF2 hg2 hs163 _
  have hB2 := hB0
  exact tail (g := 161) (c := 163) (p := 164) (opIs_of (by kernel_rfl)) (opIs_of (by kernel_rfl)) (by kernel_rfl) (by kernel_rfl) (by decide) (by decide) (by decide) (by decide) hQ hS hF2 hg2 hs163 hB2 (fun a' h1 h2 => next a' _ h1 h2 hB2)

theorem seg32 (hQ : ∀ c d v a w, Q (.panic c) (a.put d v) w → Q (.panic c) a w) (hS : ∀ w, Below W0.heap.size W0 w → S w)
    (hF : Fr 207 137 a0 a) (hB : Below W0.heap.size W0 w) (hg : Tr a 168)
    (next : ∀ a' w', Fr 207 137 a0 a' → Tr a' 175 → Below W0.heap.size W0 w' → AtS Q S 39 a' w') : AtS Q S 32 a w := by
  have hF0 := hF
  have hg0 := hg
  have hB0 := hB
  refine callG (op := (.call { callee := .value (.func 12), args := #[.const (.int .i64 (-12))], argTypes := #[2] })) (d := 169) (gi := 31) (g := 168) (fun v w' => IntAt w' v (-12)) (by kernel_rfl) (opIs_of (by kernel_rfl)) (by kernel_rfl) (by decide) (by decide) (by decide) hS hF0 hg0 hB0 (fun o ho => run_call1 ho) (Of_any (-12) _ (by omega) (by omega)) ?_
  intro v1 a1 w1 hF1 hg1 hs169 kp hv169 hb hB1
  clear kp hb
  refine callG (op := (.call { callee := .value (.func 12), args := #[.const (.int .i64 (18))], argTypes := #[2] })) (d := 170) (gi := 31) (g := 168) (fun v w' => IntAt w' v (18)) (by kernel_rfl) (opIs_of (by kernel_rfl)) (by kernel_rfl) (by decide) (by decide) (by decide) hS hF1 hg1 hB1 (fun o ho => run_call1 ho) (Of_any (18) _ (by omega) (by omega)) ?_
  intro v2 a2 w2 hF2 hg2 hs170 kp hv170 hb hB2
  replace hs169 := kp 169 _ (by decide) hs169
  replace hv169 := hv169.into hb
  clear kp hb
  refine callG (op := (.call { callee := .value (.func 16), args := #[.tmp 169, .tmp 170], argTypes := #[27, 27] })) (d := 171) (gi := 31) (g := 168) (fun v w' => IntAt w' v 6) (by kernel_rfl) (opIs_of (by kernel_rfl)) (by kernel_rfl) (by decide) (by decide) (by decide) hS hF2 hg2 hB2 (fun o ho => run_callGcd hs169 hs170 ho) (Gcd_lit _ _ (-12) 18 6 _ hv169 hv170 (by decide) (by decide) (by decide)) ?_
  intro v3 a3 w3 hF3 hg3 hs171 kp hv171 hb hB3
  clear kp hb
  refine callG (op := (.call { callee := .value (.func 15), args := #[.const (.int .i64 (6))], argTypes := #[2] })) (d := 172) (gi := 31) (g := 168) (fun v w' => IntAt w' v (6)) (by kernel_rfl) (opIs_of (by kernel_rfl)) (by kernel_rfl) (by decide) (by decide) (by decide) hS hF3 hg3 hB3 (fun o ho => run_callROf ho) (ROf_any (6) _ (by omega) (by omega)) ?_
  intro v4 a4 w4 hF4 hg4 hs172 kp hv172 hb hB4
  replace hs171 := kp 171 _ (by decide) hs171
  replace hv171 := hv171.into hb
  clear kp hb
  refine callG (op := (.call { callee := .value (.func 10), args := #[.tmp 171, .tmp 172], argTypes := #[27, 27] })) (d := 173) (gi := 31) (g := 168) (fun v _ => v = .bool true) (by kernel_rfl) (opIs_of (by kernel_rfl)) (by kernel_rfl) (by decide) (by decide) (by decide) hS hF4 hg4 hB4 (fun o ho => run_callSame hs171 hs172 ho) ((Same_lit _ _ (6) _ hv171 hv172 (by decide)).mono fun e w' ⟨he, hb⟩ => ⟨_, he, rfl, hb⟩) ?_
  rintro v a5 w5 hF5 hg5 hs173 _ rfl hb hB5
  exact tail (g := 168) (c := 173) (p := 174) (opIs_of (by kernel_rfl)) (opIs_of (by kernel_rfl)) (by kernel_rfl) (by kernel_rfl) (by decide) (by decide) (by decide) (by decide) hQ hS hF5 hg5 hs173 hB5 (fun a' h1 h2 => next a' _ h1 h2 hB5)

theorem seg39 (hQ : ∀ c d v a w, Q (.panic c) (a.put d v) w → Q (.panic c) a w) (hS : ∀ w, Below W0.heap.size W0 w → S w)
    (hF : Fr 207 137 a0 a) (hB : Below W0.heap.size W0 w) (hg : Tr a 175)
    (next : ∀ a' w', Fr 207 137 a0 a' → Tr a' 182 → Below W0.heap.size W0 w' → AtS Q S 46 a' w') : AtS Q S 39 a w := by
  have hF0 := hF
  have hg0 := hg
  have hB0 := hB
  refine callG (op := (.call { callee := .value (.func 12), args := #[.const (.int .i64 (0))], argTypes := #[2] })) (d := 176) (gi := 38) (g := 175) (fun v w' => IntAt w' v (0)) (by kernel_rfl) (opIs_of (by kernel_rfl)) (by kernel_rfl) (by decide) (by decide) (by decide) hS hF0 hg0 hB0 (fun o ho => run_call1 ho) (Of_any (0) _ (by omega) (by omega)) ?_
  intro v1 a1 w1 hF1 hg1 hs176 kp hv176 hb hB1
  clear kp hb
  refine callG (op := (.call { callee := .value (.func 12), args := #[.const (.int .i64 (0))], argTypes := #[2] })) (d := 177) (gi := 38) (g := 175) (fun v w' => IntAt w' v (0)) (by kernel_rfl) (opIs_of (by kernel_rfl)) (by kernel_rfl) (by decide) (by decide) (by decide) hS hF1 hg1 hB1 (fun o ho => run_call1 ho) (Of_any (0) _ (by omega) (by omega)) ?_
  intro v2 a2 w2 hF2 hg2 hs177 kp hv177 hb hB2
  replace hs176 := kp 176 _ (by decide) hs176
  replace hv176 := hv176.into hb
  clear kp hb
  refine callG (op := (.call { callee := .value (.func 16), args := #[.tmp 176, .tmp 177], argTypes := #[27, 27] })) (d := 178) (gi := 38) (g := 175) (fun v w' => IntAt w' v 0) (by kernel_rfl) (opIs_of (by kernel_rfl)) (by kernel_rfl) (by decide) (by decide) (by decide) hS hF2 hg2 hB2 (fun o ho => run_callGcd hs176 hs177 ho) (Gcd_lit _ _ 0 0 0 _ hv176 hv177 (by decide) (by decide) (by decide)) ?_
  intro v3 a3 w3 hF3 hg3 hs178 kp hv178 hb hB3
  clear kp hb
  refine callG (op := (.call { callee := .value (.func 17), args := #[.tmp 178], argTypes := #[27] })) (d := 179) (gi := 38) (g := 175) (fun v _ => v = .int .i64 0) (by kernel_rfl) (opIs_of (by kernel_rfl)) (by kernel_rfl) (by decide) (by decide) (by decide) hS hF3 hg3 hB3 (fun o ho => run_callSign hs178 ho) ((Sign_zero _ _ hv178).mono fun e w' ⟨he, hb⟩ => ⟨_, he, rfl, hb⟩) ?_
  rintro v a4 w4 hF4 hg4 hs179 _ rfl hb hB4
  refine pureG (op := .binOp .eql 3 (.tmp 179) (.const (.int .i64 0)) 3) (d := 180) (gi := 38) (g := 175) (by kernel_rfl) (opIs_of (by kernel_rfl)) (by kernel_rfl) (by decide) (by decide) (by decide) hQ hS hF4 hg4 hB4 (fun o ho w _ => run_eqI' hs179 ho) ?_
  intro a5 hF5 hg5 hs180 _
  have hB5 := hB4
  exact tail (g := 175) (c := 180) (p := 181) (opIs_of (by kernel_rfl)) (opIs_of (by kernel_rfl)) (by kernel_rfl) (by kernel_rfl) (by decide) (by decide) (by decide) (by decide) hQ hS hF5 hg5 hs180 hB5 (fun a' h1 h2 => next a' _ h1 h2 hB5)

theorem seg46 (hQ : ∀ c d v a w, Q (.panic c) (a.put d v) w → Q (.panic c) a w) (hS : ∀ w, Below W0.heap.size W0 w → S w)
    (hF : Fr 207 137 a0 a) (hB : Below W0.heap.size W0 w) (hg : Tr a 182) (hT : P10 W0)
    (next : ∀ a' w', Fr 207 137 a0 a' → Tr a' 187 → Below W0.heap.size W0 w' → AtS Q S 51 a' w') : AtS Q S 46 a w := by
  have hF0 := hF
  have hg0 := hg
  have hB0 := hB
  refine callG (op := (.call { callee := .value (.func 12), args := #[.const (.int .i64 (-120))], argTypes := #[2] })) (d := 183) (gi := 45) (g := 182) (fun v w' => IntAt w' v (-120)) (by kernel_rfl) (opIs_of (by kernel_rfl)) (by kernel_rfl) (by decide) (by decide) (by decide) hS hF0 hg0 hB0 (fun o ho => run_call1 ho) (Of_any (-120) _ (by omega) (by omega)) ?_
  intro v1 a1 w1 hF1 hg1 hs183 kp hv183 hb hB1
  clear kp hb
  refine callG (op := (.call { callee := .value (.func 6), args := #[.tmp 183], argTypes := #[27] })) (d := 184) (gi := 45) (g := 182) (fun v _ => v = .string ⟨#[45, 49, 50, 48]⟩) (by kernel_rfl) (opIs_of (by kernel_rfl)) (by kernel_rfl) (by decide) (by decide) (by decide) hS hF1 hg1 hB1 (fun o ho => run_callText hs183 ho) ((Text_m120 _ _ hv183 (tab_below hT hB1)).mono fun e w' ⟨he, hb⟩ => ⟨_, he, rfl, hb⟩) ?_
  rintro v a2 w2 hF2 hg2 hs184 _ rfl hb hB2
  refine pureG (op := .binOp .eql 9 (.tmp 184) (.const (.string ⟨#[45, 49, 50, 48]⟩)) 9) (d := 185) (gi := 45) (g := 182) (v := .bool true) (by kernel_rfl) (opIs_of (by kernel_rfl)) (by kernel_rfl) (by decide) (by decide) (by decide) hQ hS hF2 hg2 hB2 (fun o ho w _ => by rw [run_eqS' hs184 ho]; simp) ?_
  intro a3 hF3 hg3 hs185 _
  have hB3 := hB2
  exact tail (g := 182) (c := 185) (p := 186) (opIs_of (by kernel_rfl)) (opIs_of (by kernel_rfl)) (by kernel_rfl) (by kernel_rfl) (by decide) (by decide) (by decide) (by decide) hQ hS hF3 hg3 hs185 hB3 (fun a' h1 h2 => next a' _ h1 h2 hB3)

theorem seg51 (hQ : ∀ c d v a w, Q (.panic c) (a.put d v) w → Q (.panic c) a w) (hS : ∀ w, Below W0.heap.size W0 w → S w)
    (hF : Fr 207 137 a0 a) (hB : Below W0.heap.size W0 w) (hg : Tr a 187)
    (next : ∀ a' w', Fr 207 137 a0 a' → Tr a' 192 → Below W0.heap.size W0 w' → AtS Q S 56 a' w') : AtS Q S 51 a w := by
  have hF0 := hF
  have hg0 := hg
  have hB0 := hB
  refine callG (op := (.call { callee := .value (.func 12), args := #[.const (.int .i64 (0))], argTypes := #[2] })) (d := 188) (gi := 50) (g := 187) (fun v w' => IntAt w' v (0)) (by kernel_rfl) (opIs_of (by kernel_rfl)) (by kernel_rfl) (by decide) (by decide) (by decide) hS hF0 hg0 hB0 (fun o ho => run_call1 ho) (Of_any (0) _ (by omega) (by omega)) ?_
  intro v1 a1 w1 hF1 hg1 hs188 kp hv188 hb hB1
  clear kp hb
  refine callG (op := (.call { callee := .value (.func 6), args := #[.tmp 188], argTypes := #[27] })) (d := 189) (gi := 50) (g := 187) (fun v _ => v = .string ⟨#[48]⟩) (by kernel_rfl) (opIs_of (by kernel_rfl)) (by kernel_rfl) (by decide) (by decide) (by decide) hS hF1 hg1 hB1 (fun o ho => run_callText hs188 ho) ((Text_zero _ _ hv188).mono fun e w' ⟨he, hb⟩ => ⟨_, he, rfl, hb⟩) ?_
  rintro v a2 w2 hF2 hg2 hs189 _ rfl hb hB2
  refine pureG (op := .binOp .eql 9 (.tmp 189) (.const (.string ⟨#[48]⟩)) 9) (d := 190) (gi := 50) (g := 187) (v := .bool true) (by kernel_rfl) (opIs_of (by kernel_rfl)) (by kernel_rfl) (by decide) (by decide) (by decide) hQ hS hF2 hg2 hB2 (fun o ho w _ => by rw [run_eqS' hs189 ho]; simp) ?_
  intro a3 hF3 hg3 hs190 _
  have hB3 := hB2
  exact tail (g := 187) (c := 190) (p := 191) (opIs_of (by kernel_rfl)) (opIs_of (by kernel_rfl)) (by kernel_rfl) (by kernel_rfl) (by decide) (by decide) (by decide) (by decide) hQ hS hF3 hg3 hs190 hB3 (fun a' h1 h2 => next a' _ h1 h2 hB3)

theorem seg56 (hQ : ∀ c d v a w, Q (.panic c) (a.put d v) w → Q (.panic c) a w) (hS : ∀ w, Below W0.heap.size W0 w → S w)
    (hF : Fr 207 137 a0 a) (hB : Below W0.heap.size W0 w) (hg : Tr a 192)
    (next : ∀ a' w', Fr 207 137 a0 a' → Tr a' 196 → Below W0.heap.size W0 w' → AtS Q S 60 a' w') : AtS Q S 56 a w := by
  have hF0 := hF
  have hg0 := hg
  have hB0 := hB
  refine callG (op := (.call { callee := .value (.func 12), args := #[.const (.int .i64 (0))], argTypes := #[2] })) (d := 193) (gi := 55) (g := 192) (fun v w' => IntAt w' v (0)) (by kernel_rfl) (opIs_of (by kernel_rfl)) (by kernel_rfl) (by decide) (by decide) (by decide) hS hF0 hg0 hB0 (fun o ho => run_call1 ho) (Of_any (0) _ (by omega) (by omega)) ?_
  intro v1 a1 w1 hF1 hg1 hs193 kp hv193 hb hB1
  clear kp hb
  refine callG (op := (.call { callee := .value (.func 18), args := #[.tmp 193], argTypes := #[27] })) (d := 194) (gi := 55) (g := 192) (fun v _ => v = .bool true) (by kernel_rfl) (opIs_of (by kernel_rfl)) (by kernel_rfl) (by decide) (by decide) (by decide) hS hF1 hg1 hB1 (fun o ho => run_callValid hs193 ho) ((Valid_lit _ _ _ hv193 (by decide)).mono fun e w' ⟨he, hb⟩ => ⟨_, he, rfl, hb⟩) ?_
  rintro v a2 w2 hF2 hg2 hs194 _ rfl hb hB2
  exact tail (g := 192) (c := 194) (p := 195) (opIs_of (by kernel_rfl)) (opIs_of (by kernel_rfl)) (by kernel_rfl) (by kernel_rfl) (by decide) (by decide) (by decide) (by decide) hQ hS hF2 hg2 hs194 hB2 (fun a' h1 h2 => next a' _ h1 h2 hB2)

theorem seg60 (hQ : ∀ c d v a w, Q (.panic c) (a.put d v) w → Q (.panic c) a w) (hS : ∀ w, Below W0.heap.size W0 w → S w)
    (hF : Fr 207 137 a0 a) (hB : Below W0.heap.size W0 w) (hg : Tr a 196)
    (next : ∀ a' w', Fr 207 137 a0 a' → Tr a' 201 → Below W0.heap.size W0 w' → AtS Q S 65 a' w') : AtS Q S 60 a w := by
  have hF0 := hF
  have hg0 := hg
  have hB0 := hB
  refine pureG (op := .build 27 #[(0, .const (.bool true))]) (d := 197) (gi := 59) (g := 196) (by kernel_rfl) (opIs_of (by kernel_rfl)) (by kernel_rfl) (by decide) (by decide) (by decide) hQ hS hF0 hg0 hB0 (fun o ho w _ => run_buildT ho) ?_
  intro a1 hF1 hg1 hs197 _
  refine callG (op := (.call { callee := .value (.func 18), args := #[.tmp 197], argTypes := #[27] })) (d := 198) (gi := 59) (g := 196) (fun v _ => v = .bool false) (by kernel_rfl) (opIs_of (by kernel_rfl)) (by kernel_rfl) (by decide) (by decide) (by decide) hS hF1 hg1 hB0 (fun o ho => run_callValid hs197 ho) ((Valid_nil _).mono fun e w' ⟨he, hb⟩ => ⟨_, he, rfl, hb⟩) ?_
  rintro v a2 w2 hF2 hg2 hs198 _ rfl hb hB2
  refine pureG (op := .unOp .not 4 (.tmp 198)) (d := 199) (gi := 59) (g := 196) (by kernel_rfl) (opIs_of (by kernel_rfl)) (by kernel_rfl) (by decide) (by decide) (by decide) hQ hS hF2 hg2 hB2 (fun o ho w _ => run_not' hs198 ho) ?_
  intro a3 hF3 hg3 hs199 _
  have hB3 := hB2
  exact tail (g := 196) (c := 199) (p := 200) (opIs_of (by kernel_rfl)) (opIs_of (by kernel_rfl)) (by kernel_rfl) (by kernel_rfl) (by decide) (by decide) (by decide) (by decide) hQ hS hF3 hg3 hs199 hB3 (fun a' h1 h2 => next a' _ h1 h2 hB3)

theorem seg65 (hQ : ∀ c d v a w, Q (.panic c) (a.put d v) w → Q (.panic c) a w) (hS : ∀ w, Below W0.heap.size W0 w → S w)
    (hF : Fr 207 137 a0 a) (hB : Below W0.heap.size W0 w) (hg : Tr a 201)
    (fin : ∀ a' w', a'.tmps.size = 207 → Tr a' 0 → a'.defers = a0.defers → Below W0.heap.size W0 w' → Q .normal a' w') : AtS Q S 65 a w := by
  refine allocG (op := .buildSlice 22 1 #[(0, .const (.int .u32 0))]) (d := 202) (gi := 64) (g := 201) (by kernel_rfl) (opIs_of (by kernel_rfl)) (by kernel_rfl) (by decide) (by decide) (by decide) hS hF hg hB (fun o ho => run_slice0 ho) ?_
  intro a1 hF1 hg1 hs202 _ hB1
  refine pureG (op := .build 27 #[(1, .tmp 202)]) (d := 203) (gi := 64) (g := 201) (by kernel_rfl) (opIs_of (by kernel_rfl)) (by kernel_rfl) (by decide) (by decide) (by decide) hQ hS hF1 hg1 hB1 (fun o ho w _ => run_buildF hs202 ho) ?_
  intro a2 hF2 hg2 hs203 _
  refine callG (op := (.call { callee := .value (.func 18), args := #[.tmp 203], argTypes := #[27] })) (d := 204) (gi := 64) (g := 201) (fun v _ => v = .bool false) (by kernel_rfl) (opIs_of (by kernel_rfl)) (by kernel_rfl) (by decide) (by decide) (by decide) hS hF2 hg2 hB1 (fun o ho => run_callValid hs203 ho) ((Valid_new0 _).mono fun e w' ⟨he, hb⟩ => ⟨_, he, rfl, hb⟩) ?_
  rintro v a3 w3 hF3 hg3 hs204 _ rfl hb hB3
  refine pureG (op := .unOp .not 4 (.tmp 204)) (d := 205) (gi := 64) (g := 201) (by kernel_rfl) (opIs_of (by kernel_rfl)) (by kernel_rfl) (by decide) (by decide) (by decide) hQ hS hF3 hg3 hB3 (fun o ho w _ => run_not' hs204 ho) ?_
  intro a4 hF4 hg4 hs205 _
  refine At.pure (v := .bool true) (d := 206) (g := none) (op := .pick (.tmp 201) (.tmp 205) (.const (.bool false))) nosel (by kernel_rfl) (opIs_of (by kernel_rfl)) hQ guard_none (fun o ho w _ => run_pick' (x := true) hg4 hs205 ho) (hS _ hB3) ?_
  have hF5 := hF4.put (d := 206) (by decide) (.bool true)
  have hs5 := get_put_same (a := a4) (d := 206) (.bool true) (by rw [hF4.size]; decide)
  generalize a4.put (some 206) (.bool true) = a5 at *
  refine At.pure (d := 0) (g := none) (op := .assign (.tmp 206)) nosel (by kernel_rfl) (opIs_of (by kernel_rfl)) hQ guard_none (fun o ho w _ => run_assign' hs5 ho) (hS _ hB3) ?_
  refine At.done (by kernel_rfl) (fin _ _ ?_ (get_put_same _ (by rw [hF5.size]; decide)) ?_ hB3)
  · simp [Act.put, hF5.size]
  · simp [Act.put, hF5.defers]

/-- The two boxes that the region reads. -/
def SanS (gp : Nat) (bp : Bool) (Ap : Option Addr) (kp cp : Nat) (g7 : Nat) (b7 : Bool) (A7 : Option Addr) (k7 c7 : Nat) (w : World) : Prop :=
  (w.cell? ⟨gp, 0, none⟩ = some (.bool bp) ∧ w.cell? ⟨gp, 1, none⟩ = some (.slice Ap kp cp)) ∧ (w.cell? ⟨g7, 0, none⟩ = some (.bool b7) ∧ w.cell? ⟨g7, 1, none⟩ = some (.slice A7 k7 c7))
/-- The whole region. -/
theorem region14 {g7 gp : Nat} {bp b7 : Bool} {Ap A7 : Option Addr} {kp cp k7 c7 : Nat} (hQ : ∀ c d v a w, Q (.panic c) (a.put d v) w → Q (.panic c) a w) (hT : P10 W0) (hz : a0.tmps.size = 207)
    (h26 : Tr a0 26) (h27 : Tr a0 27) (h10 : a0.tmps[10]? = some (.pointer (some ⟨gp, 0, none⟩))) (h18 : a0.tmps[18]? = some (.pointer (some ⟨g7, 0, none⟩)))
    (h23 : Tr a0 23) (h22 : a0.tmps[22]? = some (.int .i64 (-9223372036854775808))) (h25 : Tr a0 25)
    (hp : BoxI W0 gp (.agg #[.bool bp, .slice Ap kp cp]) 4294967296) (h7 : BoxI W0 g7 (.agg #[.bool b7, .slice A7 k7 c7]) (-7))
    (fin : ∀ a' w', a'.tmps.size = 207 → Tr a' 0 → a'.defers = a0.defers → Below W0.heap.size W0 w' → Q .normal a' w') : (Code.region 14 rops true).wp Tryd.prog Q a0 W0 := by
  have hS : ∀ w, Below W0.heap.size W0 w → SanS gp bp Ap kp cp g7 b7 A7 k7 c7 w := fun w hb =>
    ⟨(hp.into hb).cells, (h7.into hb).cells⟩
  refine At.begin_ (by kernel_rfl) (hS _ (Below.refl _ _).drew) ?_
  refine seg0 hQ hS (⟨hz, fun _ _ => rfl, rfl⟩ : Fr 207 137 a0 a0) h26 h27 (Below.refl _ _).drew fun a1 hF1 hg1 => ?_
  refine seg5 hQ hS hF1 hg1 (Below.refl _ _).drew fun a2 w2 vo vl hF2 hg2 hs142 hs144 ho hl hB2 => ?_
  refine seg8 hQ hS hF2 hB2 hg2 hs142 hs144 ho hl fun a3 w3 hF3 hg3 hB3 => ?_
  refine seg11 hQ hS hF3 hB3 hg3 h10 (fun w h => h.1) (fun w hb => (hp.into hb).int) fun a4 w4 hF4 hg4 hB4 => ?_
  refine seg17 hQ hS hF4 hB4 hg4 h18 (fun w h => h.2) (fun w hb => (h7.into hb).int) fun a5 w5 hF5 hg5 hB5 => ?_
  refine conj_slot (gi := 21) (s := 23) (c := 159) (p := 160) (g := 158) (g' := 161) (opIs_of (by kernel_rfl)) (opIs_of (by kernel_rfl)) (opIs_of (by kernel_rfl)) (by kernel_rfl) (by kernel_rfl) (by kernel_rfl) (by kernel_rfl) (by decide) (by decide) (by decide) (by decide) (by decide) (by decide) (by decide) (by decide) hQ hS hF5 hg5 h23 hB5 fun a6 hF6 hg6 => ?_
  refine seg25 hQ hS hF6 hB5 hg6 h22 fun a7 w7 hF7 hg7 hB7 => ?_
  refine conj_slot (gi := 28) (s := 25) (c := 166) (p := 167) (g := 165) (g' := 168) (opIs_of (by kernel_rfl)) (opIs_of (by kernel_rfl)) (opIs_of (by kernel_rfl)) (by kernel_rfl) (by kernel_rfl) (by kernel_rfl) (by kernel_rfl) (by decide) (by decide) (by decide) (by decide) (by decide) (by decide) (by decide) (by decide) hQ hS hF7 hg7 h25 hB7 fun a8 hF8 hg8 => ?_
  refine seg32 hQ hS hF8 hB7 hg8 fun a9 w9 hF9 hg9 hB9 => ?_
  refine seg39 hQ hS hF9 hB9 hg9 fun a10 w10 hF10 hg10 hB10 => ?_
  refine seg46 hQ hS hF10 hB10 hg10 hT fun a11 w11 hF11 hg11 hB11 => ?_
  refine seg51 hQ hS hF11 hB11 hg11 fun a12 w12 hF12 hg12 hB12 => ?_
  refine seg56 hQ hS hF12 hB12 hg12 fun a13 w13 hF13 hg13 hB13 => ?_
  refine seg60 hQ hS hF13 hB13 hg13 fun a14 w14 hF14 hg14 hB14 => ?_
  exact seg65 hQ hS hF14 hB14 hg14 fin
theorem region14' {ops : Array Oper} (he : ops = rops) {g7 gp : Nat} {bp b7 : Bool} {Ap A7 : Option Addr} {kp cp k7 c7 : Nat} (hQ : ∀ c d v a w, Q (.panic c) (a.put d v) w → Q (.panic c) a w) (hT : P10 W0) (hz : a0.tmps.size = 207)
    (h26 : Tr a0 26) (h27 : Tr a0 27) (h10 : a0.tmps[10]? = some (.pointer (some ⟨gp, 0, none⟩))) (h18 : a0.tmps[18]? = some (.pointer (some ⟨g7, 0, none⟩)))
    (h23 : Tr a0 23) (h22 : a0.tmps[22]? = some (.int .i64 (-9223372036854775808))) (h25 : Tr a0 25)
    (hp : BoxI W0 gp (.agg #[.bool bp, .slice Ap kp cp]) 4294967296) (h7 : BoxI W0 g7 (.agg #[.bool b7, .slice A7 k7 c7]) (-7))
    (fin : ∀ a' w', a'.tmps.size = 207 → Tr a' 0 → a'.defers = a0.defers → Below W0.heap.size W0 w' → Q .normal a' w') : (Code.region 14 ops true).wp Tryd.prog Q a0 W0 := by
  subst he
  exact region14 hQ hT hz h26 h27 h10 h18 h23 h22 h25 hp h7 fin
end
end Go.Proofs.YtdofolejfdfocaaDoor
namespace Go.Proofs.YtdofolejfdfocaaDoor
open Go.RowKit
set_option maxRecDepth 100000 in
set_option maxHeartbeats 40000000 in
theorem sanity_any (w : World) (htab : P10 w) :
    Calls Tryd.prog 4 #[] w fun e w' => e = .returned (.bool true) ∧ Below w.heap.size w w' := by
  have HT := Lib.hid htab
  clear htab
  have HB := Lib.hid (Below.refl w.heap.size w)
  go_enter Tryd.func4, Tryd.ntmps4
  go_wp2_with fail
  refine (Of_any (-7) _ (by omega) (by omega)).mono ?_
  rintro e w1 ⟨v1, rfl, hv1, hb1⟩
  replace HB := Lib.hid (step_below HB.out hb1)
  have HV1 := Lib.hid hv1
  clear hb1 hv1
  go_wp2_with fail
  refine (Of_any 2 _ (by omega) (by omega)).mono ?_
  rintro e w2 ⟨v2, rfl, hv2, hb2⟩
  replace HB := Lib.hid (step_below HB.out hb2)
  have HV2 := Lib.hid hv2
  replace HV1 := Lib.hid (HV1.out.into hb2)
  clear hb2 hv2
  go_wp2_with fail
  refine (DM_lit _ _ (-7) 2 (-4) 1 _ HV1.out HV2.out (by decide) (by decide) (by decide) (by decide) (by decide)).mono ?_
  rintro e w3 ⟨vq, vr, rfl, hq, hr, hb3⟩
  obtain ⟨bq3, Aq3, kq3, cq3, rfl, Hq⟩ := hq.open_
  obtain ⟨br3, Ar3, kr3, cr3, rfl, Hr⟩ := hr.open_
  replace HB := Lib.hid (step_below HB.out hb3)
  obtain ⟨bx1, bx2, hb⟩ := two_new Hq.out Hr.out
  replace HB := Lib.hid (step_below HB.out hb)
  have BQ := Lib.hid bx1
  have BR := Lib.hid bx2
  clear bx1 bx2 hb hb3 hq hr Hq Hr HV1 HV2
  go_wp2_with fail
  generalize (w3.alloc (.cells #[.bool bq3, .slice Aq3 kq3 cq3] 27)).alloc (.cells #[.bool br3, .slice Ar3 kr3 cr3] 27) = W3 at *
  refine (Of_any 7 _ (by omega) (by omega)).mono ?_
  rintro e w4 ⟨v4, rfl, hv4, hb4⟩
  replace HB := Lib.hid (step_below HB.out hb4)
  replace BQ := Lib.hid (BQ.out.into hb4)
  replace BR := Lib.hid (BR.out.into hb4)
  have HV4 := Lib.hid hv4
  clear hb4 hv4
  go_wp2_with fail
  refine (Of_any (-2) _ (by omega) (by omega)).mono ?_
  rintro e w5 ⟨v5, rfl, hv5, hb5⟩
  replace HB := Lib.hid (step_below HB.out hb5)
  replace BQ := Lib.hid (BQ.out.into hb5)
  replace BR := Lib.hid (BR.out.into hb5)
  have HV5 := Lib.hid hv5
  replace HV4 := Lib.hid (HV4.out.into hb5)
  clear hb5 hv5
  go_wp2_with fail
  refine (DM_lit _ _ 7 (-2) (-3) 1 _ HV4.out HV5.out (by decide) (by decide) (by decide) (by decide) (by decide)).mono ?_
  rintro e w6 ⟨vq, vr, rfl, hq, hr, hb6⟩
  obtain ⟨bq6, Aq6, kq6, cq6, rfl, Hq⟩ := hq.open_
  obtain ⟨br6, Ar6, kr6, cr6, rfl, Hr⟩ := hr.open_
  replace HB := Lib.hid (step_below HB.out hb6)
  replace BQ := Lib.hid (BQ.out.into hb6)
  replace BR := Lib.hid (BR.out.into hb6)
  obtain ⟨bx1, bx2, hb⟩ := two_new Hq.out Hr.out
  replace HB := Lib.hid (step_below HB.out hb)
  replace BQ := Lib.hid (BQ.out.into hb)
  replace BR := Lib.hid (BR.out.into hb)
  have BS := Lib.hid bx1
  have BU := Lib.hid bx2
  clear bx1 bx2 hb hb6 hq hr Hq Hr HV4 HV5
  go_wp2_with fail
  generalize (w6.alloc (.cells #[.bool bq6, .slice Aq6 kq6 cq6] 27)).alloc (.cells #[.bool br6, .slice Ar6 kr6 cr6] 27) = W6 at *
  refine (Of_any 7 _ (by omega) (by omega)).mono ?_
  rintro e w7 ⟨v7, rfl, hv7, hb7⟩
  replace HB := Lib.hid (step_below HB.out hb7)
  replace BQ := Lib.hid (BQ.out.into hb7)
  replace BR := Lib.hid (BR.out.into hb7)
  replace BS := Lib.hid (BS.out.into hb7)
  replace BU := Lib.hid (BU.out.into hb7)
  have HV7 := Lib.hid hv7
  clear hb7 hv7
  go_wp2_with fail
  refine (Of_any 0 _ (by omega) (by omega)).mono ?_
  rintro e w8 ⟨v8, rfl, hv8, hb8⟩
  replace HB := Lib.hid (step_below HB.out hb8)
  replace BQ := Lib.hid (BQ.out.into hb8)
  replace BR := Lib.hid (BR.out.into hb8)
  replace BS := Lib.hid (BS.out.into hb8)
  replace BU := Lib.hid (BU.out.into hb8)
  have HV8 := Lib.hid hv8
  replace HV7 := Lib.hid (HV7.out.into hb8)
  clear hb8 hv8
  go_wp2_with fail
  refine (DivMod_zero _ _ 7 _ HV7.out HV8.out (Nat.le_trans (len_le_two (by decide)) (by decide))).mono ?_
  rintro e w9 ⟨vq, vr, rfl, hq, hr, hb9⟩
  obtain ⟨bq9, Aq9, kq9, cq9, rfl, Hq⟩ := hq.open_
  obtain ⟨br9, Ar9, kr9, cr9, rfl, Hr⟩ := hr.open_
  replace HB := Lib.hid (step_below HB.out hb9)
  replace BQ := Lib.hid (BQ.out.into hb9)
  replace BR := Lib.hid (BR.out.into hb9)
  replace BS := Lib.hid (BS.out.into hb9)
  replace BU := Lib.hid (BU.out.into hb9)
  obtain ⟨bx1, bx2, hb⟩ := two_new Hq.out Hr.out
  replace HB := Lib.hid (step_below HB.out hb)
  replace BQ := Lib.hid (BQ.out.into hb)
  replace BR := Lib.hid (BR.out.into hb)
  replace BS := Lib.hid (BS.out.into hb)
  replace BU := Lib.hid (BU.out.into hb)
  clear bx1 bx2 hb hb9 hq hr Hq Hr HV7 HV8
  go_wp2_with fail
  generalize (w9.alloc (.cells #[.bool bq9, .slice Aq9 kq9 cq9] 27)).alloc (.cells #[.bool br9, .slice Ar9 kr9 cr9] 27) = W9 at *
  refine (Of_any 2 _ (by omega) (by omega)).mono ?_
  rintro e w10 ⟨v10, rfl, hv10, hb10⟩
  replace HB := Lib.hid (step_below HB.out hb10)
  replace BQ := Lib.hid (BQ.out.into hb10)
  replace BR := Lib.hid (BR.out.into hb10)
  replace BS := Lib.hid (BS.out.into hb10)
  replace BU := Lib.hid (BU.out.into hb10)
  have HV10 := Lib.hid hv10
  clear hb10 hv10
  go_wp2_with fail
  refine (Pow_2_32 _ _ HV10.out).mono ?_
  rintro e w11 ⟨vp, rfl, hp, hb11⟩
  obtain ⟨bp11, Ap11, kp11, cp11, rfl, Hp⟩ := hp.open_
  replace HB := Lib.hid (step_below HB.out hb11)
  replace BQ := Lib.hid (BQ.out.into hb11)
  replace BR := Lib.hid (BR.out.into hb11)
  replace BS := Lib.hid (BS.out.into hb11)
  replace BU := Lib.hid (BU.out.into hb11)
  obtain ⟨bx1, hb⟩ := one_new Hp.out
  replace HB := Lib.hid (step_below HB.out hb)
  replace BQ := Lib.hid (BQ.out.into hb)
  replace BR := Lib.hid (BR.out.into hb)
  replace BS := Lib.hid (BS.out.into hb)
  replace BU := Lib.hid (BU.out.into hb)
  have BP := Lib.hid bx1
  clear bx1 hb hb11 hp Hp
  go_wp2_with fail
  generalize w11.alloc (.cells #[.bool bp11, .slice Ap11 kp11 cp11] 27) = W11 at *
  refine (Of_any 2 _ (by omega) (by omega)).mono ?_
  rintro e w12 ⟨v12, rfl, hv12, hb12⟩
  replace HB := Lib.hid (step_below HB.out hb12)
  replace BQ := Lib.hid (BQ.out.into hb12)
  replace BR := Lib.hid (BR.out.into hb12)
  replace BS := Lib.hid (BS.out.into hb12)
  replace BU := Lib.hid (BU.out.into hb12)
  replace BP := Lib.hid (BP.out.into hb12)
  have HV12 := Lib.hid hv12
  clear hb12 hv12
  go_wp2_with fail
  refine (Pow_2_257 _ _ HV12.out).mono ?_
  rintro e w13 ⟨vp, rfl, hp, hb13⟩
  obtain ⟨bp13, Ap13, kp13, cp13, rfl, Hp⟩ := hp.open_
  replace HB := Lib.hid (step_below HB.out hb13)
  replace BQ := Lib.hid (BQ.out.into hb13)
  replace BR := Lib.hid (BR.out.into hb13)
  replace BS := Lib.hid (BS.out.into hb13)
  replace BU := Lib.hid (BU.out.into hb13)
  replace BP := Lib.hid (BP.out.into hb13)
  obtain ⟨bx1, hb⟩ := one_new Hp.out
  replace HB := Lib.hid (step_below HB.out hb)
  replace BQ := Lib.hid (BQ.out.into hb)
  replace BR := Lib.hid (BR.out.into hb)
  replace BS := Lib.hid (BS.out.into hb)
  replace BU := Lib.hid (BU.out.into hb)
  replace BP := Lib.hid (BP.out.into hb)
  clear bx1 hb hb13 hp Hp
  go_wp2_with fail
  generalize w13.alloc (.cells #[.bool bp13, .slice Ap13 kp13 cp13] 27) = W13 at *
  refine (Read_m0 _).mono ?_
  rintro e w14 ⟨vp, rfl, hp, hb14⟩
  obtain ⟨bp14, Ap14, kp14, cp14, rfl, Hp⟩ := hp.open_
  replace HB := Lib.hid (step_below HB.out hb14)
  replace BQ := Lib.hid (BQ.out.into hb14)
  replace BR := Lib.hid (BR.out.into hb14)
  replace BS := Lib.hid (BS.out.into hb14)
  replace BU := Lib.hid (BU.out.into hb14)
  replace BP := Lib.hid (BP.out.into hb14)
  obtain ⟨bx1, hb⟩ := one_new Hp.out
  replace HB := Lib.hid (step_below HB.out hb)
  replace BQ := Lib.hid (BQ.out.into hb)
  replace BR := Lib.hid (BR.out.into hb)
  replace BS := Lib.hid (BS.out.into hb)
  replace BU := Lib.hid (BU.out.into hb)
  replace BP := Lib.hid (BP.out.into hb)
  clear bx1 hb hb14 hp Hp
  go_wp2_with fail
  generalize w14.alloc (.cells #[.bool bp14, .slice Ap14 kp14 cp14] 27) = W14 at *
  refine (Read_007 _).mono ?_
  rintro e w15 ⟨vp, rfl, hp, hb15⟩
  obtain ⟨bp15, Ap15, kp15, cp15, rfl, Hp⟩ := hp.open_
  replace HB := Lib.hid (step_below HB.out hb15)
  replace BQ := Lib.hid (BQ.out.into hb15)
  replace BR := Lib.hid (BR.out.into hb15)
  replace BS := Lib.hid (BS.out.into hb15)
  replace BU := Lib.hid (BU.out.into hb15)
  replace BP := Lib.hid (BP.out.into hb15)
  obtain ⟨bx1, hb⟩ := one_new Hp.out
  replace HB := Lib.hid (step_below HB.out hb)
  replace BQ := Lib.hid (BQ.out.into hb)
  replace BR := Lib.hid (BR.out.into hb)
  replace BS := Lib.hid (BS.out.into hb)
  replace BU := Lib.hid (BU.out.into hb)
  replace BP := Lib.hid (BP.out.into hb)
  clear bx1 hb hb15 hp Hp
  go_wp2_with fail
  generalize w15.alloc (.cells #[.bool bp15, .slice Ap15 kp15 cp15] 27) = W15 at *
  refine (Read_m7 _).mono ?_
  rintro e w16 ⟨vp, rfl, hp, hb16⟩
  obtain ⟨bp16, Ap16, kp16, cp16, rfl, Hp⟩ := hp.open_
  replace HB := Lib.hid (step_below HB.out hb16)
  replace BQ := Lib.hid (BQ.out.into hb16)
  replace BR := Lib.hid (BR.out.into hb16)
  replace BS := Lib.hid (BS.out.into hb16)
  replace BU := Lib.hid (BU.out.into hb16)
  replace BP := Lib.hid (BP.out.into hb16)
  obtain ⟨bx1, hb⟩ := one_new Hp.out
  replace HB := Lib.hid (step_below HB.out hb)
  replace BQ := Lib.hid (BQ.out.into hb)
  replace BR := Lib.hid (BR.out.into hb)
  replace BS := Lib.hid (BS.out.into hb)
  replace BU := Lib.hid (BU.out.into hb)
  replace BP := Lib.hid (BP.out.into hb)
  have B7 := Lib.hid bx1
  clear bx1 hb hb16 hp Hp
  go_wp2_with fail
  generalize w16.alloc (.cells #[.bool bp16, .slice Ap16 kp16 cp16] 27) = W16 at *
  refine (Read_empty _).mono ?_
  rintro e w17 ⟨vp, rfl, hp, hb17⟩
  obtain ⟨bp17, Ap17, kp17, cp17, rfl, Hp⟩ := hp.open_
  replace HB := Lib.hid (step_below HB.out hb17)
  replace BQ := Lib.hid (BQ.out.into hb17)
  replace BR := Lib.hid (BR.out.into hb17)
  replace BS := Lib.hid (BS.out.into hb17)
  replace BU := Lib.hid (BU.out.into hb17)
  replace BP := Lib.hid (BP.out.into hb17)
  replace B7 := Lib.hid (B7.out.into hb17)
  obtain ⟨bx1, hb⟩ := one_new Hp.out
  replace HB := Lib.hid (step_below HB.out hb)
  replace BQ := Lib.hid (BQ.out.into hb)
  replace BR := Lib.hid (BR.out.into hb)
  replace BS := Lib.hid (BS.out.into hb)
  replace BU := Lib.hid (BU.out.into hb)
  replace BP := Lib.hid (BP.out.into hb)
  replace B7 := Lib.hid (B7.out.into hb)
  clear bx1 hb hb17 hp Hp
  go_wp2_with fail
  generalize w17.alloc (.cells #[.bool bp17, .slice Ap17 kp17 cp17] 27) = W17 at *
  refine (Of_any (-9223372036854775808) _ (by omega) (by omega)).mono ?_
  rintro e w18 ⟨v18, rfl, hv18, hb18⟩
  replace HB := Lib.hid (step_below HB.out hb18)
  replace BQ := Lib.hid (BQ.out.into hb18)
  replace BR := Lib.hid (BR.out.into hb18)
  replace BS := Lib.hid (BS.out.into hb18)
  replace BU := Lib.hid (BU.out.into hb18)
  replace BP := Lib.hid (BP.out.into hb18)
  replace B7 := Lib.hid (B7.out.into hb18)
  have HV18 := Lib.hid hv18
  clear hb18 hv18
  go_wp2_with fail
  refine (Small_yes _ (-9223372036854775808) _ HV18.out (by omega) (by omega)).mono ?_
  rintro e w19 ⟨rfl, hb19⟩
  replace HB := Lib.hid (step_below HB.out hb19)
  replace BQ := Lib.hid (BQ.out.into hb19)
  replace BR := Lib.hid (BR.out.into hb19)
  replace BS := Lib.hid (BS.out.into hb19)
  replace BU := Lib.hid (BU.out.into hb19)
  replace BP := Lib.hid (BP.out.into hb19)
  replace B7 := Lib.hid (B7.out.into hb19)
  have hcl := BP.out.cells
  obtain ⟨cp0, cp1⟩ := hcl
  clear hb19
  go_wp2_with fail
  refine (Small_yes _ 4294967296 _ BP.out.int (by omega) (by omega)).mono ?_
  rintro e w20 ⟨rfl, hb20⟩
  replace HB := Lib.hid (step_below HB.out hb20)
  replace BQ := Lib.hid (BQ.out.into hb20)
  replace BR := Lib.hid (BR.out.into hb20)
  replace BS := Lib.hid (BS.out.into hb20)
  replace BU := Lib.hid (BU.out.into hb20)
  replace BP := Lib.hid (BP.out.into hb20)
  replace B7 := Lib.hid (B7.out.into hb20)
  clear hb20 cp0 cp1
  go_wp2_with fail
  have HB0 := HB
  clear HB HV18
  have HS : ∀ w' : World, Below w20.heap.size w20 w' → w'.cell? ⟨w3.heap.size, 0, none⟩ = some (.bool bq3) ∧ w'.cell? ⟨w3.heap.size, 1, none⟩ = some (.slice Aq3 kq3 cq3) ∧ w'.cell? ⟨w3.heap.size + 1, 0, none⟩ = some (.bool br3) ∧ w'.cell? ⟨w3.heap.size + 1, 1, none⟩ = some (.slice Ar3 kr3 cr3) ∧ w'.cell? ⟨w6.heap.size, 0, none⟩ = some (.bool bq6) ∧ w'.cell? ⟨w6.heap.size, 1, none⟩ = some (.slice Aq6 kq6 cq6) ∧ w'.cell? ⟨w6.heap.size + 1, 0, none⟩ = some (.bool br6) ∧ w'.cell? ⟨w6.heap.size + 1, 1, none⟩ = some (.slice Ar6 kr6 cr6) ∧ w'.cell? ⟨w11.heap.size, 0, none⟩ = some (.bool bp11) ∧ w'.cell? ⟨w11.heap.size, 1, none⟩ = some (.slice Ap11 kp11 cp11) ∧ w'.cell? ⟨w16.heap.size, 0, none⟩ = some (.bool bp16) ∧ w'.cell? ⟨w16.heap.size, 1, none⟩ = some (.slice Ap16 kp16 cp16) := fun w' hb =>
    ⟨(BQ.out.into hb).cells.1, (BQ.out.into hb).cells.2, (BR.out.into hb).cells.1, (BR.out.into hb).cells.2, (BS.out.into hb).cells.1, (BS.out.into hb).cells.2, (BU.out.into hb).cells.1, (BU.out.into hb).cells.2, (BP.out.into hb).cells.1, (BP.out.into hb).cells.2, (B7.out.into hb).cells.1, (B7.out.into hb).cells.2⟩
  have KEEP := Lib.hid HS
  clear HS
  have HB := Lib.hid (Below.refl w20.heap.size w20)
  have M5 := True.intro
  have MG := True.intro
  have MT := True.intro
  have MV1 := True.intro
  have MV2 := True.intro
  go_region_held3 (fun w' => w'.cell? ⟨w3.heap.size, 0, none⟩ = some (.bool bq3) ∧ w'.cell? ⟨w3.heap.size, 1, none⟩ = some (.slice Aq3 kq3 cq3) ∧ w'.cell? ⟨w3.heap.size + 1, 0, none⟩ = some (.bool br3) ∧ w'.cell? ⟨w3.heap.size + 1, 1, none⟩ = some (.slice Ar3 kr3 cr3) ∧ w'.cell? ⟨w6.heap.size, 0, none⟩ = some (.bool bq6) ∧ w'.cell? ⟨w6.heap.size, 1, none⟩ = some (.slice Aq6 kq6 cq6) ∧ w'.cell? ⟨w6.heap.size + 1, 0, none⟩ = some (.bool br6) ∧ w'.cell? ⟨w6.heap.size + 1, 1, none⟩ = some (.slice Ar6 kr6 cr6) ∧ w'.cell? ⟨w11.heap.size, 0, none⟩ = some (.bool bp11) ∧ w'.cell? ⟨w11.heap.size, 1, none⟩ = some (.slice Ap11 kp11 cp11) ∧ w'.cell? ⟨w16.heap.size, 0, none⟩ = some (.bool bp16) ∧ w'.cell? ⟨w16.heap.size, 1, none⟩ = some (.slice Ap16 kp16 cp16))
    (first | (go_keep; done) | exact KEEP.out _ HB.out | exact KEEP.out _ HB.out.drew | exact KEEP.out _ (HB.out.alloc HB.out.size _) | exact KEEP.out _ (HB.out.alloc HB.out.size _).drew | exact KEEP.out _ (HB.out.drew.alloc HB.out.drew.size _))
    (first
      | (go_at_call 15
         refine (ROf_any _ _ (by omega) (by omega)).mono ?_
         rintro e w' ⟨vc, rfl, hc, hb⟩
         have HB := Lib.hid (step_below (by first | exact HB.out | exact HB.out.drew | exact HB.out.drew.drew | exact HB.out.alloc HB.out.size _ | exact (HB.out.alloc HB.out.size _).drew | exact HB.out.drew.alloc HB.out.drew.size _) hb)
         have HC := Lib.hid hc
         try (have HG := Lib.hid (HG.out.into hb))
         clear hb hc)
      | (go_at_call 10
         first
           | (refine (Same_lit _ _ _ _ (BQ.out.into (by first | exact HB.out | exact HB.out.drew | exact HB.out.drew.drew | exact HB.out.alloc HB.out.size _ | exact (HB.out.alloc HB.out.size _).drew | exact HB.out.drew.alloc HB.out.drew.size _)).int HC.out (by decide)).mono ?_; clear BQ)
           | (refine (Same_lit _ _ _ _ (BR.out.into (by first | exact HB.out | exact HB.out.drew | exact HB.out.drew.drew | exact HB.out.alloc HB.out.size _ | exact (HB.out.alloc HB.out.size _).drew | exact HB.out.drew.alloc HB.out.drew.size _)).int HC.out (by decide)).mono ?_; clear BR)
           | (refine (Same_lit _ _ _ _ (BS.out.into (by first | exact HB.out | exact HB.out.drew | exact HB.out.drew.drew | exact HB.out.alloc HB.out.size _ | exact (HB.out.alloc HB.out.size _).drew | exact HB.out.drew.alloc HB.out.drew.size _)).int HC.out (by decide)).mono ?_; clear BS)
           | (refine (Same_lit _ _ _ _ (BU.out.into (by first | exact HB.out | exact HB.out.drew | exact HB.out.drew.drew | exact HB.out.alloc HB.out.size _ | exact (HB.out.alloc HB.out.size _).drew | exact HB.out.drew.alloc HB.out.drew.size _)).int HC.out (by decide)).mono ?_; clear BU)
           | (clear M5; first | refine (Same_lit _ _ _ _ HO.out HL.out (by decide)).mono ?_ | refine (Same_lit _ _ _ _ (HO.out.into (below_alloc _ _)) (lit_m5 _) (by decide)).mono ?_)
           | (clear M6; refine (Same_lit _ _ _ _ (BP.out.into (by first | exact HB.out | exact HB.out.drew | exact HB.out.drew.drew | exact HB.out.alloc HB.out.size _ | exact (HB.out.alloc HB.out.size _).drew | exact HB.out.drew.alloc HB.out.drew.size _)).int (lit_p32 _) (by decide)).mono ?_)
           | (refine (Same_lit _ _ _ _ (B7.out.into (by first | exact HB.out | exact HB.out.drew | exact HB.out.drew.drew | exact HB.out.alloc HB.out.size _ | exact (HB.out.alloc HB.out.size _).drew | exact HB.out.drew.alloc HB.out.drew.size _)).int HC.out (by decide)).mono ?_; clear B7)
           | refine (Same_lit _ _ _ _ HG.out HC.out (by decide)).mono ?_
         rintro e w' ⟨rfl, hb⟩
         have HB := Lib.hid (step_below (by first | exact HB.out | exact HB.out.drew | exact HB.out.drew.drew | exact HB.out.alloc HB.out.size _ | exact (HB.out.alloc HB.out.size _).drew | exact HB.out.drew.alloc HB.out.drew.size _) hb)
         clear hb))
  go_wp2_with fail
  refine region14' (by kernel_rfl) (fun _ d _ _ _ h => by cases d <;> exact h) (tab_below HT.out (step_below HB0.out HB.out)) (by kernel_rfl) rfl rfl rfl rfl rfl rfl rfl (BP.out.into HB.out) (B7.out.into HB.out) ?_
  intro a' w' hz h0 hd hb
  have HE := Lib.hid (step_below HB0.out (step_below HB.out hb))
  clear hb
  have hv : a'.tmps.getD 0 undef = .bool true := by simp [Array.getD_eq_getD_getElem?, h0]
  have hd' : a'.defers = [] := hd
  clear hd h0 hz
  go_wp2
  refine bodyPost_ret (results_tmp rfl a'.tmps _ w') hd' ?_
  rw [hv]
  exact ⟨rfl, HE.out⟩
end Go.Proofs.YtdofolejfdfocaaDoor
