/- IntegerRing: the product of the first two integers, in a box of its own. -/
import Derived.Test.YtjajmonhcnmidaaDoorRace2
import Derived.Test.YtjajmonhcnmidaaDoorRingR
namespace Go.Proofs.YtjajmonhcnmidaaDoor
open Go.RowKit

section
variable {ops : Array Oper} {Q : Exit → Act → World → Prop} {a : Act} {w : World}
theorem wpOps_go {i : Nat} {rest : List Nat} (h : wpOp Tryd.prog ops Q i (wpOps Tryd.prog ops Q rest) a w) : wpOps Tryd.prog ops Q (i :: rest) a w := by
  rw [wpOps_cons]
  exact h
/-- What stands behind the product: four boxes. -/
structure Four (N : Nat) (W0 : World) (a0 : Act) (z0 z1 z2 : Int) (a : Act) (w : World) : Prop where
  size : a.tmps.size = N
  low : ∀ t, t < 8 → a.tmps[t]? = a0.tmps[t]?
  defers : a.defers = a0.defers
  below : Below W0.heap.size W0 w
  box0 : ∃ g b A k c, a.tmps[8]? = some (.pointer (some ⟨g, 0, none⟩)) ∧ BoxI w g (.agg #[.bool b, .slice A k c]) z0
  box1 : ∃ g b A k c, a.tmps[9]? = some (.pointer (some ⟨g, 0, none⟩)) ∧ BoxI w g (.agg #[.bool b, .slice A k c]) z1
  box2 : ∃ g b A k c, a.tmps[10]? = some (.pointer (some ⟨g, 0, none⟩)) ∧ BoxI w g (.agg #[.bool b, .slice A k c]) z2
  box3 : ∃ g b A k c, a.tmps[11]? = some (.pointer (some ⟨g, 0, none⟩)) ∧ BoxI w g (.agg #[.bool b, .slice A k c]) (z0 * z1)

theorem ring3 {N : Nat} {W0 : World} {a0 : Act} {z0 z1 z2 : Int} {n0 n1 : Nat} (hN : 23 < N) (hT : Three N W0 a0 z0 z1 z2 a w) (s0 : Sm z0 n0) (s1 : Sm z1 n1) (h0 : n0 ≤ 1000) (h1 : n1 ≤ 1000) (hsz : ops.size = 5)
    (o0 : OpIs ops 0 21 none (.load 27 (.tmp 8))) (o1 : OpIs ops 1 22 none (.load 27 (.tmp 9)))
    (o2 : OpIs ops 2 23 none (.call { callee := .value (.func 17), args := #[.tmp 21, .tmp 22], argTypes := #[27, 27] }))
    (o3 : OpIs ops 3 11 none (.alloc 27)) (o4 : (ops[4]?).map (fun o => (o.dst, o.guard, o.op)) = some (none, none, .store 27 (.tmp 11) (.tmp 23)))
    (fin : ∀ a' w', Four N W0 a0 z0 z1 z2 a' w' → Q .normal a' w') : (Code.region 3 ops false).wp Tryd.prog Q a w := by
  obtain ⟨g8, b8, A8, k8, c8, t8, X8⟩ := hT.box0
  obtain ⟨g9, b9, A9, k9, c9, t9, X9⟩ := hT.box1
  obtain ⟨g10, b10, A10, k10, c10, t10, X10⟩ := hT.box2
  refine wp_region ?_
  rw [hsz]
  show wpOps Tryd.prog ops Q [0, 1, 2, 3, 4] a w
  have hF : Fr N 8 a0 a := ⟨hT.size, hT.low, hT.defers⟩
  refine wpOps_go (wpOp_value o0 guard_none (fun o ho => run_loadB X8 (Below.refl _ _) t8 ho) (wpOps_go ?_))
  have hF1 := hF.put (d := 21) (by decide) (.agg #[.bool b8, .slice A8 k8 c8])
  have t21 := get_put_same (a := a) (d := 21) (.agg #[.bool b8, .slice A8 k8 c8]) (by rw [hF.size]; omega)
  replace t8 := (get_put_ne (a := a) (d := 21) (t := 8) (.agg #[.bool b8, .slice A8 k8 c8]) (by decide)).trans t8
  replace t9 := (get_put_ne (a := a) (d := 21) (t := 9) (.agg #[.bool b8, .slice A8 k8 c8]) (by decide)).trans t9
  replace t10 := (get_put_ne (a := a) (d := 21) (t := 10) (.agg #[.bool b8, .slice A8 k8 c8]) (by decide)).trans t10
  generalize a.put (some 21) (.agg #[.bool b8, .slice A8 k8 c8]) = a1 at *
  refine wpOp_value o1 guard_none (fun o ho => run_loadB X9 (Below.refl _ _) t9 ho) (wpOps_go ?_)
  have hF2 := hF1.put (d := 22) (by decide) (.agg #[.bool b9, .slice A9 k9 c9])
  have t22 := get_put_same (a := a1) (d := 22) (.agg #[.bool b9, .slice A9 k9 c9]) (by rw [hF1.size]; omega)
  replace t8 := (get_put_ne (a := a1) (d := 22) (t := 8) (.agg #[.bool b9, .slice A9 k9 c9]) (by decide)).trans t8
  replace t9 := (get_put_ne (a := a1) (d := 22) (t := 9) (.agg #[.bool b9, .slice A9 k9 c9]) (by decide)).trans t9
  replace t10 := (get_put_ne (a := a1) (d := 22) (t := 10) (.agg #[.bool b9, .slice A9 k9 c9]) (by decide)).trans t10
  replace t21 := (get_put_ne (a := a1) (d := 22) (t := 21) (.agg #[.bool b9, .slice A9 k9 c9]) (by decide)).trans t21
  generalize a1.put (some 22) (.agg #[.bool b9, .slice A9 k9 c9]) = a2 at *
  refine wpOp_call o2 guard_none (fun o ho => run_callMul t21 t22 ho) ((cMul X8.int X9.int s0 s1 h0 h1).mono ?_)
  rintro e w1 ⟨v, rfl, hv, hb⟩
  refine ⟨v, rfl, ?_⟩
  obtain ⟨b, A, k, c, rfl, _⟩ := hv.open_
  have hF3 := hF2.put (d := 23) (by decide) (.agg #[.bool b, .slice A k c])
  have t23 := get_put_same (a := a2) (d := 23) (.agg #[.bool b, .slice A k c]) (by rw [hF2.size]; omega)
  replace t8 := (get_put_ne (a := a2) (d := 23) (t := 8) (.agg #[.bool b, .slice A k c]) (by decide)).trans t8
  replace t9 := (get_put_ne (a := a2) (d := 23) (t := 9) (.agg #[.bool b, .slice A k c]) (by decide)).trans t9
  replace t10 := (get_put_ne (a := a2) (d := 23) (t := 10) (.agg #[.bool b, .slice A k c]) (by decide)).trans t10
  generalize a2.put (some 23) (.agg #[.bool b, .slice A k c]) = a3 at *
  have B1 := step_below hT.below hb
  refine wpOps_go (wpOp_value o3 guard_none (fun o ho => run_allocI ho) (wpOps_go ?_))
  have hb2 := below_alloc w1 zeroI
  have hh := heap1 w1 zeroI
  have hF4 := hF3.put (d := 11) (by decide) (.pointer (some ⟨w1.heap.size, 0, none⟩))
  have t11 := get_put_same (a := a3) (d := 11) (.pointer (some ⟨w1.heap.size, 0, none⟩)) (by rw [hF3.size]; omega)
  replace t8 := (get_put_ne (a := a3) (d := 11) (t := 8) (.pointer (some ⟨w1.heap.size, 0, none⟩)) (by decide)).trans t8
  replace t9 := (get_put_ne (a := a3) (d := 11) (t := 9) (.pointer (some ⟨w1.heap.size, 0, none⟩)) (by decide)).trans t9
  replace t10 := (get_put_ne (a := a3) (d := 11) (t := 10) (.pointer (some ⟨w1.heap.size, 0, none⟩)) (by decide)).trans t10
  replace t23 := (get_put_ne (a := a3) (d := 11) (t := 23) (.pointer (some ⟨w1.heap.size, 0, none⟩)) (by decide)).trans t23
  generalize a3.put (some 11) (.pointer (some ⟨w1.heap.size, 0, none⟩)) = a4 at *
  have B2 := step_below B1 hb2
  have hv2 := hv.into hb2
  have Y8 := (X8.into hb).into hb2
  have Y9 := (X9.into hb).into hb2
  have Y10 := (X10.into hb).into hb2
  have l8 := (X8.into hb).lt
  have l9 := (X9.into hb).lt
  have l10 := (X10.into hb).lt
  have hg : W0.heap.size ≤ w1.heap.size := B1.size
  generalize w1.heap.size = g at *
  generalize w1.alloc zeroI = w2 at *
  refine wpOp_store o4 guard_none (fun o ho => run_storeI t11 t23 hh ho) ?_
  show Q .normal _ _
  exact fin _ _ ⟨hF4.size, hF4.low, hF4.defers, below_store B2 hg, ⟨g8, b8, A8, k8, c8, t8, boxI_other hh (by omega) Y8⟩, ⟨g9, b9, A9, k9, c9, t9, boxI_other hh (by omega) Y9⟩, ⟨g10, b10, A10, k10, c10, t10, boxI_other hh (by omega) Y10⟩, ⟨g, b, A, k, c, t11, boxI_store hh hv2⟩⟩
end
end Go.Proofs.YtjajmonhcnmidaaDoor
