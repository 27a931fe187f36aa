/- The steps, applied (written by wip/tools/gen_apply.py). -/
import Derived.Test.YtdofolejfdfocaaGreatDoorqSim
import Derived.Test.YtdofolejfdfocaaGreatDoorqComb
import Derived.Test.YtdofolejfdfocaaGreatDoorqDivP
namespace Go.Proofs.YtdofolejfdfocaaGreatDoor
open Go.RowKit

section
variable {ops : Array Oper} {N : Nat} {Wb W0 : World} {a0 : Act} {F : List PF} {BX : List BoxS} {AD : List (Nat × Nat × Nat)} {i : Nat} {g : Option (Nat × Bool)}
theorem s_call4 (hP : Plan ops N BX AD) {f : Nat} {x y z u : Operand} {T : Array TypeId} {fx fy fz fu R : PF} (ho : IsOp ops i g (.call { callee := .value (.func f), args := #[x, y, z, u], argTypes := T })) (hp : plainB BX i = true) (hna : noAd AD i = true) (hg : Grd ops N Wb W0 a0 F BX AD i g true) (hx : Src ops N Wb W0 a0 F BX AD i x fx) (hy : Src ops N Wb W0 a0 F BX AD i y fy) (hz : Src ops N Wb W0 a0 F BX AD i z fz) (hu : Src ops N Wb W0 a0 F BX AD i u fu)
    (hpl : Plainly f) (hc : ∀ w vx vy vz vu, Below Wb.heap.size Wb w → fx.p vx w → fy.p vy w → fz.p vz w → fu.p vu w → Calls Tryz.prog f #[vx, vy, vz, vu] w (GivesP R w)) (hF : F.getD i anyF = R) : Step ops N Wb W0 a0 F BX AD i :=
  step_call hP ho hp hna fun m a w hI hr => ⟨hg m a w hI hr, f, #[a.eval x, a.eval y, a.eval z, a.eval u], fun _ ho => run_callR ho rfl hpl (by generalize a.eval = ρ; simp), hF ▸ hc w _ _ _ _ hI.below (hx m a w hI hr) (hy m a w hI hr) (hz m a w hI hr) (hu m a w hI hr)⟩
end
def stBF (a0 b0 a1 b1 : Nat) (o : Bool) : CF := objF #[.int .u64 (a0 : Int), .int .u64 (b0 : Int), .int .u64 (a1 : Int), .int .u64 (b1 : Int), .bool o] 99 (by decide)
theorem boxS_run {a0 b0 a1 b1 : Nat} {o : Bool} (w : World) (v : Value) (h : (eqF (.agg #[.int .u64 (a0 : Int), .int .u64 (b0 : Int), .int .u64 (a1 : Int), .int .u64 (b1 : Int), .bool o])).p v w) : ∃ ob, (Instr.box 99 v).run Tryz.prog w = .ok (.pointer (some ⟨w.heap.size, 0, none⟩)) (w.alloc ob) ∧ (stBF a0 b0 a1 b1 o).p w.heap.size (w.alloc ob) := by
  have h : v = .agg #[.int .u64 (a0 : Int), .int .u64 (b0 : Int), .int .u64 (a1 : Int), .int .u64 (b1 : Int), .bool o] := h
  subst h
  exact ⟨.cells #[.int .u64 (a0 : Int), .int .u64 (b0 : Int), .int .u64 (a1 : Int), .int .u64 (b1 : Int), .bool o] 99 (0, 0), by simp [go_sem], heap1 w _⟩
theorem fldS0 (q : Nat) (w : World) : (Instr.fieldAt 99 (.pointer (some ⟨q, 0, none⟩)) 0).run Tryz.prog w = .ok (.pointer (some ⟨q, 0, none⟩)) w := by simp [go_sem]
theorem loadS0 {a0 b0 a1 b1 : Nat} {o : Bool} (w : World) (q : Nat) (h : (stBF a0 b0 a1 b1 o).p q w) : ∃ v, (Instr.loadAt 77 (.pointer (some ⟨q, 0, none⟩))).run Tryz.prog w = .ok v w ∧ (eqF (.int .u64 (a0 : Int))).p v w := by
  have hh : w.heap[q]? = some (.cells #[.int .u64 (a0 : Int), .int .u64 (b0 : Int), .int .u64 (a1 : Int), .int .u64 (b1 : Int), .bool o] 99 (0, 0)) := h
  have h0 : w.cell? ⟨q, 0, none⟩ = some (.int .u64 (a0 : Int)) := by rw [cell_of_row w q 0 _ _ (0, 0) hh]; rfl
  exact ⟨_, by simp [go_sem, h0], rfl⟩
theorem fldS1 (q : Nat) (w : World) : (Instr.fieldAt 99 (.pointer (some ⟨q, 0, none⟩)) 1).run Tryz.prog w = .ok (.pointer (some ⟨q, 1, none⟩)) w := by simp [go_sem]
theorem loadS1 {a0 b0 a1 b1 : Nat} {o : Bool} (w : World) (q : Nat) (h : (stBF a0 b0 a1 b1 o).p q w) : ∃ v, (Instr.loadAt 77 (.pointer (some ⟨q, 1, none⟩))).run Tryz.prog w = .ok v w ∧ (eqF (.int .u64 (b0 : Int))).p v w := by
  have hh : w.heap[q]? = some (.cells #[.int .u64 (a0 : Int), .int .u64 (b0 : Int), .int .u64 (a1 : Int), .int .u64 (b1 : Int), .bool o] 99 (0, 0)) := h
  have h0 : w.cell? ⟨q, 1, none⟩ = some (.int .u64 (b0 : Int)) := by rw [cell_of_row w q 1 _ _ (0, 0) hh]; rfl
  exact ⟨_, by simp [go_sem, h0], rfl⟩
theorem fldS2 (q : Nat) (w : World) : (Instr.fieldAt 99 (.pointer (some ⟨q, 0, none⟩)) 2).run Tryz.prog w = .ok (.pointer (some ⟨q, 2, none⟩)) w := by simp [go_sem]
theorem loadS2 {a0 b0 a1 b1 : Nat} {o : Bool} (w : World) (q : Nat) (h : (stBF a0 b0 a1 b1 o).p q w) : ∃ v, (Instr.loadAt 77 (.pointer (some ⟨q, 2, none⟩))).run Tryz.prog w = .ok v w ∧ (eqF (.int .u64 (a1 : Int))).p v w := by
  have hh : w.heap[q]? = some (.cells #[.int .u64 (a0 : Int), .int .u64 (b0 : Int), .int .u64 (a1 : Int), .int .u64 (b1 : Int), .bool o] 99 (0, 0)) := h
  have h0 : w.cell? ⟨q, 2, none⟩ = some (.int .u64 (a1 : Int)) := by rw [cell_of_row w q 2 _ _ (0, 0) hh]; rfl
  exact ⟨_, by simp [go_sem, h0], rfl⟩
theorem fldS3 (q : Nat) (w : World) : (Instr.fieldAt 99 (.pointer (some ⟨q, 0, none⟩)) 3).run Tryz.prog w = .ok (.pointer (some ⟨q, 3, none⟩)) w := by simp [go_sem]
theorem loadS3 {a0 b0 a1 b1 : Nat} {o : Bool} (w : World) (q : Nat) (h : (stBF a0 b0 a1 b1 o).p q w) : ∃ v, (Instr.loadAt 77 (.pointer (some ⟨q, 3, none⟩))).run Tryz.prog w = .ok v w ∧ (eqF (.int .u64 (b1 : Int))).p v w := by
  have hh : w.heap[q]? = some (.cells #[.int .u64 (a0 : Int), .int .u64 (b0 : Int), .int .u64 (a1 : Int), .int .u64 (b1 : Int), .bool o] 99 (0, 0)) := h
  have h0 : w.cell? ⟨q, 3, none⟩ = some (.int .u64 (b1 : Int)) := by rw [cell_of_row w q 3 _ _ (0, 0) hh]; rfl
  exact ⟨_, by simp [go_sem, h0], rfl⟩
theorem fldS4 (q : Nat) (w : World) : (Instr.fieldAt 99 (.pointer (some ⟨q, 0, none⟩)) 4).run Tryz.prog w = .ok (.pointer (some ⟨q, 4, none⟩)) w := by simp [go_sem]
theorem loadS4 {a0 b0 a1 b1 : Nat} {o : Bool} (w : World) (q : Nat) (h : (stBF a0 b0 a1 b1 o).p q w) : ∃ v, (Instr.loadAt 4 (.pointer (some ⟨q, 4, none⟩))).run Tryz.prog w = .ok v w ∧ (eqF (.bool o)).p v w := by
  have hh : w.heap[q]? = some (.cells #[.int .u64 (a0 : Int), .int .u64 (b0 : Int), .int .u64 (a1 : Int), .int .u64 (b1 : Int), .bool o] 99 (0, 0)) := h
  have h0 : w.cell? ⟨q, 4, none⟩ = some (.bool o) := by rw [cell_of_row w q 4 _ _ (0, 0) hh]; rfl
  exact ⟨_, by simp [go_sem, h0], rfl⟩
theorem kComb {w : World} {va vp vb vq : Value} {x y p q z : Nat} (ha : (natF x).p va w) (hvp : (eqF (.int .u64 (p : Int))).p vp w) (hb : (natF y).p vb w) (hvq : (eqF (.int .u64 (q : Int))).p vq w) (hp : p < 4294967296) (hq : q < 4294967296) (hz : z + q * y = p * x) (hm : max (len x) (len y) ≤ 1099511627776) (hzl : len z ≤ max (len x) (len y)) :
    Calls Tryz.prog 115 #[va, vp, vb, vq] w (GivesP (natF z) w) := by
  have hvp : vp = .int .u64 (p : Int) := hvp
  have hvq : vq = .int .u64 (q : Int) := hvq
  subst hvp hvq
  have ha : NatAt w va x := ha
  have hb : NatAt w vb y := hb
  obtain ⟨A, c, rfl, HA⟩ := ha.open_
  obtain ⟨B, d, rfl, HB⟩ := hb.open_
  rcases Nat.lt_or_ge (len x) (len y) with h | h
  · exact combine_lt A B c d p q x y z w HA.out.mem.2.2 HB.out.mem.2.2 hp hq h (by omega) hz (by omega)
  · exact combine_ge A B c d p q x y z w HA.out.mem.2.2 HB.out.mem.2.2 hp hq h (by omega) hz (by omega)
theorem ret_tmp2 {Wb : World} {N : Nat} {S : List (Nat × PF)} {B : List (Nat × CF)} {a : Act} {w : World} {fn : Func} {t t' : Nat} {R R' : PF} (hst : St Wb N S B a w) (hr : fn.results = #[.tmp t, .tmp t']) (k : Nat) (hk : S[k]? = some (t, R)) (k' : Nat) (hk' : S[k']? = some (t', R')) : bodyPost Tryz.prog fn (GivesP (tup2F R R') Wb) .ret a w := by
  obtain ⟨v, h1, h2⟩ := hst.slots.get hk
  obtain ⟨v', h1', h2'⟩ := hst.slots.get hk'
  refine bodyPost_ret (v := .tuple #[v, v']) ?_ hst.defers ⟨_, rfl, ⟨_, _, rfl, h2, h2'⟩, hst.below⟩
  simp [results, hr, go_sem, Array.getD_eq_getD_getElem?, h1, h1']
theorem aplpl_quadrature_integer_combine : Plainly 115 := fun _ _ => by simp [go_sem]
noncomputable def apl_n0 : Code := bodyOf Tryz.f96
noncomputable def apl_n1 : Code := cl apl_n0
noncomputable def apl_n2 : Code := cr apl_n0
theorem apl_e0 : apl_n0 = .seq apl_n1 apl_n2 := by kernel_rfl
noncomputable def apl_o0 : Array Oper := opsOf apl_n1
theorem apl_e1 : apl_n1 = .region 0 apl_o0 false := by kernel_rfl
noncomputable def apl_n3 : Code := cl apl_n2
noncomputable def apl_n4 : Code := cr apl_n2
theorem apl_e2 : apl_n2 = .seq apl_n3 apl_n4 := by kernel_rfl
noncomputable def apl_n5 : Code := cl apl_n3
noncomputable def apl_n6 : Code := cr apl_n3
theorem apl_e3 : apl_n3 = .seq apl_n5 apl_n6 := by kernel_rfl
noncomputable def apl_o1 : Array Oper := opsOf apl_n5
theorem apl_e5 : apl_n5 = .region 1 apl_o1 false := by kernel_rfl
noncomputable def apl_n7 : Code := cl apl_n6
noncomputable def apl_n8 : Code := cr apl_n6
theorem apl_e6 : apl_n6 = .cond (.tmp 9) apl_n7 apl_n8 := by kernel_rfl
noncomputable def apl_n9 : Code := cl apl_n7
noncomputable def apl_n10 : Code := cr apl_n7
theorem apl_e7 : apl_n7 = .seq apl_n9 apl_n10 := by kernel_rfl
noncomputable def apl_o2 : Array Oper := opsOf apl_n9
theorem apl_e9 : apl_n9 = .region 2 apl_o2 true := by kernel_rfl
theorem apl_e10 : apl_n10 = .ret := by kernel_rfl
theorem apl_e8 : apl_n8 = .skip := by kernel_rfl
noncomputable def apl_n11 : Code := cl apl_n4
noncomputable def apl_n12 : Code := cr apl_n4
theorem apl_e4 : apl_n4 = .seq apl_n11 apl_n12 := by kernel_rfl
noncomputable def apl_o3 : Array Oper := opsOf apl_n11
theorem apl_e11 : apl_n11 = .region 3 apl_o3 true := by kernel_rfl
theorem apl_e12 : apl_n12 = .ret := by kernel_rfl
set_option maxRecDepth 100000 in
theorem apl_r0 {Q : Exit → Act → World → Prop} {Wb W0 : World} {a0 : Act} {mm nn c0 d0 c1 d1 U V : Nat} (_l0 : c0 < 4294967296) (_l1 : d0 < 4294967296) (_l2 : c1 < 4294967296) (_l3 : d1 < 4294967296) (_hmx : max (len mm) (len nn) ≤ 1099511627776) (_hU : len U ≤ max (len mm) (len nn)) (_hV : len V ≤ max (len mm) (len nn)) (_e1 : U + c0 * mm = d0 * nn) (_e2 : V + d1 * nn = c1 * mm) (hst : St Wb 38 [(0, (eqF (.agg #[.int .u64 (c0 : Int), .int .u64 (d0 : Int), .int .u64 (c1 : Int), .int .u64 (d1 : Int), .bool true]))), (1, (natF mm)), (2, (natF nn))] [] a0 W0)
    (fin : ∀ a w, St Wb 38 [(0, (eqF (.agg #[.int .u64 (c0 : Int), .int .u64 (d0 : Int), .int .u64 (c1 : Int), .int .u64 (d1 : Int), .bool true]))), (1, (natF mm)), (2, (natF nn)), (6, (eqF (.slice none 0 0))), (7, (eqF (.slice none 0 0)))] [(3, (stBF c0 d0 c1 d1 true))] a w → Q .normal a w) : (Code.region 0 apl_o0 false).wp Tryz.prog Q a0 W0 := by
  have hP : Plan apl_o0 38 ([⟨3, some 0, none, (stBF c0 d0 c1 d1 true), (stBF c0 d0 c1 d1 true)⟩] : List BoxS) [] := ⟨by kernel_rfl, by kernel_rfl, by kernel_rfl, by kernel_rfl, by kernel_rfl, by kernel_rfl⟩
  refine region_st (F := [anyF, (eqF (.slice none 0 0)), (eqF (.slice none 0 0))]) hP hst rfl rfl ?_ ?_ fin
  · show Steps apl_o0 38 Wb W0 a0 _ _ _ 3
    refine steps_snoc (k := 2) ?_ (s_assign (i := 2) hP (g := none) (isOp_of (by kernel_rfl) : IsOp apl_o0 2 none (.assign (.const (.slice none 0 0)))) (by kernel_rfl) (by kernel_rfl) (grd_none) (src_const _) rfl)
    refine steps_snoc (k := 1) ?_ (s_assign (i := 1) hP (g := none) (isOp_of (by kernel_rfl) : IsOp apl_o0 1 none (.assign (.const (.slice none 0 0)))) (by kernel_rfl) (by kernel_rfl) (grd_none) (src_const _) rfl)
    refine steps_snoc (k := 0) ?_ (s_box (i := 0) (d := 3) hP 0 _ (isOp_of (by kernel_rfl) : IsOp apl_o0 0 none (.box 99 (.tmp 0))) (by kernel_rfl) rfl rfl rfl (by kernel_rfl) (by kernel_rfl) (by kernel_rfl) (by kernel_rfl) rfl (src_low hst 0 rfl (by kernel_rfl)) (fun w v h => boxS_run w v h))
    exact steps_nil
  · intro m a w hI hm
    exact ⟨(low_fact hst 0 rfl (by kernel_rfl) hI), (low_fact hst 1 rfl (by kernel_rfl) hI), (low_fact hst 2 rfl (by kernel_rfl) hI), (out_op hI hm 1 6 _ (by kernel_rfl) rfl), (out_op hI hm 2 7 _ (by kernel_rfl) rfl), trivial⟩
set_option maxRecDepth 100000 in
theorem apl_r1 {Q : Exit → Act → World → Prop} {Wb W0 : World} {a0 : Act} {mm nn c0 d0 c1 d1 U V : Nat} (_l0 : c0 < 4294967296) (_l1 : d0 < 4294967296) (_l2 : c1 < 4294967296) (_l3 : d1 < 4294967296) (_hmx : max (len mm) (len nn) ≤ 1099511627776) (_hU : len U ≤ max (len mm) (len nn)) (_hV : len V ≤ max (len mm) (len nn)) (_e1 : U + c0 * mm = d0 * nn) (_e2 : V + d1 * nn = c1 * mm) (hst : St Wb 38 [(0, (eqF (.agg #[.int .u64 (c0 : Int), .int .u64 (d0 : Int), .int .u64 (c1 : Int), .int .u64 (d1 : Int), .bool true]))), (1, (natF mm)), (2, (natF nn)), (6, (eqF (.slice none 0 0))), (7, (eqF (.slice none 0 0)))] [(3, (stBF c0 d0 c1 d1 true))] a0 W0)
    (fin : ∀ a w, St Wb 38 [(0, (eqF (.agg #[.int .u64 (c0 : Int), .int .u64 (d0 : Int), .int .u64 (c1 : Int), .int .u64 (d1 : Int), .bool true]))), (1, (natF mm)), (2, (natF nn)), (6, (eqF (.slice none 0 0))), (7, (eqF (.slice none 0 0))), (9, (eqF (.bool true)))] [(3, (stBF c0 d0 c1 d1 true))] a w → Q .normal a w) : (Code.region 1 apl_o1 false).wp Tryz.prog Q a0 W0 := by
  have hP : Plan apl_o1 38 ([⟨3, none, none, (stBF c0 d0 c1 d1 true), (stBF c0 d0 c1 d1 true)⟩] : List BoxS) [(0, 3, 4)] := ⟨by kernel_rfl, by kernel_rfl, by kernel_rfl, by kernel_rfl, by kernel_rfl, by kernel_rfl⟩
  refine region_st (F := [anyF, (eqF (.bool true))]) hP hst rfl rfl ?_ ?_ fin
  · show Steps apl_o1 38 Wb W0 a0 _ _ _ 2
    refine steps_snoc (k := 1) ?_ (s_load (i := 1) hP (g := none) (isOp_of (by kernel_rfl) : IsOp apl_o1 1 none (.load 4 (.tmp 8))) (by kernel_rfl) (by kernel_rfl) (grd_none) (bsrc_at 0 (bsrc_old 0 _ rfl rfl rfl (by kernel_rfl) (by kernel_rfl)) (by kernel_rfl) (by kernel_rfl) (by kernel_rfl)) (fun w q h => loadS4 w q h) rfl)
    refine steps_snoc (k := 0) ?_ (step_addr (i := 0) (d := 8) (g := none) hP (isOp_of (by kernel_rfl) : IsOp apl_o1 0 none (.fieldAddr 99 (.tmp 3) 4)) (by kernel_rfl) (by kernel_rfl) 4 rfl rfl _ 0 rfl rfl (by kernel_rfl) (grd_none) fldS4)
    exact steps_nil
  · intro m a w hI hm
    exact ⟨(low_fact hst 0 rfl (by kernel_rfl) hI), (low_fact hst 1 rfl (by kernel_rfl) hI), (low_fact hst 2 rfl (by kernel_rfl) hI), (low_fact hst 3 rfl (by kernel_rfl) hI), (low_fact hst 4 rfl (by kernel_rfl) hI), (out_op hI hm 1 9 _ (by kernel_rfl) rfl), trivial⟩
set_option maxRecDepth 100000 in
theorem apl_r2 {Q : Exit → Act → World → Prop} {Wb W0 : World} {a0 : Act} {mm nn c0 d0 c1 d1 U V : Nat} (_l0 : c0 < 4294967296) (_l1 : d0 < 4294967296) (_l2 : c1 < 4294967296) (_l3 : d1 < 4294967296) (hmx : max (len mm) (len nn) ≤ 1099511627776) (hU : len U ≤ max (len mm) (len nn)) (hV : len V ≤ max (len mm) (len nn)) (e1 : U + c0 * mm = d0 * nn) (e2 : V + d1 * nn = c1 * mm) (hst : St Wb 38 [(0, (eqF (.agg #[.int .u64 (c0 : Int), .int .u64 (d0 : Int), .int .u64 (c1 : Int), .int .u64 (d1 : Int), .bool true]))), (1, (natF mm)), (2, (natF nn)), (6, (eqF (.slice none 0 0))), (7, (eqF (.slice none 0 0))), (9, (eqF (.bool true)))] [(3, (stBF c0 d0 c1 d1 true))] a0 W0)
    (fin : ∀ a w, St Wb 38 [(0, (eqF (.agg #[.int .u64 (c0 : Int), .int .u64 (d0 : Int), .int .u64 (c1 : Int), .int .u64 (d1 : Int), .bool true]))), (1, (natF mm)), (2, (natF nn)), (6, (natF U)), (7, (natF V)), (9, (eqF (.bool true)))] [(3, (stBF c0 d0 c1 d1 true))] a w → Q .normal a w) : (Code.region 2 apl_o2 true).wp Tryz.prog Q a0 W0 := by
  have hP : Plan apl_o2 38 ([⟨3, none, none, (stBF c0 d0 c1 d1 true), (stBF c0 d0 c1 d1 true)⟩] : List BoxS) [(1, 3, 1), (4, 3, 0), (8, 3, 2), (11, 3, 3)] := ⟨by kernel_rfl, by kernel_rfl, by kernel_rfl, by kernel_rfl, by kernel_rfl, by kernel_rfl⟩
  refine region_st (F := [(natF nn), anyF, (eqF (.int .u64 (d0 : Int))), (natF mm), anyF, (eqF (.int .u64 (c0 : Int))), (natF U), (natF mm), anyF, (eqF (.int .u64 (c1 : Int))), (natF nn), anyF, (eqF (.int .u64 (d1 : Int))), (natF V), (natF U), (natF V)]) hP hst rfl rfl ?_ ?_ fin
  · show Steps apl_o2 38 Wb W0 a0 _ _ _ 16
    refine steps_snoc (k := 15) ?_ (s_assign (i := 15) hP (g := none) (isOp_of (by kernel_rfl) : IsOp apl_o2 15 none (.assign (.tmp 23))) (by kernel_rfl) (by kernel_rfl) (grd_none) (src_op (f := (natF V)) 13 (by kernel_rfl) (by kernel_rfl) rfl) rfl)
    refine steps_snoc (k := 14) ?_ (s_assign (i := 14) hP (g := none) (isOp_of (by kernel_rfl) : IsOp apl_o2 14 none (.assign (.tmp 16))) (by kernel_rfl) (by kernel_rfl) (grd_none) (src_op (f := (natF U)) 6 (by kernel_rfl) (by kernel_rfl) rfl) rfl)
    refine steps_snoc (k := 13) ?_ (s_call4 (i := 13) hP (g := none) (isOp_of (by kernel_rfl) : IsOp apl_o2 13 none (.call { callee := .value (.func 115), args := #[.tmp 17, .tmp 19, .tmp 20, .tmp 22], argTypes := #[22, 77, 22, 77] })) (by kernel_rfl) (by kernel_rfl) (grd_none) (src_op (f := (natF mm)) 7 (by kernel_rfl) (by kernel_rfl) rfl) (src_op (f := (eqF (.int .u64 (c1 : Int)))) 9 (by kernel_rfl) (by kernel_rfl) rfl) (src_op (f := (natF nn)) 10 (by kernel_rfl) (by kernel_rfl) rfl) (src_op (f := (eqF (.int .u64 (d1 : Int)))) 12 (by kernel_rfl) (by kernel_rfl) rfl) aplpl_quadrature_integer_combine (fun w v0 v1 v2 v3 hb h0 h1 h2 h3 => kComb h0 h1 h2 h3 (by assumption) (by assumption) e2 hmx hV) rfl)
    refine steps_snoc (k := 12) ?_ (s_load (i := 12) hP (g := none) (isOp_of (by kernel_rfl) : IsOp apl_o2 12 none (.load 77 (.tmp 21))) (by kernel_rfl) (by kernel_rfl) (grd_none) (bsrc_at 11 (bsrc_old 0 _ rfl rfl rfl (by kernel_rfl) (by kernel_rfl)) (by kernel_rfl) (by kernel_rfl) (by kernel_rfl)) (fun w q h => loadS3 w q h) rfl)
    refine steps_snoc (k := 11) ?_ (step_addr (i := 11) (d := 21) (g := none) hP (isOp_of (by kernel_rfl) : IsOp apl_o2 11 none (.fieldAddr 99 (.tmp 3) 3)) (by kernel_rfl) (by kernel_rfl) 3 rfl rfl _ 0 rfl rfl (by kernel_rfl) (grd_none) fldS3)
    refine steps_snoc (k := 10) ?_ (s_move (i := 10) hP (g := none) (isOp_of (by kernel_rfl) : IsOp apl_o2 10 none (.move (.tmp 2))) (by kernel_rfl) (by kernel_rfl) (grd_none) (src_low hst 2 rfl (by kernel_rfl)) rfl)
    refine steps_snoc (k := 9) ?_ (s_load (i := 9) hP (g := none) (isOp_of (by kernel_rfl) : IsOp apl_o2 9 none (.load 77 (.tmp 18))) (by kernel_rfl) (by kernel_rfl) (grd_none) (bsrc_at 8 (bsrc_old 0 _ rfl rfl rfl (by kernel_rfl) (by kernel_rfl)) (by kernel_rfl) (by kernel_rfl) (by kernel_rfl)) (fun w q h => loadS2 w q h) rfl)
    refine steps_snoc (k := 8) ?_ (step_addr (i := 8) (d := 18) (g := none) hP (isOp_of (by kernel_rfl) : IsOp apl_o2 8 none (.fieldAddr 99 (.tmp 3) 2)) (by kernel_rfl) (by kernel_rfl) 2 rfl rfl _ 0 rfl rfl (by kernel_rfl) (grd_none) fldS2)
    refine steps_snoc (k := 7) ?_ (s_move (i := 7) hP (g := none) (isOp_of (by kernel_rfl) : IsOp apl_o2 7 none (.move (.tmp 1))) (by kernel_rfl) (by kernel_rfl) (grd_none) (src_low hst 1 rfl (by kernel_rfl)) rfl)
    refine steps_snoc (k := 6) ?_ (s_call4 (i := 6) hP (g := none) (isOp_of (by kernel_rfl) : IsOp apl_o2 6 none (.call { callee := .value (.func 115), args := #[.tmp 10, .tmp 12, .tmp 13, .tmp 15], argTypes := #[22, 77, 22, 77] })) (by kernel_rfl) (by kernel_rfl) (grd_none) (src_op (f := (natF nn)) 0 (by kernel_rfl) (by kernel_rfl) rfl) (src_op (f := (eqF (.int .u64 (d0 : Int)))) 2 (by kernel_rfl) (by kernel_rfl) rfl) (src_op (f := (natF mm)) 3 (by kernel_rfl) (by kernel_rfl) rfl) (src_op (f := (eqF (.int .u64 (c0 : Int)))) 5 (by kernel_rfl) (by kernel_rfl) rfl) aplpl_quadrature_integer_combine (fun w v0 v1 v2 v3 hb h0 h1 h2 h3 => kComb h0 h1 h2 h3 (by assumption) (by assumption) e1 (Nat.max_comm (len mm) (len nn) ▸ hmx) (Nat.max_comm (len mm) (len nn) ▸ hU)) rfl)
    refine steps_snoc (k := 5) ?_ (s_load (i := 5) hP (g := none) (isOp_of (by kernel_rfl) : IsOp apl_o2 5 none (.load 77 (.tmp 14))) (by kernel_rfl) (by kernel_rfl) (grd_none) (bsrc_at 4 (bsrc_old 0 _ rfl rfl rfl (by kernel_rfl) (by kernel_rfl)) (by kernel_rfl) (by kernel_rfl) (by kernel_rfl)) (fun w q h => loadS0 w q h) rfl)
    refine steps_snoc (k := 4) ?_ (step_addr (i := 4) (d := 14) (g := none) hP (isOp_of (by kernel_rfl) : IsOp apl_o2 4 none (.fieldAddr 99 (.tmp 3) 0)) (by kernel_rfl) (by kernel_rfl) 0 rfl rfl _ 0 rfl rfl (by kernel_rfl) (grd_none) fldS0)
    refine steps_snoc (k := 3) ?_ (s_move (i := 3) hP (g := none) (isOp_of (by kernel_rfl) : IsOp apl_o2 3 none (.move (.tmp 1))) (by kernel_rfl) (by kernel_rfl) (grd_none) (src_low hst 1 rfl (by kernel_rfl)) rfl)
    refine steps_snoc (k := 2) ?_ (s_load (i := 2) hP (g := none) (isOp_of (by kernel_rfl) : IsOp apl_o2 2 none (.load 77 (.tmp 11))) (by kernel_rfl) (by kernel_rfl) (grd_none) (bsrc_at 1 (bsrc_old 0 _ rfl rfl rfl (by kernel_rfl) (by kernel_rfl)) (by kernel_rfl) (by kernel_rfl) (by kernel_rfl)) (fun w q h => loadS1 w q h) rfl)
    refine steps_snoc (k := 1) ?_ (step_addr (i := 1) (d := 11) (g := none) hP (isOp_of (by kernel_rfl) : IsOp apl_o2 1 none (.fieldAddr 99 (.tmp 3) 1)) (by kernel_rfl) (by kernel_rfl) 1 rfl rfl _ 0 rfl rfl (by kernel_rfl) (grd_none) fldS1)
    refine steps_snoc (k := 0) ?_ (s_move (i := 0) hP (g := none) (isOp_of (by kernel_rfl) : IsOp apl_o2 0 none (.move (.tmp 2))) (by kernel_rfl) (by kernel_rfl) (grd_none) (src_low hst 2 rfl (by kernel_rfl)) rfl)
    exact steps_nil
  · intro m a w hI hm
    exact ⟨(low_fact hst 0 rfl (by kernel_rfl) hI), (low_fact hst 1 rfl (by kernel_rfl) hI), (low_fact hst 2 rfl (by kernel_rfl) hI), (out_op hI hm 14 6 _ (by kernel_rfl) rfl), (out_op hI hm 15 7 _ (by kernel_rfl) rfl), (low_fact hst 5 rfl (by kernel_rfl) hI), trivial⟩
set_option maxRecDepth 100000 in
theorem apl_r0b {Q : Exit → Act → World → Prop} {Wb W0 : World} {a0 : Act} {mm nn c0 d0 c1 d1 U V : Nat} (_l0 : c0 < 4294967296) (_l1 : d0 < 4294967296) (_l2 : c1 < 4294967296) (_l3 : d1 < 4294967296) (_hmx : max (len mm) (len nn) ≤ 1099511627776) (_hU : len U ≤ max (len mm) (len nn)) (_hV : len V ≤ max (len mm) (len nn)) (_e1 : U + d0 * nn = c0 * mm) (_e2 : V + c1 * mm = d1 * nn) (hst : St Wb 38 [(0, (eqF (.agg #[.int .u64 (c0 : Int), .int .u64 (d0 : Int), .int .u64 (c1 : Int), .int .u64 (d1 : Int), .bool false]))), (1, (natF mm)), (2, (natF nn))] [] a0 W0)
    (fin : ∀ a w, St Wb 38 [(0, (eqF (.agg #[.int .u64 (c0 : Int), .int .u64 (d0 : Int), .int .u64 (c1 : Int), .int .u64 (d1 : Int), .bool false]))), (1, (natF mm)), (2, (natF nn)), (6, (eqF (.slice none 0 0))), (7, (eqF (.slice none 0 0)))] [(3, (stBF c0 d0 c1 d1 false))] a w → Q .normal a w) : (Code.region 0 apl_o0 false).wp Tryz.prog Q a0 W0 := by
  have hP : Plan apl_o0 38 ([⟨3, some 0, none, (stBF c0 d0 c1 d1 false), (stBF c0 d0 c1 d1 false)⟩] : List BoxS) [] := ⟨by kernel_rfl, by kernel_rfl, by kernel_rfl, by kernel_rfl, by kernel_rfl, by kernel_rfl⟩
  refine region_st (F := [anyF, (eqF (.slice none 0 0)), (eqF (.slice none 0 0))]) hP hst rfl rfl ?_ ?_ fin
  · show Steps apl_o0 38 Wb W0 a0 _ _ _ 3
    refine steps_snoc (k := 2) ?_ (s_assign (i := 2) hP (g := none) (isOp_of (by kernel_rfl) : IsOp apl_o0 2 none (.assign (.const (.slice none 0 0)))) (by kernel_rfl) (by kernel_rfl) (grd_none) (src_const _) rfl)
    refine steps_snoc (k := 1) ?_ (s_assign (i := 1) hP (g := none) (isOp_of (by kernel_rfl) : IsOp apl_o0 1 none (.assign (.const (.slice none 0 0)))) (by kernel_rfl) (by kernel_rfl) (grd_none) (src_const _) rfl)
    refine steps_snoc (k := 0) ?_ (s_box (i := 0) (d := 3) hP 0 _ (isOp_of (by kernel_rfl) : IsOp apl_o0 0 none (.box 99 (.tmp 0))) (by kernel_rfl) rfl rfl rfl (by kernel_rfl) (by kernel_rfl) (by kernel_rfl) (by kernel_rfl) rfl (src_low hst 0 rfl (by kernel_rfl)) (fun w v h => boxS_run w v h))
    exact steps_nil
  · intro m a w hI hm
    exact ⟨(low_fact hst 0 rfl (by kernel_rfl) hI), (low_fact hst 1 rfl (by kernel_rfl) hI), (low_fact hst 2 rfl (by kernel_rfl) hI), (out_op hI hm 1 6 _ (by kernel_rfl) rfl), (out_op hI hm 2 7 _ (by kernel_rfl) rfl), trivial⟩
set_option maxRecDepth 100000 in
theorem apl_r1b {Q : Exit → Act → World → Prop} {Wb W0 : World} {a0 : Act} {mm nn c0 d0 c1 d1 U V : Nat} (_l0 : c0 < 4294967296) (_l1 : d0 < 4294967296) (_l2 : c1 < 4294967296) (_l3 : d1 < 4294967296) (_hmx : max (len mm) (len nn) ≤ 1099511627776) (_hU : len U ≤ max (len mm) (len nn)) (_hV : len V ≤ max (len mm) (len nn)) (_e1 : U + d0 * nn = c0 * mm) (_e2 : V + c1 * mm = d1 * nn) (hst : St Wb 38 [(0, (eqF (.agg #[.int .u64 (c0 : Int), .int .u64 (d0 : Int), .int .u64 (c1 : Int), .int .u64 (d1 : Int), .bool false]))), (1, (natF mm)), (2, (natF nn)), (6, (eqF (.slice none 0 0))), (7, (eqF (.slice none 0 0)))] [(3, (stBF c0 d0 c1 d1 false))] a0 W0)
    (fin : ∀ a w, St Wb 38 [(0, (eqF (.agg #[.int .u64 (c0 : Int), .int .u64 (d0 : Int), .int .u64 (c1 : Int), .int .u64 (d1 : Int), .bool false]))), (1, (natF mm)), (2, (natF nn)), (6, (eqF (.slice none 0 0))), (7, (eqF (.slice none 0 0))), (9, (eqF (.bool false)))] [(3, (stBF c0 d0 c1 d1 false))] a w → Q .normal a w) : (Code.region 1 apl_o1 false).wp Tryz.prog Q a0 W0 := by
  have hP : Plan apl_o1 38 ([⟨3, none, none, (stBF c0 d0 c1 d1 false), (stBF c0 d0 c1 d1 false)⟩] : List BoxS) [(0, 3, 4)] := ⟨by kernel_rfl, by kernel_rfl, by kernel_rfl, by kernel_rfl, by kernel_rfl, by kernel_rfl⟩
  refine region_st (F := [anyF, (eqF (.bool false))]) hP hst rfl rfl ?_ ?_ fin
  · show Steps apl_o1 38 Wb W0 a0 _ _ _ 2
    refine steps_snoc (k := 1) ?_ (s_load (i := 1) hP (g := none) (isOp_of (by kernel_rfl) : IsOp apl_o1 1 none (.load 4 (.tmp 8))) (by kernel_rfl) (by kernel_rfl) (grd_none) (bsrc_at 0 (bsrc_old 0 _ rfl rfl rfl (by kernel_rfl) (by kernel_rfl)) (by kernel_rfl) (by kernel_rfl) (by kernel_rfl)) (fun w q h => loadS4 w q h) rfl)
    refine steps_snoc (k := 0) ?_ (step_addr (i := 0) (d := 8) (g := none) hP (isOp_of (by kernel_rfl) : IsOp apl_o1 0 none (.fieldAddr 99 (.tmp 3) 4)) (by kernel_rfl) (by kernel_rfl) 4 rfl rfl _ 0 rfl rfl (by kernel_rfl) (grd_none) fldS4)
    exact steps_nil
  · intro m a w hI hm
    exact ⟨(low_fact hst 0 rfl (by kernel_rfl) hI), (low_fact hst 1 rfl (by kernel_rfl) hI), (low_fact hst 2 rfl (by kernel_rfl) hI), (low_fact hst 3 rfl (by kernel_rfl) hI), (low_fact hst 4 rfl (by kernel_rfl) hI), (out_op hI hm 1 9 _ (by kernel_rfl) rfl), trivial⟩
set_option maxRecDepth 100000 in
theorem apl_r3 {Q : Exit → Act → World → Prop} {Wb W0 : World} {a0 : Act} {mm nn c0 d0 c1 d1 U V : Nat} (_l0 : c0 < 4294967296) (_l1 : d0 < 4294967296) (_l2 : c1 < 4294967296) (_l3 : d1 < 4294967296) (hmx : max (len mm) (len nn) ≤ 1099511627776) (hU : len U ≤ max (len mm) (len nn)) (hV : len V ≤ max (len mm) (len nn)) (e1 : U + d0 * nn = c0 * mm) (e2 : V + c1 * mm = d1 * nn) (hst : St Wb 38 [(0, (eqF (.agg #[.int .u64 (c0 : Int), .int .u64 (d0 : Int), .int .u64 (c1 : Int), .int .u64 (d1 : Int), .bool false]))), (1, (natF mm)), (2, (natF nn)), (6, (eqF (.slice none 0 0))), (7, (eqF (.slice none 0 0))), (9, (eqF (.bool false)))] [(3, (stBF c0 d0 c1 d1 false))] a0 W0)
    (fin : ∀ a w, St Wb 38 [(0, (eqF (.agg #[.int .u64 (c0 : Int), .int .u64 (d0 : Int), .int .u64 (c1 : Int), .int .u64 (d1 : Int), .bool false]))), (1, (natF mm)), (2, (natF nn)), (6, (natF U)), (7, (natF V)), (9, (eqF (.bool false)))] [(3, (stBF c0 d0 c1 d1 false))] a w → Q .normal a w) : (Code.region 3 apl_o3 true).wp Tryz.prog Q a0 W0 := by
  have hP : Plan apl_o3 38 ([⟨3, none, none, (stBF c0 d0 c1 d1 false), (stBF c0 d0 c1 d1 false)⟩] : List BoxS) [(1, 3, 0), (4, 3, 1), (8, 3, 3), (11, 3, 2)] := ⟨by kernel_rfl, by kernel_rfl, by kernel_rfl, by kernel_rfl, by kernel_rfl, by kernel_rfl⟩
  refine region_st (F := [(natF mm), anyF, (eqF (.int .u64 (c0 : Int))), (natF nn), anyF, (eqF (.int .u64 (d0 : Int))), (natF U), (natF nn), anyF, (eqF (.int .u64 (d1 : Int))), (natF mm), anyF, (eqF (.int .u64 (c1 : Int))), (natF V), (natF U), (natF V)]) hP hst rfl rfl ?_ ?_ fin
  · show Steps apl_o3 38 Wb W0 a0 _ _ _ 16
    refine steps_snoc (k := 15) ?_ (s_assign (i := 15) hP (g := none) (isOp_of (by kernel_rfl) : IsOp apl_o3 15 none (.assign (.tmp 37))) (by kernel_rfl) (by kernel_rfl) (grd_none) (src_op (f := (natF V)) 13 (by kernel_rfl) (by kernel_rfl) rfl) rfl)
    refine steps_snoc (k := 14) ?_ (s_assign (i := 14) hP (g := none) (isOp_of (by kernel_rfl) : IsOp apl_o3 14 none (.assign (.tmp 30))) (by kernel_rfl) (by kernel_rfl) (grd_none) (src_op (f := (natF U)) 6 (by kernel_rfl) (by kernel_rfl) rfl) rfl)
    refine steps_snoc (k := 13) ?_ (s_call4 (i := 13) hP (g := none) (isOp_of (by kernel_rfl) : IsOp apl_o3 13 none (.call { callee := .value (.func 115), args := #[.tmp 31, .tmp 33, .tmp 34, .tmp 36], argTypes := #[22, 77, 22, 77] })) (by kernel_rfl) (by kernel_rfl) (grd_none) (src_op (f := (natF nn)) 7 (by kernel_rfl) (by kernel_rfl) rfl) (src_op (f := (eqF (.int .u64 (d1 : Int)))) 9 (by kernel_rfl) (by kernel_rfl) rfl) (src_op (f := (natF mm)) 10 (by kernel_rfl) (by kernel_rfl) rfl) (src_op (f := (eqF (.int .u64 (c1 : Int)))) 12 (by kernel_rfl) (by kernel_rfl) rfl) aplpl_quadrature_integer_combine (fun w v0 v1 v2 v3 hb h0 h1 h2 h3 => kComb h0 h1 h2 h3 (by assumption) (by assumption) e2 (Nat.max_comm (len mm) (len nn) ▸ hmx) (Nat.max_comm (len mm) (len nn) ▸ hV)) rfl)
    refine steps_snoc (k := 12) ?_ (s_load (i := 12) hP (g := none) (isOp_of (by kernel_rfl) : IsOp apl_o3 12 none (.load 77 (.tmp 35))) (by kernel_rfl) (by kernel_rfl) (grd_none) (bsrc_at 11 (bsrc_old 0 _ rfl rfl rfl (by kernel_rfl) (by kernel_rfl)) (by kernel_rfl) (by kernel_rfl) (by kernel_rfl)) (fun w q h => loadS2 w q h) rfl)
    refine steps_snoc (k := 11) ?_ (step_addr (i := 11) (d := 35) (g := none) hP (isOp_of (by kernel_rfl) : IsOp apl_o3 11 none (.fieldAddr 99 (.tmp 3) 2)) (by kernel_rfl) (by kernel_rfl) 2 rfl rfl _ 0 rfl rfl (by kernel_rfl) (grd_none) fldS2)
    refine steps_snoc (k := 10) ?_ (s_move (i := 10) hP (g := none) (isOp_of (by kernel_rfl) : IsOp apl_o3 10 none (.move (.tmp 1))) (by kernel_rfl) (by kernel_rfl) (grd_none) (src_low hst 1 rfl (by kernel_rfl)) rfl)
    refine steps_snoc (k := 9) ?_ (s_load (i := 9) hP (g := none) (isOp_of (by kernel_rfl) : IsOp apl_o3 9 none (.load 77 (.tmp 32))) (by kernel_rfl) (by kernel_rfl) (grd_none) (bsrc_at 8 (bsrc_old 0 _ rfl rfl rfl (by kernel_rfl) (by kernel_rfl)) (by kernel_rfl) (by kernel_rfl) (by kernel_rfl)) (fun w q h => loadS3 w q h) rfl)
    refine steps_snoc (k := 8) ?_ (step_addr (i := 8) (d := 32) (g := none) hP (isOp_of (by kernel_rfl) : IsOp apl_o3 8 none (.fieldAddr 99 (.tmp 3) 3)) (by kernel_rfl) (by kernel_rfl) 3 rfl rfl _ 0 rfl rfl (by kernel_rfl) (grd_none) fldS3)
    refine steps_snoc (k := 7) ?_ (s_move (i := 7) hP (g := none) (isOp_of (by kernel_rfl) : IsOp apl_o3 7 none (.move (.tmp 2))) (by kernel_rfl) (by kernel_rfl) (grd_none) (src_low hst 2 rfl (by kernel_rfl)) rfl)
    refine steps_snoc (k := 6) ?_ (s_call4 (i := 6) hP (g := none) (isOp_of (by kernel_rfl) : IsOp apl_o3 6 none (.call { callee := .value (.func 115), args := #[.tmp 24, .tmp 26, .tmp 27, .tmp 29], argTypes := #[22, 77, 22, 77] })) (by kernel_rfl) (by kernel_rfl) (grd_none) (src_op (f := (natF mm)) 0 (by kernel_rfl) (by kernel_rfl) rfl) (src_op (f := (eqF (.int .u64 (c0 : Int)))) 2 (by kernel_rfl) (by kernel_rfl) rfl) (src_op (f := (natF nn)) 3 (by kernel_rfl) (by kernel_rfl) rfl) (src_op (f := (eqF (.int .u64 (d0 : Int)))) 5 (by kernel_rfl) (by kernel_rfl) rfl) aplpl_quadrature_integer_combine (fun w v0 v1 v2 v3 hb h0 h1 h2 h3 => kComb h0 h1 h2 h3 (by assumption) (by assumption) e1 hmx hU) rfl)
    refine steps_snoc (k := 5) ?_ (s_load (i := 5) hP (g := none) (isOp_of (by kernel_rfl) : IsOp apl_o3 5 none (.load 77 (.tmp 28))) (by kernel_rfl) (by kernel_rfl) (grd_none) (bsrc_at 4 (bsrc_old 0 _ rfl rfl rfl (by kernel_rfl) (by kernel_rfl)) (by kernel_rfl) (by kernel_rfl) (by kernel_rfl)) (fun w q h => loadS1 w q h) rfl)
    refine steps_snoc (k := 4) ?_ (step_addr (i := 4) (d := 28) (g := none) hP (isOp_of (by kernel_rfl) : IsOp apl_o3 4 none (.fieldAddr 99 (.tmp 3) 1)) (by kernel_rfl) (by kernel_rfl) 1 rfl rfl _ 0 rfl rfl (by kernel_rfl) (grd_none) fldS1)
    refine steps_snoc (k := 3) ?_ (s_move (i := 3) hP (g := none) (isOp_of (by kernel_rfl) : IsOp apl_o3 3 none (.move (.tmp 2))) (by kernel_rfl) (by kernel_rfl) (grd_none) (src_low hst 2 rfl (by kernel_rfl)) rfl)
    refine steps_snoc (k := 2) ?_ (s_load (i := 2) hP (g := none) (isOp_of (by kernel_rfl) : IsOp apl_o3 2 none (.load 77 (.tmp 25))) (by kernel_rfl) (by kernel_rfl) (grd_none) (bsrc_at 1 (bsrc_old 0 _ rfl rfl rfl (by kernel_rfl) (by kernel_rfl)) (by kernel_rfl) (by kernel_rfl) (by kernel_rfl)) (fun w q h => loadS0 w q h) rfl)
    refine steps_snoc (k := 1) ?_ (step_addr (i := 1) (d := 25) (g := none) hP (isOp_of (by kernel_rfl) : IsOp apl_o3 1 none (.fieldAddr 99 (.tmp 3) 0)) (by kernel_rfl) (by kernel_rfl) 0 rfl rfl _ 0 rfl rfl (by kernel_rfl) (grd_none) fldS0)
    refine steps_snoc (k := 0) ?_ (s_move (i := 0) hP (g := none) (isOp_of (by kernel_rfl) : IsOp apl_o3 0 none (.move (.tmp 1))) (by kernel_rfl) (by kernel_rfl) (grd_none) (src_low hst 1 rfl (by kernel_rfl)) rfl)
    exact steps_nil
  · intro m a w hI hm
    exact ⟨(low_fact hst 0 rfl (by kernel_rfl) hI), (low_fact hst 1 rfl (by kernel_rfl) hI), (low_fact hst 2 rfl (by kernel_rfl) hI), (out_op hI hm 14 6 _ (by kernel_rfl) rfl), (out_op hI hm 15 7 _ (by kernel_rfl) rfl), (low_fact hst 5 rfl (by kernel_rfl) hI), trivial⟩
set_option maxRecDepth 100000 in
theorem apply_odd (va vb : Value) (mm nn c0 d0 c1 d1 U V : Nat) (W : World) (ha : NatAt W va mm) (hb : NatAt W vb nn) (l0 : c0 < 4294967296) (l1 : d0 < 4294967296) (l2 : c1 < 4294967296) (l3 : d1 < 4294967296) (hmx : max (len mm) (len nn) ≤ 1099511627776) (hU : len U ≤ max (len mm) (len nn)) (hV : len V ≤ max (len mm) (len nn)) (e1 : U + c0 * mm = d0 * nn) (e2 : V + d1 * nn = c1 * mm) :
    Calls Tryz.prog 96 #[.agg #[.int .u64 (c0 : Int), .int .u64 (d0 : Int), .int .u64 (c1 : Int), .int .u64 (d1 : Int), .bool true], va, vb] W (GivesP (tup2F (natF U) (natF V)) W) := by
  refine calls_stW (S := [(0, (eqF (.agg #[.int .u64 (c0 : Int), .int .u64 (d0 : Int), .int .u64 (c1 : Int), .int .u64 (d1 : Int), .bool true]))), (1, (natF mm)), (2, (natF nn))]) Tryz.func96 (by kernel_rfl) Tryz.ntmps96 (by simp) (fun x hx => ?_) fun a w hst => ?_
  · simp only [List.mem_cons, List.not_mem_nil, or_false] at hx
    rcases hx with rfl | rfl | rfl
    · exact ⟨_, rfl, rfl⟩
    · exact ⟨_, rfl, ha⟩
    · exact ⟨_, rfl, hb⟩
  show Code.wp _ apl_n0 _ a w
  rw [apl_e0]
  refine wp_seq ?_
  rw [apl_e1]
  refine apl_r0 l0 l1 l2 l3 hmx hU hV e1 e2 hst ?_
  clear hst
  intro a w hst
  show Code.wp _ apl_n2 _ a w
  rw [apl_e2]
  refine wp_seq ?_
  rw [apl_e3]
  refine wp_seq ?_
  rw [apl_e5]
  refine apl_r1 l0 l1 l2 l3 hmx hU hV e1 e2 hst ?_
  clear hst
  intro a w hst
  show Code.wp _ apl_n6 _ a w
  rw [apl_e6]
  refine wp_cond_true (st_bool hst 5 rfl) ?_
  show Code.wp _ apl_n7 _ a w
  rw [apl_e7]
  refine wp_seq ?_
  rw [apl_e9]
  refine apl_r2 l0 l1 l2 l3 hmx hU hV e1 e2 hst ?_
  clear hst
  intro a w hst
  show Code.wp _ apl_n10 _ a w
  rw [apl_e10]
  refine wp_ret ?_
  exact ret_tmp2 hst rfl 3 rfl 4 rfl
set_option maxRecDepth 100000 in
theorem apply_even (va vb : Value) (mm nn c0 d0 c1 d1 U V : Nat) (W : World) (ha : NatAt W va mm) (hb : NatAt W vb nn) (l0 : c0 < 4294967296) (l1 : d0 < 4294967296) (l2 : c1 < 4294967296) (l3 : d1 < 4294967296) (hmx : max (len mm) (len nn) ≤ 1099511627776) (hU : len U ≤ max (len mm) (len nn)) (hV : len V ≤ max (len mm) (len nn)) (e1 : U + d0 * nn = c0 * mm) (e2 : V + c1 * mm = d1 * nn) :
    Calls Tryz.prog 96 #[.agg #[.int .u64 (c0 : Int), .int .u64 (d0 : Int), .int .u64 (c1 : Int), .int .u64 (d1 : Int), .bool false], va, vb] W (GivesP (tup2F (natF U) (natF V)) W) := by
  refine calls_stW (S := [(0, (eqF (.agg #[.int .u64 (c0 : Int), .int .u64 (d0 : Int), .int .u64 (c1 : Int), .int .u64 (d1 : Int), .bool false]))), (1, (natF mm)), (2, (natF nn))]) Tryz.func96 (by kernel_rfl) Tryz.ntmps96 (by simp) (fun x hx => ?_) fun a w hst => ?_
  · simp only [List.mem_cons, List.not_mem_nil, or_false] at hx
    rcases hx with rfl | rfl | rfl
    · exact ⟨_, rfl, rfl⟩
    · exact ⟨_, rfl, ha⟩
    · exact ⟨_, rfl, hb⟩
  show Code.wp _ apl_n0 _ a w
  rw [apl_e0]
  refine wp_seq ?_
  rw [apl_e1]
  refine apl_r0b l0 l1 l2 l3 hmx hU hV e1 e2 hst ?_
  clear hst
  intro a w hst
  show Code.wp _ apl_n2 _ a w
  rw [apl_e2]
  refine wp_seq ?_
  rw [apl_e3]
  refine wp_seq ?_
  rw [apl_e5]
  refine apl_r1b l0 l1 l2 l3 hmx hU hV e1 e2 hst ?_
  clear hst
  intro a w hst
  show Code.wp _ apl_n6 _ a w
  rw [apl_e6]
  refine wp_cond_false (st_bool hst 5 rfl) ?_
  show Code.wp _ apl_n8 _ a w
  rw [apl_e8]
  refine wp_skip ?_
  show Code.wp _ apl_n4 _ a w
  rw [apl_e4]
  refine wp_seq ?_
  rw [apl_e11]
  refine apl_r3 l0 l1 l2 l3 hmx hU hV e1 e2 hst ?_
  clear hst
  intro a w hst
  show Code.wp _ apl_n12 _ a w
  rw [apl_e12]
  refine wp_ret ?_
  exact ret_tmp2 hst rfl 3 rfl 4 rfl
end Go.Proofs.YtdofolejfdfocaaGreatDoor
