/- The law IntegerDivides answers true, given the fixed examples (written by wip/tools/gen_divides.py). -/
import Derived.Test.YtjajmonhcnmidaaDoorqCon2
namespace Go.Proofs.YtjajmonhcnmidaaDoor
open Go.RowKit

theorem dv_ge (a : Int) {b : Int} (hb : b ≠ 0) : decide (0 ≤ Int.sign (a % b)) = true := by
  have := Int.emod_nonneg a hb
  rw [decide_eq_true_eq]
  rcases Int.lt_or_eq_of_le this with h | h
  · rw [Int.sign_eq_one_of_pos h]; decide
  · rw [← h]; decide
theorem dv_lt (a : Int) {b : Int} (hb : b ≠ 0) : decide (Int.sign (a % b - (b.natAbs : Int)) < 0) = true := by
  have := Int.emod_lt a hb
  rw [decide_eq_true_eq, Int.sign_eq_neg_one_of_neg (by omega)]
  decide
theorem dv_all (a b : Int) : a / b * b + a % b = a := by rw [Int.mul_comm]; exact Int.mul_ediv_add_emod a b
theorem dvpl_quadrature_integer_DivMod : Plainly 31 := fun _ _ => by simp [go_sem]
theorem dvpl_quadrature_quadraturelaw01_made : Plainly 12 := fun _ _ => by simp [go_sem]
theorem dvpl_quadrature_quadraturelaw01_sanity : Plainly 11 := fun _ _ => by simp [go_sem]
theorem dvpl_quadrature_quadratureref01_Add : Plainly 22 := fun _ _ => by simp [go_sem]
theorem dvpl_quadrature_quadratureref01_Cmp : Plainly 27 := fun _ _ => by simp [go_sem]
theorem dvpl_quadrature_quadratureref01_Made : Plainly 32 := fun _ _ => by simp [go_sem]
theorem dvpl_quadrature_quadratureref01_Mul : Plainly 24 := fun _ _ => by simp [go_sem]
theorem dvpl_quadrature_quadratureref01_Same : Plainly 21 := fun _ _ => by simp [go_sem]
theorem dvpl_quadrature_quadratureref01_Sign : Plainly 29 := fun _ _ => by simp [go_sem]
theorem dvpl_quadrature_quadratureref01_Valid : Plainly 20 := fun _ _ => by simp [go_sem]
noncomputable def dv_n0 : Code := bodyOf Tryd.f7
noncomputable def dv_n1 : Code := cl dv_n0
noncomputable def dv_n2 : Code := cr dv_n0
theorem dv_e0 : dv_n0 = .seq dv_n1 dv_n2 := by kernel_rfl
noncomputable def dv_o0 : Array Oper := opsOf dv_n1
theorem dv_e1 : dv_n1 = .region 0 dv_o0 false := by kernel_rfl
noncomputable def dv_n3 : Code := cl dv_n2
noncomputable def dv_n4 : Code := cr dv_n2
theorem dv_e2 : dv_n2 = .seq dv_n3 dv_n4 := by kernel_rfl
noncomputable def dv_o1 : Array Oper := opsOf dv_n3
theorem dv_e3 : dv_n3 = .region 1 dv_o1 false := by kernel_rfl
noncomputable def dv_n5 : Code := cl dv_n4
noncomputable def dv_n6 : Code := cr dv_n4
theorem dv_e4 : dv_n4 = .seq dv_n5 dv_n6 := by kernel_rfl
noncomputable def dv_o2 : Array Oper := opsOf dv_n5
theorem dv_e5 : dv_n5 = .region 2 dv_o2 true := by kernel_rfl
noncomputable def dv_n7 : Code := cl dv_n6
noncomputable def dv_n8 : Code := cr dv_n6
theorem dv_e6 : dv_n6 = .seq dv_n7 dv_n8 := by kernel_rfl
noncomputable def dv_o3 : Array Oper := opsOf dv_n7
theorem dv_e7 : dv_n7 = .region 3 dv_o3 false := by kernel_rfl
noncomputable def dv_n9 : Code := cl dv_n8
noncomputable def dv_n10 : Code := cr dv_n8
theorem dv_e8 : dv_n8 = .seq dv_n9 dv_n10 := by kernel_rfl
noncomputable def dv_n11 : Code := cl dv_n9
noncomputable def dv_n12 : Code := cr dv_n9
theorem dv_e9 : dv_n9 = .seq dv_n11 dv_n12 := by kernel_rfl
noncomputable def dv_o4 : Array Oper := opsOf dv_n11
theorem dv_e11 : dv_n11 = .region 4 dv_o4 false := by kernel_rfl
noncomputable def dv_n13 : Code := cl dv_n12
noncomputable def dv_n14 : Code := cr dv_n12
theorem dv_e12 : dv_n12 = .cond (.tmp 29) dv_n13 dv_n14 := by kernel_rfl
noncomputable def dv_n15 : Code := cl dv_n13
noncomputable def dv_n16 : Code := cr dv_n13
theorem dv_e13 : dv_n13 = .seq dv_n15 dv_n16 := by kernel_rfl
noncomputable def dv_o5 : Array Oper := opsOf dv_n15
theorem dv_e15 : dv_n15 = .region 5 dv_o5 false := by kernel_rfl
theorem dv_e16 : dv_n16 = .ret := by kernel_rfl
theorem dv_e14 : dv_n14 = .skip := by kernel_rfl
noncomputable def dv_n17 : Code := cl dv_n10
noncomputable def dv_n18 : Code := cr dv_n10
theorem dv_e10 : dv_n10 = .seq dv_n17 dv_n18 := by kernel_rfl
noncomputable def dv_o6 : Array Oper := opsOf dv_n17
theorem dv_e17 : dv_n17 = .region 6 dv_o6 true := by kernel_rfl
noncomputable def dv_n19 : Code := cl dv_n18
noncomputable def dv_n20 : Code := cr dv_n18
theorem dv_e18 : dv_n18 = .seq dv_n19 dv_n20 := by kernel_rfl
noncomputable def dv_o7 : Array Oper := opsOf dv_n19
theorem dv_e19 : dv_n19 = .region 7 dv_o7 true := by kernel_rfl
noncomputable def dv_n21 : Code := cl dv_n20
noncomputable def dv_n22 : Code := cr dv_n20
theorem dv_e20 : dv_n20 = .seq dv_n21 dv_n22 := by kernel_rfl
noncomputable def dv_o8 : Array Oper := opsOf dv_n21
theorem dv_e21 : dv_n21 = .region 8 dv_o8 true := by kernel_rfl
theorem dv_e22 : dv_n22 = .ret := by kernel_rfl
set_option maxRecDepth 100000 in
theorem dv_r0 {Q : Exit → Act → World → Prop} {Wb W0 : World} {a0 : Act} {r0 r1 : RawArg} (_hS : Sanity) (_ht : P10 Wb) (_k0 : r0.Ok Wb) (_k1 : r1.Ok Wb) (_hz : r1.int = 0) (hst : St Wb 104 [(0, (eqF r0.val_)), (1, (eqF r1.val_))] [] a0 W0)
    (fin : ∀ a w, St Wb 104 [(0, (eqF r0.val_)), (1, (eqF r1.val_)), (4, (eqF (.bool false)))] [(2, (rawBF r0)), (3, (rawBF r1))] a w → Q .normal a w) : (Code.region 0 dv_o0 false).wp Tryd.prog Q a0 W0 := by
  have hP : Plan dv_o0 104 ([⟨2, some 0, none, (rawBF r0), (rawBF r0)⟩, ⟨3, some 1, none, (rawBF r1), (rawBF r1)⟩] : List BoxS) [] := ⟨by kernel_rfl, by kernel_rfl, by kernel_rfl, by kernel_rfl, by kernel_rfl, by kernel_rfl⟩
  refine region_st (F := [anyF, anyF, (eqF (.bool false))]) hP hst rfl rfl ?_ ?_ fin
  · show Steps dv_o0 104 Wb W0 a0 _ _ _ 3
    refine steps_snoc (k := 2) ?_ (s_assign (i := 2) hP (g := none) (isOp_of (by kernel_rfl) : IsOp dv_o0 2 none (.assign (.const (.bool false)))) (by kernel_rfl) (by kernel_rfl) (grd_none) (src_const _) rfl)
    refine steps_snoc (k := 1) ?_ (s_box (i := 1) (d := 3) hP 1 _ (isOp_of (by kernel_rfl) : IsOp dv_o0 1 none (.box 24 (.tmp 1))) (by kernel_rfl) rfl rfl rfl (by kernel_rfl) (by kernel_rfl) (by kernel_rfl) (by kernel_rfl) rfl (src_low hst 1 rfl (by kernel_rfl)) (fun w v h => boxR_run w v h))
    refine steps_snoc (k := 0) ?_ (s_box (i := 0) (d := 2) hP 0 _ (isOp_of (by kernel_rfl) : IsOp dv_o0 0 none (.box 24 (.tmp 0))) (by kernel_rfl) rfl rfl rfl (by kernel_rfl) (by kernel_rfl) (by kernel_rfl) (by kernel_rfl) rfl (src_low hst 0 rfl (by kernel_rfl)) (fun w v h => boxR_run w v h))
    exact steps_nil
  · intro m a w hI hm
    exact ⟨(low_fact hst 0 rfl (by kernel_rfl) hI), (low_fact hst 1 rfl (by kernel_rfl) hI), (out_op hI hm 2 4 _ (by kernel_rfl) rfl), trivial⟩
set_option maxRecDepth 100000 in
theorem dv_r1 {Q : Exit → Act → World → Prop} {Wb W0 : World} {a0 : Act} {r0 r1 : RawArg} (hS : Sanity) (ht : P10 Wb) (_k0 : r0.Ok Wb) (_k1 : r1.Ok Wb) (_hz : r1.int = 0) (hst : St Wb 104 [(0, (eqF r0.val_)), (1, (eqF r1.val_)), (4, (eqF (.bool false)))] [(2, (rawBF r0)), (3, (rawBF r1))] a0 W0)
    (fin : ∀ a w, St Wb 104 [(0, (eqF r0.val_)), (1, (eqF r1.val_)), (4, (eqF (.bool false))), (5, (eqF (.bool true)))] [(2, (rawBF r0)), (3, (rawBF r1))] a w → Q .normal a w) : (Code.region 1 dv_o1 false).wp Tryd.prog Q a0 W0 := by
  have hP : Plan dv_o1 104 ([⟨2, none, none, (rawBF r0), (rawBF r0)⟩, ⟨3, none, none, (rawBF r1), (rawBF r1)⟩] : List BoxS) [] := ⟨by kernel_rfl, by kernel_rfl, by kernel_rfl, by kernel_rfl, by kernel_rfl, by kernel_rfl⟩
  refine region_st (F := [(eqF (.bool true)), (eqF (.bool true))]) hP hst rfl rfl ?_ ?_ fin
  · show Steps dv_o1 104 Wb W0 a0 _ _ _ 2
    refine steps_snoc (k := 1) ?_ (s_assign (i := 1) hP (g := none) (isOp_of (by kernel_rfl) : IsOp dv_o1 1 none (.assign (.tmp 15))) (by kernel_rfl) (by kernel_rfl) (grd_none) (src_op (f := (eqF (.bool true))) 0 (by kernel_rfl) (by kernel_rfl) rfl) rfl)
    refine steps_snoc (k := 0) ?_ (s_call0 (i := 0) hP (g := none) (isOp_of (by kernel_rfl) : IsOp dv_o1 0 none (.call { callee := .value (.func 11), args := #[], argTypes := #[] })) (by kernel_rfl) (by kernel_rfl) (grd_none)  dvpl_quadrature_quadraturelaw01_sanity (fun w  hb  => kSanity hS ht hb) rfl)
    exact steps_nil
  · intro m a w hI hm
    exact ⟨(low_fact hst 0 rfl (by kernel_rfl) hI), (low_fact hst 1 rfl (by kernel_rfl) hI), (low_fact hst 2 rfl (by kernel_rfl) hI), (out_op hI hm 1 5 _ (by kernel_rfl) rfl), trivial⟩
set_option maxRecDepth 100000 in
theorem dv_r2 {Q : Exit → Act → World → Prop} {Wb W0 : World} {a0 : Act} {r0 r1 : RawArg} (_hS : Sanity) (_ht : P10 Wb) (k0 : r0.Ok Wb) (k1 : r1.Ok Wb) (_hz : r1.int = 0) (hst : St Wb 104 [(0, (eqF r0.val_)), (1, (eqF r1.val_)), (4, (eqF (.bool false))), (5, (eqF (.bool true)))] [(2, (rawBF r0)), (3, (rawBF r1))] a0 W0)
    (fin : ∀ a w, St Wb 104 [(0, (eqF r0.val_)), (1, (eqF r1.val_)), (4, (eqF (.bool false))), (5, (eqF (.bool true)))] [(2, (rawBF r0)), (3, (rawBF r1)), (6, (boxIF r0.int)), (7, (boxIF r1.int))] a w → Q .normal a w) : (Code.region 2 dv_o2 true).wp Tryd.prog Q a0 W0 := by
  have hP : Plan dv_o2 104 ([⟨2, none, none, (rawBF r0), (rawBF r0)⟩, ⟨3, none, none, (rawBF r1), (rawBF r1)⟩, ⟨6, some 4, some 6, zeroIF, (boxIF r0.int)⟩, ⟨7, some 5, some 7, zeroIF, (boxIF r1.int)⟩] : List BoxS) [] := ⟨by kernel_rfl, by kernel_rfl, by kernel_rfl, by kernel_rfl, by kernel_rfl, by kernel_rfl⟩
  refine region_st (F := [(eqF r0.val_), (intF r0.int), (eqF r1.val_), (intF r1.int), anyF, anyF, anyF, anyF]) hP hst rfl rfl ?_ ?_ fin
  · show Steps dv_o2 104 Wb W0 a0 _ _ _ 8
    refine steps_snoc (k := 7) ?_ (s_store (i := 7) 3 _ (isOp_of (by kernel_rfl) : IsOp dv_o2 7 none (.store 27 (.tmp 7) (.tmp 19))) (by kernel_rfl) rfl rfl rfl (by kernel_rfl) (by kernel_rfl) (by kernel_rfl) (src_op (f := (intF r1.int)) 3 (by kernel_rfl) (by kernel_rfl) rfl) (storeI_zero _))
    refine steps_snoc (k := 6) ?_ (s_store (i := 6) 2 _ (isOp_of (by kernel_rfl) : IsOp dv_o2 6 none (.store 27 (.tmp 6) (.tmp 17))) (by kernel_rfl) rfl rfl rfl (by kernel_rfl) (by kernel_rfl) (by kernel_rfl) (src_op (f := (intF r0.int)) 1 (by kernel_rfl) (by kernel_rfl) rfl) (storeI_zero _))
    refine steps_snoc (k := 5) ?_ (s_alloc (i := 5) (d := 7) hP 3 _ (isOp_of (by kernel_rfl) : IsOp dv_o2 5 none (.alloc 27)) (by kernel_rfl) rfl rfl rfl (by kernel_rfl) (by kernel_rfl) (by kernel_rfl) (by kernel_rfl) rfl allocI_run allocI_old)
    refine steps_snoc (k := 4) ?_ (s_alloc (i := 4) (d := 6) hP 2 _ (isOp_of (by kernel_rfl) : IsOp dv_o2 4 none (.alloc 27)) (by kernel_rfl) rfl rfl rfl (by kernel_rfl) (by kernel_rfl) (by kernel_rfl) (by kernel_rfl) rfl allocI_run allocI_old)
    refine steps_snoc (k := 3) ?_ (s_call1 (i := 3) hP (g := none) (isOp_of (by kernel_rfl) : IsOp dv_o2 3 none (.call { callee := .value (.func 12), args := #[.tmp 18], argTypes := #[24] })) (by kernel_rfl) (by kernel_rfl) (grd_none) (src_op (f := (eqF r1.val_)) 2 (by kernel_rfl) (by kernel_rfl) rfl) dvpl_quadrature_quadraturelaw01_made (fun w v0 hb h0 => kMade k1 hb h0) rfl)
    refine steps_snoc (k := 2) ?_ (s_load (i := 2) hP (g := none) (isOp_of (by kernel_rfl) : IsOp dv_o2 2 none (.load 24 (.tmp 3))) (by kernel_rfl) (by kernel_rfl) (grd_none) (bsrc_old 1 _ rfl rfl rfl (by kernel_rfl) (by kernel_rfl)) (fun w q h => loadR_raw w q h) rfl)
    refine steps_snoc (k := 1) ?_ (s_call1 (i := 1) hP (g := none) (isOp_of (by kernel_rfl) : IsOp dv_o2 1 none (.call { callee := .value (.func 12), args := #[.tmp 16], argTypes := #[24] })) (by kernel_rfl) (by kernel_rfl) (grd_none) (src_op (f := (eqF r0.val_)) 0 (by kernel_rfl) (by kernel_rfl) rfl) dvpl_quadrature_quadraturelaw01_made (fun w v0 hb h0 => kMade k0 hb h0) rfl)
    refine steps_snoc (k := 0) ?_ (s_load (i := 0) hP (g := none) (isOp_of (by kernel_rfl) : IsOp dv_o2 0 none (.load 24 (.tmp 2))) (by kernel_rfl) (by kernel_rfl) (grd_none) (bsrc_old 0 _ rfl rfl rfl (by kernel_rfl) (by kernel_rfl)) (fun w q h => loadR_raw w q h) rfl)
    exact steps_nil
  · intro m a w hI hm
    exact ⟨(low_fact hst 0 rfl (by kernel_rfl) hI), (low_fact hst 1 rfl (by kernel_rfl) hI), (low_fact hst 2 rfl (by kernel_rfl) hI), (low_fact hst 3 rfl (by kernel_rfl) hI), trivial⟩
set_option maxRecDepth 100000 in
theorem dv_r3 {Q : Exit → Act → World → Prop} {Wb W0 : World} {a0 : Act} {r0 r1 : RawArg} (_hS : Sanity) (_ht : P10 Wb) (k0 : r0.Ok Wb) (_k1 : r1.Ok Wb) (hz : r1.int = 0) (hst : St Wb 104 [(0, (eqF r0.val_)), (1, (eqF r1.val_)), (4, (eqF (.bool false))), (5, (eqF (.bool true)))] [(2, (rawBF r0)), (3, (rawBF r1)), (6, (boxIF r0.int)), (7, (boxIF r1.int))] a0 W0)
    (fin : ∀ a w, St Wb 104 [(0, (eqF r0.val_)), (1, (eqF r1.val_)), (4, (eqF (.bool false))), (5, (eqF (.bool true))), (10, (eqF (.int .i64 3)))] [(2, (rawBF r0)), (3, (rawBF r1)), (6, (boxIF r0.int)), (7, (boxIF r1.int)), (8, (boxIF 0)), (9, (boxIF 0))] a w → Q .normal a w) : (Code.region 3 dv_o3 false).wp Tryd.prog Q a0 W0 := by
  have hP : Plan dv_o3 104 ([⟨2, none, none, (rawBF r0), (rawBF r0)⟩, ⟨3, none, none, (rawBF r1), (rawBF r1)⟩, ⟨6, none, none, (boxIF r0.int), (boxIF r0.int)⟩, ⟨7, none, none, (boxIF r1.int), (boxIF r1.int)⟩, ⟨8, some 7, some 9, zeroIF, (boxIF 0)⟩, ⟨9, some 8, some 10, zeroIF, (boxIF 0)⟩] : List BoxS) [] := ⟨by kernel_rfl, by kernel_rfl, by kernel_rfl, by kernel_rfl, by kernel_rfl, by kernel_rfl⟩
  refine region_st (F := [(intF r0.int), (intF r1.int), (tup3F (intF 0) (intF 0) (eqF (.int .i64 3))), (tup3F (intF 0) (intF 0) (eqF (.int .i64 3))), (intF 0), (intF 0), (eqF (.int .i64 3)), anyF, anyF, anyF, anyF, (eqF (.int .i64 3))]) hP hst rfl rfl ?_ ?_ fin
  · show Steps dv_o3 104 Wb W0 a0 _ _ _ 12
    refine steps_snoc (k := 11) ?_ (s_assign (i := 11) hP (g := none) (isOp_of (by kernel_rfl) : IsOp dv_o3 11 none (.assign (.tmp 26))) (by kernel_rfl) (by kernel_rfl) (grd_none) (src_op (f := (eqF (.int .i64 3))) 6 (by kernel_rfl) (by kernel_rfl) rfl) rfl)
    refine steps_snoc (k := 10) ?_ (s_store (i := 10) 5 _ (isOp_of (by kernel_rfl) : IsOp dv_o3 10 none (.store 27 (.tmp 9) (.tmp 25))) (by kernel_rfl) rfl rfl rfl (by kernel_rfl) (by kernel_rfl) (by kernel_rfl) (src_op (f := (intF 0)) 5 (by kernel_rfl) (by kernel_rfl) rfl) (storeI_zero _))
    refine steps_snoc (k := 9) ?_ (s_store (i := 9) 4 _ (isOp_of (by kernel_rfl) : IsOp dv_o3 9 none (.store 27 (.tmp 8) (.tmp 24))) (by kernel_rfl) rfl rfl rfl (by kernel_rfl) (by kernel_rfl) (by kernel_rfl) (src_op (f := (intF 0)) 4 (by kernel_rfl) (by kernel_rfl) rfl) (storeI_zero _))
    refine steps_snoc (k := 8) ?_ (s_alloc (i := 8) (d := 9) hP 5 _ (isOp_of (by kernel_rfl) : IsOp dv_o3 8 none (.alloc 27)) (by kernel_rfl) rfl rfl rfl (by kernel_rfl) (by kernel_rfl) (by kernel_rfl) (by kernel_rfl) rfl allocI_run allocI_old)
    refine steps_snoc (k := 7) ?_ (s_alloc (i := 7) (d := 8) hP 4 _ (isOp_of (by kernel_rfl) : IsOp dv_o3 7 none (.alloc 27)) (by kernel_rfl) rfl rfl rfl (by kernel_rfl) (by kernel_rfl) (by kernel_rfl) (by kernel_rfl) rfl allocI_run allocI_old)
    refine steps_snoc (k := 6) ?_ (s_op1 (i := 6) hP (g := none) (isOp_of (by kernel_rfl) : IsOp dv_o3 6 none (.extract (.tmp 20) 2)) (by kernel_rfl) (by kernel_rfl) (grd_none) (src_op (f := (tup3F (intF 0) (intF 0) (eqF (.int .i64 3)))) 3 (by kernel_rfl) (by kernel_rfl) rfl) (fun ρ w hx => h_ext3_2 hx) rfl)
    refine steps_snoc (k := 5) ?_ (s_op1 (i := 5) hP (g := none) (isOp_of (by kernel_rfl) : IsOp dv_o3 5 none (.extract (.tmp 20) 1)) (by kernel_rfl) (by kernel_rfl) (grd_none) (src_op (f := (tup3F (intF 0) (intF 0) (eqF (.int .i64 3)))) 3 (by kernel_rfl) (by kernel_rfl) rfl) (fun ρ w hx => h_ext3_1 hx) rfl)
    refine steps_snoc (k := 4) ?_ (s_op1 (i := 4) hP (g := none) (isOp_of (by kernel_rfl) : IsOp dv_o3 4 none (.extract (.tmp 20) 0)) (by kernel_rfl) (by kernel_rfl) (grd_none) (src_op (f := (tup3F (intF 0) (intF 0) (eqF (.int .i64 3)))) 3 (by kernel_rfl) (by kernel_rfl) rfl) (fun ρ w hx => h_ext3_0 hx) rfl)
    refine steps_snoc (k := 3) ?_ (s_move (i := 3) hP (g := none) (isOp_of (by kernel_rfl) : IsOp dv_o3 3 none (.move (.tmp 23))) (by kernel_rfl) (by kernel_rfl) (grd_none) (src_op (f := (tup3F (intF 0) (intF 0) (eqF (.int .i64 3)))) 2 (by kernel_rfl) (by kernel_rfl) rfl) rfl)
    refine steps_snoc (k := 2) ?_ (s_call2 (i := 2) hP (g := none) (isOp_of (by kernel_rfl) : IsOp dv_o3 2 none (.call { callee := .value (.func 31), args := #[.tmp 21, .tmp 22], argTypes := #[27, 27] })) (by kernel_rfl) (by kernel_rfl) (grd_none) (src_op (f := (intF r0.int)) 0 (by kernel_rfl) (by kernel_rfl) rfl) (src_op (f := (intF r1.int)) 1 (by kernel_rfl) (by kernel_rfl) rfl) dvpl_quadrature_integer_DivMod (fun w v0 v1 hb h0 h1 => kDivMod0 h0 h1 k0.sm (by decide) hz) rfl)
    refine steps_snoc (k := 1) ?_ (s_load (i := 1) hP (g := none) (isOp_of (by kernel_rfl) : IsOp dv_o3 1 none (.load 27 (.tmp 7))) (by kernel_rfl) (by kernel_rfl) (grd_none) (bsrc_old 3 _ rfl rfl rfl (by kernel_rfl) (by kernel_rfl)) (fun w q h => loadI_int w q h) rfl)
    refine steps_snoc (k := 0) ?_ (s_load (i := 0) hP (g := none) (isOp_of (by kernel_rfl) : IsOp dv_o3 0 none (.load 27 (.tmp 6))) (by kernel_rfl) (by kernel_rfl) (grd_none) (bsrc_old 2 _ rfl rfl rfl (by kernel_rfl) (by kernel_rfl)) (fun w q h => loadI_int w q h) rfl)
    exact steps_nil
  · intro m a w hI hm
    exact ⟨(low_fact hst 0 rfl (by kernel_rfl) hI), (low_fact hst 1 rfl (by kernel_rfl) hI), (low_fact hst 2 rfl (by kernel_rfl) hI), (low_fact hst 3 rfl (by kernel_rfl) hI), (out_op hI hm 11 10 _ (by kernel_rfl) rfl), trivial⟩
set_option maxRecDepth 100000 in
theorem dv_r4 {Q : Exit → Act → World → Prop} {Wb W0 : World} {a0 : Act} {r0 r1 : RawArg} (_hS : Sanity) (_ht : P10 Wb) (_k0 : r0.Ok Wb) (k1 : r1.Ok Wb) (hz : r1.int = 0) (hst : St Wb 104 [(0, (eqF r0.val_)), (1, (eqF r1.val_)), (4, (eqF (.bool false))), (5, (eqF (.bool true))), (10, (eqF (.int .i64 3)))] [(2, (rawBF r0)), (3, (rawBF r1)), (6, (boxIF r0.int)), (7, (boxIF r1.int)), (8, (boxIF 0)), (9, (boxIF 0))] a0 W0)
    (fin : ∀ a w, St Wb 104 [(0, (eqF r0.val_)), (1, (eqF r1.val_)), (4, (eqF (.bool false))), (5, (eqF (.bool true))), (10, (eqF (.int .i64 3))), (29, (eqF (.bool true)))] [(2, (rawBF r0)), (3, (rawBF r1)), (6, (boxIF r0.int)), (7, (boxIF r1.int)), (8, (boxIF 0)), (9, (boxIF 0))] a w → Q .normal a w) : (Code.region 4 dv_o4 false).wp Tryd.prog Q a0 W0 := by
  have hP : Plan dv_o4 104 ([⟨2, none, none, (rawBF r0), (rawBF r0)⟩, ⟨3, none, none, (rawBF r1), (rawBF r1)⟩, ⟨6, none, none, (boxIF r0.int), (boxIF r0.int)⟩, ⟨7, none, none, (boxIF r1.int), (boxIF r1.int)⟩, ⟨8, none, none, (boxIF 0), (boxIF 0)⟩, ⟨9, none, none, (boxIF 0), (boxIF 0)⟩] : List BoxS) [] := ⟨by kernel_rfl, by kernel_rfl, by kernel_rfl, by kernel_rfl, by kernel_rfl, by kernel_rfl⟩
  refine region_st (F := [(intF r1.int), (eqF (.int .i64 (Int.sign r1.int))), (eqF (.bool true))]) hP hst rfl rfl ?_ ?_ fin
  · show Steps dv_o4 104 Wb W0 a0 _ _ _ 3
    refine steps_snoc (k := 2) ?_ (s_op2 (i := 2) hP (g := none) (isOp_of (by kernel_rfl) : IsOp dv_o4 2 none (.binOp .eql 3 (.tmp 28) (.const (.int .i64 0)) 3)) (by kernel_rfl) (by kernel_rfl) (grd_none) (src_op (f := (eqF (.int .i64 (Int.sign r1.int)))) 1 (by kernel_rfl) (by kernel_rfl) rfl) (src_const _) (fun ρ w hx hy => h_eqlI (r := true) (by rw [hz]; rfl) hx hy) rfl)
    refine steps_snoc (k := 1) ?_ (s_call1 (i := 1) hP (g := none) (isOp_of (by kernel_rfl) : IsOp dv_o4 1 none (.call { callee := .value (.func 29), args := #[.tmp 27], argTypes := #[27] })) (by kernel_rfl) (by kernel_rfl) (grd_none) (src_op (f := (intF r1.int)) 0 (by kernel_rfl) (by kernel_rfl) rfl) dvpl_quadrature_quadratureref01_Sign (fun w v0 hb h0 => kRSign h0 k1.sm (by first | decide | assumption | omega)) rfl)
    refine steps_snoc (k := 0) ?_ (s_load (i := 0) hP (g := none) (isOp_of (by kernel_rfl) : IsOp dv_o4 0 none (.load 27 (.tmp 7))) (by kernel_rfl) (by kernel_rfl) (grd_none) (bsrc_old 3 _ rfl rfl rfl (by kernel_rfl) (by kernel_rfl)) (fun w q h => loadI_int w q h) rfl)
    exact steps_nil
  · intro m a w hI hm
    exact ⟨(low_fact hst 0 rfl (by kernel_rfl) hI), (low_fact hst 1 rfl (by kernel_rfl) hI), (low_fact hst 2 rfl (by kernel_rfl) hI), (low_fact hst 3 rfl (by kernel_rfl) hI), (low_fact hst 4 rfl (by kernel_rfl) hI), (out_op hI hm 2 29 _ (by kernel_rfl) rfl), trivial⟩
set_option maxRecDepth 100000 in
theorem dv_r5 {Q : Exit → Act → World → Prop} {Wb W0 : World} {a0 : Act} {r0 r1 : RawArg} (_hS : Sanity) (_ht : P10 Wb) (_k0 : r0.Ok Wb) (_k1 : r1.Ok Wb) (_hz : r1.int = 0) (hst : St Wb 104 [(0, (eqF r0.val_)), (1, (eqF r1.val_)), (4, (eqF (.bool false))), (5, (eqF (.bool true))), (10, (eqF (.int .i64 3))), (29, (eqF (.bool true)))] [(2, (rawBF r0)), (3, (rawBF r1)), (6, (boxIF r0.int)), (7, (boxIF r1.int)), (8, (boxIF 0)), (9, (boxIF 0))] a0 W0)
    (fin : ∀ a w, St Wb 104 [(0, (eqF r0.val_)), (1, (eqF r1.val_)), (4, (eqF (.bool true))), (5, (eqF (.bool true))), (10, (eqF (.int .i64 3))), (29, (eqF (.bool true)))] [(2, (rawBF r0)), (3, (rawBF r1)), (6, (boxIF r0.int)), (7, (boxIF r1.int)), (8, (boxIF 0)), (9, (boxIF 0))] a w → Q .normal a w) : (Code.region 5 dv_o5 false).wp Tryd.prog Q a0 W0 := by
  have hP : Plan dv_o5 104 ([⟨2, none, none, (rawBF r0), (rawBF r0)⟩, ⟨3, none, none, (rawBF r1), (rawBF r1)⟩, ⟨6, none, none, (boxIF r0.int), (boxIF r0.int)⟩, ⟨7, none, none, (boxIF r1.int), (boxIF r1.int)⟩, ⟨8, none, none, (boxIF 0), (boxIF 0)⟩, ⟨9, none, none, (boxIF 0), (boxIF 0)⟩] : List BoxS) [] := ⟨by kernel_rfl, by kernel_rfl, by kernel_rfl, by kernel_rfl, by kernel_rfl, by kernel_rfl⟩
  refine region_st (F := [(eqF (.int .i64 3)), (eqF (.bool true)), (eqF (.bool true)), (intF 0), (intF 0), (eqF (.bool true)), (eqF (.bool true)), (eqF (.bool true)), (intF 0), (intF 0), (eqF (.bool true)), (eqF (.bool true)), (eqF (.bool true)), (eqF (.bool true)), (eqF (.bool true)), (eqF (.bool true))]) hP hst rfl rfl ?_ ?_ fin
  · show Steps dv_o5 104 Wb W0 a0 _ _ _ 16
    refine steps_snoc (k := 15) ?_ (s_assign (i := 15) hP (g := none) (isOp_of (by kernel_rfl) : IsOp dv_o5 15 none (.assign (.tmp 44))) (by kernel_rfl) (by kernel_rfl) (grd_none) (src_op (f := (eqF (.bool true))) 14 (by kernel_rfl) (by kernel_rfl) rfl) rfl)
    refine steps_snoc (k := 14) ?_ (s_pickT (i := 14) hP (g := none) (isOp_of (by kernel_rfl) : IsOp dv_o5 14 none (.pick (.tmp 42) (.tmp 43) (.const (.bool false)))) (by kernel_rfl) (by kernel_rfl) (grd_none) (src_op (f := (eqF (.bool true))) 12 (by kernel_rfl) (by kernel_rfl) rfl) (src_op (f := (eqF (.bool true))) 13 (by kernel_rfl) (by kernel_rfl) rfl) rfl)
    refine steps_snoc (k := 13) ?_ (s_move (i := 13) hP (g := (some (12, true))) (isOp_of (by kernel_rfl) : IsOp dv_o5 13 (some (12, true)) (.move (.tmp 5))) (by kernel_rfl) (by kernel_rfl) (grd_op (d := 42) (by kernel_rfl) (by kernel_rfl) rfl rfl) (src_low hst 3 rfl (by kernel_rfl)) rfl)
    refine steps_snoc (k := 12) ?_ (s_move (i := 12) hP (g := none) (isOp_of (by kernel_rfl) : IsOp dv_o5 12 none (.move (.tmp 41))) (by kernel_rfl) (by kernel_rfl) (grd_none) (src_op (f := (eqF (.bool true))) 11 (by kernel_rfl) (by kernel_rfl) rfl) rfl)
    refine steps_snoc (k := 11) ?_ (s_pickT (i := 11) hP (g := none) (isOp_of (by kernel_rfl) : IsOp dv_o5 11 none (.pick (.tmp 37) (.tmp 40) (.const (.bool false)))) (by kernel_rfl) (by kernel_rfl) (grd_none) (src_op (f := (eqF (.bool true))) 7 (by kernel_rfl) (by kernel_rfl) rfl) (src_op (f := (eqF (.bool true))) 10 (by kernel_rfl) (by kernel_rfl) rfl) rfl)
    refine steps_snoc (k := 10) ?_ (s_call2 (i := 10) hP (g := (some (7, true))) (isOp_of (by kernel_rfl) : IsOp dv_o5 10 (some (7, true)) (.call { callee := .value (.func 21), args := #[.tmp 38, .tmp 39], argTypes := #[27, 27] })) (by kernel_rfl) (by kernel_rfl) (grd_op (d := 37) (by kernel_rfl) (by kernel_rfl) rfl rfl) (src_op (f := (intF 0)) 8 (by kernel_rfl) (by kernel_rfl) rfl) (src_op (f := (intF 0)) 9 (by kernel_rfl) (by kernel_rfl) rfl) dvpl_quadrature_quadratureref01_Same (fun w v0 v1 hb h0 h1 => kSameT h0 h1 (Sm.of 0 (by decide)) (Sm.of 0 (by decide)) (by first | decide | assumption | omega) (by first | decide | assumption | omega) rfl) rfl)
    refine steps_snoc (k := 9) ?_ (s_op0 (i := 9) hP (g := (some (7, true))) (isOp_of (by kernel_rfl) : IsOp dv_o5 9 (some (7, true)) (.build 27 #[])) (by kernel_rfl) (by kernel_rfl) (grd_op (d := 37) (by kernel_rfl) (by kernel_rfl) rfl rfl) (fun ρ w => h_build0) rfl)
    refine steps_snoc (k := 8) ?_ (s_load (i := 8) hP (g := (some (7, true))) (isOp_of (by kernel_rfl) : IsOp dv_o5 8 (some (7, true)) (.load 27 (.tmp 9))) (by kernel_rfl) (by kernel_rfl) (grd_op (d := 37) (by kernel_rfl) (by kernel_rfl) rfl rfl) (bsrc_old 5 _ rfl rfl rfl (by kernel_rfl) (by kernel_rfl)) (fun w q h => loadI_int w q h) rfl)
    refine steps_snoc (k := 7) ?_ (s_move (i := 7) hP (g := none) (isOp_of (by kernel_rfl) : IsOp dv_o5 7 none (.move (.tmp 36))) (by kernel_rfl) (by kernel_rfl) (grd_none) (src_op (f := (eqF (.bool true))) 6 (by kernel_rfl) (by kernel_rfl) rfl) rfl)
    refine steps_snoc (k := 6) ?_ (s_pickT (i := 6) hP (g := none) (isOp_of (by kernel_rfl) : IsOp dv_o5 6 none (.pick (.tmp 32) (.tmp 35) (.const (.bool false)))) (by kernel_rfl) (by kernel_rfl) (grd_none) (src_op (f := (eqF (.bool true))) 2 (by kernel_rfl) (by kernel_rfl) rfl) (src_op (f := (eqF (.bool true))) 5 (by kernel_rfl) (by kernel_rfl) rfl) rfl)
    refine steps_snoc (k := 5) ?_ (s_call2 (i := 5) hP (g := (some (2, true))) (isOp_of (by kernel_rfl) : IsOp dv_o5 5 (some (2, true)) (.call { callee := .value (.func 21), args := #[.tmp 33, .tmp 34], argTypes := #[27, 27] })) (by kernel_rfl) (by kernel_rfl) (grd_op (d := 32) (by kernel_rfl) (by kernel_rfl) rfl rfl) (src_op (f := (intF 0)) 3 (by kernel_rfl) (by kernel_rfl) rfl) (src_op (f := (intF 0)) 4 (by kernel_rfl) (by kernel_rfl) rfl) dvpl_quadrature_quadratureref01_Same (fun w v0 v1 hb h0 h1 => kSameT h0 h1 (Sm.of 0 (by decide)) (Sm.of 0 (by decide)) (by first | decide | assumption | omega) (by first | decide | assumption | omega) rfl) rfl)
    refine steps_snoc (k := 4) ?_ (s_op0 (i := 4) hP (g := (some (2, true))) (isOp_of (by kernel_rfl) : IsOp dv_o5 4 (some (2, true)) (.build 27 #[])) (by kernel_rfl) (by kernel_rfl) (grd_op (d := 32) (by kernel_rfl) (by kernel_rfl) rfl rfl) (fun ρ w => h_build0) rfl)
    refine steps_snoc (k := 3) ?_ (s_load (i := 3) hP (g := (some (2, true))) (isOp_of (by kernel_rfl) : IsOp dv_o5 3 (some (2, true)) (.load 27 (.tmp 8))) (by kernel_rfl) (by kernel_rfl) (grd_op (d := 32) (by kernel_rfl) (by kernel_rfl) rfl rfl) (bsrc_old 4 _ rfl rfl rfl (by kernel_rfl) (by kernel_rfl)) (fun w q h => loadI_int w q h) rfl)
    refine steps_snoc (k := 2) ?_ (s_move (i := 2) hP (g := none) (isOp_of (by kernel_rfl) : IsOp dv_o5 2 none (.move (.tmp 31))) (by kernel_rfl) (by kernel_rfl) (grd_none) (src_op (f := (eqF (.bool true))) 1 (by kernel_rfl) (by kernel_rfl) rfl) rfl)
    refine steps_snoc (k := 1) ?_ (s_op2 (i := 1) hP (g := none) (isOp_of (by kernel_rfl) : IsOp dv_o5 1 none (.binOp .eql 42 (.tmp 30) (.const (.int .i64 3)) 42)) (by kernel_rfl) (by kernel_rfl) (grd_none) (src_op (f := (eqF (.int .i64 3))) 0 (by kernel_rfl) (by kernel_rfl) rfl) (src_const _) (fun ρ w hx hy => h_eqlI (r := true) (by decide) hx hy) rfl)
    refine steps_snoc (k := 0) ?_ (s_move (i := 0) hP (g := none) (isOp_of (by kernel_rfl) : IsOp dv_o5 0 none (.move (.tmp 10))) (by kernel_rfl) (by kernel_rfl) (grd_none) (src_low hst 4 rfl (by kernel_rfl)) rfl)
    exact steps_nil
  · intro m a w hI hm
    exact ⟨(low_fact hst 0 rfl (by kernel_rfl) hI), (low_fact hst 1 rfl (by kernel_rfl) hI), (out_op hI hm 15 4 _ (by kernel_rfl) rfl), (low_fact hst 3 rfl (by kernel_rfl) hI), (low_fact hst 4 rfl (by kernel_rfl) hI), (low_fact hst 5 rfl (by kernel_rfl) hI), trivial⟩
set_option maxRecDepth 100000 in
theorem dv_r0b {Q : Exit → Act → World → Prop} {Wb W0 : World} {a0 : Act} {r0 r1 : RawArg} (_hS : Sanity) (_ht : P10 Wb) (_k0 : r0.Ok Wb) (_k1 : r1.Ok Wb) (_hz : r1.int ≠ 0) (hst : St Wb 104 [(0, (eqF r0.val_)), (1, (eqF r1.val_))] [] a0 W0)
    (fin : ∀ a w, St Wb 104 [(0, (eqF r0.val_)), (1, (eqF r1.val_)), (4, (eqF (.bool false)))] [(2, (rawBF r0)), (3, (rawBF r1))] a w → Q .normal a w) : (Code.region 0 dv_o0 false).wp Tryd.prog Q a0 W0 := by
  have hP : Plan dv_o0 104 ([⟨2, some 0, none, (rawBF r0), (rawBF r0)⟩, ⟨3, some 1, none, (rawBF r1), (rawBF r1)⟩] : List BoxS) [] := ⟨by kernel_rfl, by kernel_rfl, by kernel_rfl, by kernel_rfl, by kernel_rfl, by kernel_rfl⟩
  refine region_st (F := [anyF, anyF, (eqF (.bool false))]) hP hst rfl rfl ?_ ?_ fin
  · show Steps dv_o0 104 Wb W0 a0 _ _ _ 3
    refine steps_snoc (k := 2) ?_ (s_assign (i := 2) hP (g := none) (isOp_of (by kernel_rfl) : IsOp dv_o0 2 none (.assign (.const (.bool false)))) (by kernel_rfl) (by kernel_rfl) (grd_none) (src_const _) rfl)
    refine steps_snoc (k := 1) ?_ (s_box (i := 1) (d := 3) hP 1 _ (isOp_of (by kernel_rfl) : IsOp dv_o0 1 none (.box 24 (.tmp 1))) (by kernel_rfl) rfl rfl rfl (by kernel_rfl) (by kernel_rfl) (by kernel_rfl) (by kernel_rfl) rfl (src_low hst 1 rfl (by kernel_rfl)) (fun w v h => boxR_run w v h))
    refine steps_snoc (k := 0) ?_ (s_box (i := 0) (d := 2) hP 0 _ (isOp_of (by kernel_rfl) : IsOp dv_o0 0 none (.box 24 (.tmp 0))) (by kernel_rfl) rfl rfl rfl (by kernel_rfl) (by kernel_rfl) (by kernel_rfl) (by kernel_rfl) rfl (src_low hst 0 rfl (by kernel_rfl)) (fun w v h => boxR_run w v h))
    exact steps_nil
  · intro m a w hI hm
    exact ⟨(low_fact hst 0 rfl (by kernel_rfl) hI), (low_fact hst 1 rfl (by kernel_rfl) hI), (out_op hI hm 2 4 _ (by kernel_rfl) rfl), trivial⟩
set_option maxRecDepth 100000 in
theorem dv_r1b {Q : Exit → Act → World → Prop} {Wb W0 : World} {a0 : Act} {r0 r1 : RawArg} (hS : Sanity) (ht : P10 Wb) (_k0 : r0.Ok Wb) (_k1 : r1.Ok Wb) (_hz : r1.int ≠ 0) (hst : St Wb 104 [(0, (eqF r0.val_)), (1, (eqF r1.val_)), (4, (eqF (.bool false)))] [(2, (rawBF r0)), (3, (rawBF r1))] a0 W0)
    (fin : ∀ a w, St Wb 104 [(0, (eqF r0.val_)), (1, (eqF r1.val_)), (4, (eqF (.bool false))), (5, (eqF (.bool true)))] [(2, (rawBF r0)), (3, (rawBF r1))] a w → Q .normal a w) : (Code.region 1 dv_o1 false).wp Tryd.prog Q a0 W0 := by
  have hP : Plan dv_o1 104 ([⟨2, none, none, (rawBF r0), (rawBF r0)⟩, ⟨3, none, none, (rawBF r1), (rawBF r1)⟩] : List BoxS) [] := ⟨by kernel_rfl, by kernel_rfl, by kernel_rfl, by kernel_rfl, by kernel_rfl, by kernel_rfl⟩
  refine region_st (F := [(eqF (.bool true)), (eqF (.bool true))]) hP hst rfl rfl ?_ ?_ fin
  · show Steps dv_o1 104 Wb W0 a0 _ _ _ 2
    refine steps_snoc (k := 1) ?_ (s_assign (i := 1) hP (g := none) (isOp_of (by kernel_rfl) : IsOp dv_o1 1 none (.assign (.tmp 15))) (by kernel_rfl) (by kernel_rfl) (grd_none) (src_op (f := (eqF (.bool true))) 0 (by kernel_rfl) (by kernel_rfl) rfl) rfl)
    refine steps_snoc (k := 0) ?_ (s_call0 (i := 0) hP (g := none) (isOp_of (by kernel_rfl) : IsOp dv_o1 0 none (.call { callee := .value (.func 11), args := #[], argTypes := #[] })) (by kernel_rfl) (by kernel_rfl) (grd_none)  dvpl_quadrature_quadraturelaw01_sanity (fun w  hb  => kSanity hS ht hb) rfl)
    exact steps_nil
  · intro m a w hI hm
    exact ⟨(low_fact hst 0 rfl (by kernel_rfl) hI), (low_fact hst 1 rfl (by kernel_rfl) hI), (low_fact hst 2 rfl (by kernel_rfl) hI), (out_op hI hm 1 5 _ (by kernel_rfl) rfl), trivial⟩
set_option maxRecDepth 100000 in
theorem dv_r2b {Q : Exit → Act → World → Prop} {Wb W0 : World} {a0 : Act} {r0 r1 : RawArg} (_hS : Sanity) (_ht : P10 Wb) (k0 : r0.Ok Wb) (k1 : r1.Ok Wb) (_hz : r1.int ≠ 0) (hst : St Wb 104 [(0, (eqF r0.val_)), (1, (eqF r1.val_)), (4, (eqF (.bool false))), (5, (eqF (.bool true)))] [(2, (rawBF r0)), (3, (rawBF r1))] a0 W0)
    (fin : ∀ a w, St Wb 104 [(0, (eqF r0.val_)), (1, (eqF r1.val_)), (4, (eqF (.bool false))), (5, (eqF (.bool true)))] [(2, (rawBF r0)), (3, (rawBF r1)), (6, (boxIF r0.int)), (7, (boxIF r1.int))] a w → Q .normal a w) : (Code.region 2 dv_o2 true).wp Tryd.prog Q a0 W0 := by
  have hP : Plan dv_o2 104 ([⟨2, none, none, (rawBF r0), (rawBF r0)⟩, ⟨3, none, none, (rawBF r1), (rawBF r1)⟩, ⟨6, some 4, some 6, zeroIF, (boxIF r0.int)⟩, ⟨7, some 5, some 7, zeroIF, (boxIF r1.int)⟩] : List BoxS) [] := ⟨by kernel_rfl, by kernel_rfl, by kernel_rfl, by kernel_rfl, by kernel_rfl, by kernel_rfl⟩
  refine region_st (F := [(eqF r0.val_), (intF r0.int), (eqF r1.val_), (intF r1.int), anyF, anyF, anyF, anyF]) hP hst rfl rfl ?_ ?_ fin
  · show Steps dv_o2 104 Wb W0 a0 _ _ _ 8
    refine steps_snoc (k := 7) ?_ (s_store (i := 7) 3 _ (isOp_of (by kernel_rfl) : IsOp dv_o2 7 none (.store 27 (.tmp 7) (.tmp 19))) (by kernel_rfl) rfl rfl rfl (by kernel_rfl) (by kernel_rfl) (by kernel_rfl) (src_op (f := (intF r1.int)) 3 (by kernel_rfl) (by kernel_rfl) rfl) (storeI_zero _))
    refine steps_snoc (k := 6) ?_ (s_store (i := 6) 2 _ (isOp_of (by kernel_rfl) : IsOp dv_o2 6 none (.store 27 (.tmp 6) (.tmp 17))) (by kernel_rfl) rfl rfl rfl (by kernel_rfl) (by kernel_rfl) (by kernel_rfl) (src_op (f := (intF r0.int)) 1 (by kernel_rfl) (by kernel_rfl) rfl) (storeI_zero _))
    refine steps_snoc (k := 5) ?_ (s_alloc (i := 5) (d := 7) hP 3 _ (isOp_of (by kernel_rfl) : IsOp dv_o2 5 none (.alloc 27)) (by kernel_rfl) rfl rfl rfl (by kernel_rfl) (by kernel_rfl) (by kernel_rfl) (by kernel_rfl) rfl allocI_run allocI_old)
    refine steps_snoc (k := 4) ?_ (s_alloc (i := 4) (d := 6) hP 2 _ (isOp_of (by kernel_rfl) : IsOp dv_o2 4 none (.alloc 27)) (by kernel_rfl) rfl rfl rfl (by kernel_rfl) (by kernel_rfl) (by kernel_rfl) (by kernel_rfl) rfl allocI_run allocI_old)
    refine steps_snoc (k := 3) ?_ (s_call1 (i := 3) hP (g := none) (isOp_of (by kernel_rfl) : IsOp dv_o2 3 none (.call { callee := .value (.func 12), args := #[.tmp 18], argTypes := #[24] })) (by kernel_rfl) (by kernel_rfl) (grd_none) (src_op (f := (eqF r1.val_)) 2 (by kernel_rfl) (by kernel_rfl) rfl) dvpl_quadrature_quadraturelaw01_made (fun w v0 hb h0 => kMade k1 hb h0) rfl)
    refine steps_snoc (k := 2) ?_ (s_load (i := 2) hP (g := none) (isOp_of (by kernel_rfl) : IsOp dv_o2 2 none (.load 24 (.tmp 3))) (by kernel_rfl) (by kernel_rfl) (grd_none) (bsrc_old 1 _ rfl rfl rfl (by kernel_rfl) (by kernel_rfl)) (fun w q h => loadR_raw w q h) rfl)
    refine steps_snoc (k := 1) ?_ (s_call1 (i := 1) hP (g := none) (isOp_of (by kernel_rfl) : IsOp dv_o2 1 none (.call { callee := .value (.func 12), args := #[.tmp 16], argTypes := #[24] })) (by kernel_rfl) (by kernel_rfl) (grd_none) (src_op (f := (eqF r0.val_)) 0 (by kernel_rfl) (by kernel_rfl) rfl) dvpl_quadrature_quadraturelaw01_made (fun w v0 hb h0 => kMade k0 hb h0) rfl)
    refine steps_snoc (k := 0) ?_ (s_load (i := 0) hP (g := none) (isOp_of (by kernel_rfl) : IsOp dv_o2 0 none (.load 24 (.tmp 2))) (by kernel_rfl) (by kernel_rfl) (grd_none) (bsrc_old 0 _ rfl rfl rfl (by kernel_rfl) (by kernel_rfl)) (fun w q h => loadR_raw w q h) rfl)
    exact steps_nil
  · intro m a w hI hm
    exact ⟨(low_fact hst 0 rfl (by kernel_rfl) hI), (low_fact hst 1 rfl (by kernel_rfl) hI), (low_fact hst 2 rfl (by kernel_rfl) hI), (low_fact hst 3 rfl (by kernel_rfl) hI), trivial⟩
set_option maxRecDepth 100000 in
theorem dv_r3b {Q : Exit → Act → World → Prop} {Wb W0 : World} {a0 : Act} {r0 r1 : RawArg} (_hS : Sanity) (_ht : P10 Wb) (k0 : r0.Ok Wb) (k1 : r1.Ok Wb) (hz : r1.int ≠ 0) (hst : St Wb 104 [(0, (eqF r0.val_)), (1, (eqF r1.val_)), (4, (eqF (.bool false))), (5, (eqF (.bool true)))] [(2, (rawBF r0)), (3, (rawBF r1)), (6, (boxIF r0.int)), (7, (boxIF r1.int))] a0 W0)
    (fin : ∀ a w, St Wb 104 [(0, (eqF r0.val_)), (1, (eqF r1.val_)), (4, (eqF (.bool false))), (5, (eqF (.bool true))), (10, (eqF (.int .i64 0)))] [(2, (rawBF r0)), (3, (rawBF r1)), (6, (boxIF r0.int)), (7, (boxIF r1.int)), (8, (boxIF (r0.int / r1.int))), (9, (boxIF (r0.int % r1.int)))] a w → Q .normal a w) : (Code.region 3 dv_o3 false).wp Tryd.prog Q a0 W0 := by
  have hP : Plan dv_o3 104 ([⟨2, none, none, (rawBF r0), (rawBF r0)⟩, ⟨3, none, none, (rawBF r1), (rawBF r1)⟩, ⟨6, none, none, (boxIF r0.int), (boxIF r0.int)⟩, ⟨7, none, none, (boxIF r1.int), (boxIF r1.int)⟩, ⟨8, some 7, some 9, zeroIF, (boxIF (r0.int / r1.int))⟩, ⟨9, some 8, some 10, zeroIF, (boxIF (r0.int % r1.int))⟩] : List BoxS) [] := ⟨by kernel_rfl, by kernel_rfl, by kernel_rfl, by kernel_rfl, by kernel_rfl, by kernel_rfl⟩
  refine region_st (F := [(intF r0.int), (intF r1.int), (tup3F (intF (r0.int / r1.int)) (intF (r0.int % r1.int)) (eqF (.int .i64 0))), (tup3F (intF (r0.int / r1.int)) (intF (r0.int % r1.int)) (eqF (.int .i64 0))), (intF (r0.int / r1.int)), (intF (r0.int % r1.int)), (eqF (.int .i64 0)), anyF, anyF, anyF, anyF, (eqF (.int .i64 0))]) hP hst rfl rfl ?_ ?_ fin
  · show Steps dv_o3 104 Wb W0 a0 _ _ _ 12
    refine steps_snoc (k := 11) ?_ (s_assign (i := 11) hP (g := none) (isOp_of (by kernel_rfl) : IsOp dv_o3 11 none (.assign (.tmp 26))) (by kernel_rfl) (by kernel_rfl) (grd_none) (src_op (f := (eqF (.int .i64 0))) 6 (by kernel_rfl) (by kernel_rfl) rfl) rfl)
    refine steps_snoc (k := 10) ?_ (s_store (i := 10) 5 _ (isOp_of (by kernel_rfl) : IsOp dv_o3 10 none (.store 27 (.tmp 9) (.tmp 25))) (by kernel_rfl) rfl rfl rfl (by kernel_rfl) (by kernel_rfl) (by kernel_rfl) (src_op (f := (intF (r0.int % r1.int))) 5 (by kernel_rfl) (by kernel_rfl) rfl) (storeI_zero _))
    refine steps_snoc (k := 9) ?_ (s_store (i := 9) 4 _ (isOp_of (by kernel_rfl) : IsOp dv_o3 9 none (.store 27 (.tmp 8) (.tmp 24))) (by kernel_rfl) rfl rfl rfl (by kernel_rfl) (by kernel_rfl) (by kernel_rfl) (src_op (f := (intF (r0.int / r1.int))) 4 (by kernel_rfl) (by kernel_rfl) rfl) (storeI_zero _))
    refine steps_snoc (k := 8) ?_ (s_alloc (i := 8) (d := 9) hP 5 _ (isOp_of (by kernel_rfl) : IsOp dv_o3 8 none (.alloc 27)) (by kernel_rfl) rfl rfl rfl (by kernel_rfl) (by kernel_rfl) (by kernel_rfl) (by kernel_rfl) rfl allocI_run allocI_old)
    refine steps_snoc (k := 7) ?_ (s_alloc (i := 7) (d := 8) hP 4 _ (isOp_of (by kernel_rfl) : IsOp dv_o3 7 none (.alloc 27)) (by kernel_rfl) rfl rfl rfl (by kernel_rfl) (by kernel_rfl) (by kernel_rfl) (by kernel_rfl) rfl allocI_run allocI_old)
    refine steps_snoc (k := 6) ?_ (s_op1 (i := 6) hP (g := none) (isOp_of (by kernel_rfl) : IsOp dv_o3 6 none (.extract (.tmp 20) 2)) (by kernel_rfl) (by kernel_rfl) (grd_none) (src_op (f := (tup3F (intF (r0.int / r1.int)) (intF (r0.int % r1.int)) (eqF (.int .i64 0)))) 3 (by kernel_rfl) (by kernel_rfl) rfl) (fun ρ w hx => h_ext3_2 hx) rfl)
    refine steps_snoc (k := 5) ?_ (s_op1 (i := 5) hP (g := none) (isOp_of (by kernel_rfl) : IsOp dv_o3 5 none (.extract (.tmp 20) 1)) (by kernel_rfl) (by kernel_rfl) (grd_none) (src_op (f := (tup3F (intF (r0.int / r1.int)) (intF (r0.int % r1.int)) (eqF (.int .i64 0)))) 3 (by kernel_rfl) (by kernel_rfl) rfl) (fun ρ w hx => h_ext3_1 hx) rfl)
    refine steps_snoc (k := 4) ?_ (s_op1 (i := 4) hP (g := none) (isOp_of (by kernel_rfl) : IsOp dv_o3 4 none (.extract (.tmp 20) 0)) (by kernel_rfl) (by kernel_rfl) (grd_none) (src_op (f := (tup3F (intF (r0.int / r1.int)) (intF (r0.int % r1.int)) (eqF (.int .i64 0)))) 3 (by kernel_rfl) (by kernel_rfl) rfl) (fun ρ w hx => h_ext3_0 hx) rfl)
    refine steps_snoc (k := 3) ?_ (s_move (i := 3) hP (g := none) (isOp_of (by kernel_rfl) : IsOp dv_o3 3 none (.move (.tmp 23))) (by kernel_rfl) (by kernel_rfl) (grd_none) (src_op (f := (tup3F (intF (r0.int / r1.int)) (intF (r0.int % r1.int)) (eqF (.int .i64 0)))) 2 (by kernel_rfl) (by kernel_rfl) rfl) rfl)
    refine steps_snoc (k := 2) ?_ (s_call2 (i := 2) hP (g := none) (isOp_of (by kernel_rfl) : IsOp dv_o3 2 none (.call { callee := .value (.func 31), args := #[.tmp 21, .tmp 22], argTypes := #[27, 27] })) (by kernel_rfl) (by kernel_rfl) (grd_none) (src_op (f := (intF r0.int)) 0 (by kernel_rfl) (by kernel_rfl) rfl) (src_op (f := (intF r1.int)) 1 (by kernel_rfl) (by kernel_rfl) rfl) dvpl_quadrature_integer_DivMod (fun w v0 v1 hb h0 h1 => kDivMod h0 h1 k0.sm k1.sm (by first | decide | assumption | omega) (by first | decide | assumption | omega) hz) rfl)
    refine steps_snoc (k := 1) ?_ (s_load (i := 1) hP (g := none) (isOp_of (by kernel_rfl) : IsOp dv_o3 1 none (.load 27 (.tmp 7))) (by kernel_rfl) (by kernel_rfl) (grd_none) (bsrc_old 3 _ rfl rfl rfl (by kernel_rfl) (by kernel_rfl)) (fun w q h => loadI_int w q h) rfl)
    refine steps_snoc (k := 0) ?_ (s_load (i := 0) hP (g := none) (isOp_of (by kernel_rfl) : IsOp dv_o3 0 none (.load 27 (.tmp 6))) (by kernel_rfl) (by kernel_rfl) (grd_none) (bsrc_old 2 _ rfl rfl rfl (by kernel_rfl) (by kernel_rfl)) (fun w q h => loadI_int w q h) rfl)
    exact steps_nil
  · intro m a w hI hm
    exact ⟨(low_fact hst 0 rfl (by kernel_rfl) hI), (low_fact hst 1 rfl (by kernel_rfl) hI), (low_fact hst 2 rfl (by kernel_rfl) hI), (low_fact hst 3 rfl (by kernel_rfl) hI), (out_op hI hm 11 10 _ (by kernel_rfl) rfl), trivial⟩
set_option maxRecDepth 100000 in
theorem dv_r4b {Q : Exit → Act → World → Prop} {Wb W0 : World} {a0 : Act} {r0 r1 : RawArg} (_hS : Sanity) (_ht : P10 Wb) (_k0 : r0.Ok Wb) (k1 : r1.Ok Wb) (hz : r1.int ≠ 0) (hst : St Wb 104 [(0, (eqF r0.val_)), (1, (eqF r1.val_)), (4, (eqF (.bool false))), (5, (eqF (.bool true))), (10, (eqF (.int .i64 0)))] [(2, (rawBF r0)), (3, (rawBF r1)), (6, (boxIF r0.int)), (7, (boxIF r1.int)), (8, (boxIF (r0.int / r1.int))), (9, (boxIF (r0.int % r1.int)))] a0 W0)
    (fin : ∀ a w, St Wb 104 [(0, (eqF r0.val_)), (1, (eqF r1.val_)), (4, (eqF (.bool false))), (5, (eqF (.bool true))), (10, (eqF (.int .i64 0))), (29, (eqF (.bool false)))] [(2, (rawBF r0)), (3, (rawBF r1)), (6, (boxIF r0.int)), (7, (boxIF r1.int)), (8, (boxIF (r0.int / r1.int))), (9, (boxIF (r0.int % r1.int)))] a w → Q .normal a w) : (Code.region 4 dv_o4 false).wp Tryd.prog Q a0 W0 := by
  have hP : Plan dv_o4 104 ([⟨2, none, none, (rawBF r0), (rawBF r0)⟩, ⟨3, none, none, (rawBF r1), (rawBF r1)⟩, ⟨6, none, none, (boxIF r0.int), (boxIF r0.int)⟩, ⟨7, none, none, (boxIF r1.int), (boxIF r1.int)⟩, ⟨8, none, none, (boxIF (r0.int / r1.int)), (boxIF (r0.int / r1.int))⟩, ⟨9, none, none, (boxIF (r0.int % r1.int)), (boxIF (r0.int % r1.int))⟩] : List BoxS) [] := ⟨by kernel_rfl, by kernel_rfl, by kernel_rfl, by kernel_rfl, by kernel_rfl, by kernel_rfl⟩
  refine region_st (F := [(intF r1.int), (eqF (.int .i64 (Int.sign r1.int))), (eqF (.bool false))]) hP hst rfl rfl ?_ ?_ fin
  · show Steps dv_o4 104 Wb W0 a0 _ _ _ 3
    refine steps_snoc (k := 2) ?_ (s_op2 (i := 2) hP (g := none) (isOp_of (by kernel_rfl) : IsOp dv_o4 2 none (.binOp .eql 3 (.tmp 28) (.const (.int .i64 0)) 3)) (by kernel_rfl) (by kernel_rfl) (grd_none) (src_op (f := (eqF (.int .i64 (Int.sign r1.int)))) 1 (by kernel_rfl) (by kernel_rfl) rfl) (src_const _) (fun ρ w hx hy => h_eqlI (r := false) (by simpa [Int.sign_eq_zero_iff_zero] using hz) hx hy) rfl)
    refine steps_snoc (k := 1) ?_ (s_call1 (i := 1) hP (g := none) (isOp_of (by kernel_rfl) : IsOp dv_o4 1 none (.call { callee := .value (.func 29), args := #[.tmp 27], argTypes := #[27] })) (by kernel_rfl) (by kernel_rfl) (grd_none) (src_op (f := (intF r1.int)) 0 (by kernel_rfl) (by kernel_rfl) rfl) dvpl_quadrature_quadratureref01_Sign (fun w v0 hb h0 => kRSign h0 k1.sm (by first | decide | assumption | omega)) rfl)
    refine steps_snoc (k := 0) ?_ (s_load (i := 0) hP (g := none) (isOp_of (by kernel_rfl) : IsOp dv_o4 0 none (.load 27 (.tmp 7))) (by kernel_rfl) (by kernel_rfl) (grd_none) (bsrc_old 3 _ rfl rfl rfl (by kernel_rfl) (by kernel_rfl)) (fun w q h => loadI_int w q h) rfl)
    exact steps_nil
  · intro m a w hI hm
    exact ⟨(low_fact hst 0 rfl (by kernel_rfl) hI), (low_fact hst 1 rfl (by kernel_rfl) hI), (low_fact hst 2 rfl (by kernel_rfl) hI), (low_fact hst 3 rfl (by kernel_rfl) hI), (low_fact hst 4 rfl (by kernel_rfl) hI), (out_op hI hm 2 29 _ (by kernel_rfl) rfl), trivial⟩
set_option maxRecDepth 100000 in
theorem dv_r6 {Q : Exit → Act → World → Prop} {Wb W0 : World} {a0 : Act} {r0 r1 : RawArg} (_hS : Sanity) (_ht : P10 Wb) (k0 : r0.Ok Wb) (k1 : r1.Ok Wb) (hz : r1.int ≠ 0) (hst : St Wb 104 [(0, (eqF r0.val_)), (1, (eqF r1.val_)), (4, (eqF (.bool false))), (5, (eqF (.bool true))), (10, (eqF (.int .i64 0))), (29, (eqF (.bool false)))] [(2, (rawBF r0)), (3, (rawBF r1)), (6, (boxIF r0.int)), (7, (boxIF r1.int)), (8, (boxIF (r0.int / r1.int))), (9, (boxIF (r0.int % r1.int)))] a0 W0)
    (fin : ∀ a w, St Wb 104 [(0, (eqF r0.val_)), (1, (eqF r1.val_)), (4, (eqF (.bool false))), (5, (eqF (.bool true))), (10, (eqF (.int .i64 0))), (13, (eqF (.int .i64 0))), (29, (eqF (.bool false)))] [(2, (rawBF r0)), (3, (rawBF r1)), (6, (boxIF r0.int)), (7, (boxIF r1.int)), (8, (boxIF (r0.int / r1.int))), (9, (boxIF (r0.int % r1.int))), (11, (boxIF ((r0.int * r1.int) / r1.int))), (12, (boxIF ((r0.int * r1.int) % r1.int)))] a w → Q .normal a w) : (Code.region 6 dv_o6 true).wp Tryd.prog Q a0 W0 := by
  have hP : Plan dv_o6 104 ([⟨2, none, none, (rawBF r0), (rawBF r0)⟩, ⟨3, none, none, (rawBF r1), (rawBF r1)⟩, ⟨6, none, none, (boxIF r0.int), (boxIF r0.int)⟩, ⟨7, none, none, (boxIF r1.int), (boxIF r1.int)⟩, ⟨8, none, none, (boxIF (r0.int / r1.int)), (boxIF (r0.int / r1.int))⟩, ⟨9, none, none, (boxIF (r0.int % r1.int)), (boxIF (r0.int % r1.int))⟩, ⟨11, some 9, some 11, zeroIF, (boxIF ((r0.int * r1.int) / r1.int))⟩, ⟨12, some 10, some 12, zeroIF, (boxIF ((r0.int * r1.int) % r1.int))⟩] : List BoxS) [] := ⟨by kernel_rfl, by kernel_rfl, by kernel_rfl, by kernel_rfl, by kernel_rfl, by kernel_rfl⟩
  refine region_st (F := [(intF r0.int), (intF r1.int), (intF (r0.int * r1.int)), (intF r1.int), (tup3F (intF ((r0.int * r1.int) / r1.int)) (intF ((r0.int * r1.int) % r1.int)) (eqF (.int .i64 0))), (tup3F (intF ((r0.int * r1.int) / r1.int)) (intF ((r0.int * r1.int) % r1.int)) (eqF (.int .i64 0))), (intF ((r0.int * r1.int) / r1.int)), (intF ((r0.int * r1.int) % r1.int)), (eqF (.int .i64 0)), anyF, anyF, anyF, anyF, (eqF (.int .i64 0))]) hP hst rfl rfl ?_ ?_ fin
  · show Steps dv_o6 104 Wb W0 a0 _ _ _ 14
    refine steps_snoc (k := 13) ?_ (s_assign (i := 13) hP (g := none) (isOp_of (by kernel_rfl) : IsOp dv_o6 13 none (.assign (.tmp 53))) (by kernel_rfl) (by kernel_rfl) (grd_none) (src_op (f := (eqF (.int .i64 0))) 8 (by kernel_rfl) (by kernel_rfl) rfl) rfl)
    refine steps_snoc (k := 12) ?_ (s_store (i := 12) 7 _ (isOp_of (by kernel_rfl) : IsOp dv_o6 12 none (.store 27 (.tmp 12) (.tmp 52))) (by kernel_rfl) rfl rfl rfl (by kernel_rfl) (by kernel_rfl) (by kernel_rfl) (src_op (f := (intF ((r0.int * r1.int) % r1.int))) 7 (by kernel_rfl) (by kernel_rfl) rfl) (storeI_zero _))
    refine steps_snoc (k := 11) ?_ (s_store (i := 11) 6 _ (isOp_of (by kernel_rfl) : IsOp dv_o6 11 none (.store 27 (.tmp 11) (.tmp 51))) (by kernel_rfl) rfl rfl rfl (by kernel_rfl) (by kernel_rfl) (by kernel_rfl) (src_op (f := (intF ((r0.int * r1.int) / r1.int))) 6 (by kernel_rfl) (by kernel_rfl) rfl) (storeI_zero _))
    refine steps_snoc (k := 10) ?_ (s_alloc (i := 10) (d := 12) hP 7 _ (isOp_of (by kernel_rfl) : IsOp dv_o6 10 none (.alloc 27)) (by kernel_rfl) rfl rfl rfl (by kernel_rfl) (by kernel_rfl) (by kernel_rfl) (by kernel_rfl) rfl allocI_run allocI_old)
    refine steps_snoc (k := 9) ?_ (s_alloc (i := 9) (d := 11) hP 6 _ (isOp_of (by kernel_rfl) : IsOp dv_o6 9 none (.alloc 27)) (by kernel_rfl) rfl rfl rfl (by kernel_rfl) (by kernel_rfl) (by kernel_rfl) (by kernel_rfl) rfl allocI_run allocI_old)
    refine steps_snoc (k := 8) ?_ (s_op1 (i := 8) hP (g := none) (isOp_of (by kernel_rfl) : IsOp dv_o6 8 none (.extract (.tmp 45) 2)) (by kernel_rfl) (by kernel_rfl) (grd_none) (src_op (f := (tup3F (intF ((r0.int * r1.int) / r1.int)) (intF ((r0.int * r1.int) % r1.int)) (eqF (.int .i64 0)))) 5 (by kernel_rfl) (by kernel_rfl) rfl) (fun ρ w hx => h_ext3_2 hx) rfl)
    refine steps_snoc (k := 7) ?_ (s_op1 (i := 7) hP (g := none) (isOp_of (by kernel_rfl) : IsOp dv_o6 7 none (.extract (.tmp 45) 1)) (by kernel_rfl) (by kernel_rfl) (grd_none) (src_op (f := (tup3F (intF ((r0.int * r1.int) / r1.int)) (intF ((r0.int * r1.int) % r1.int)) (eqF (.int .i64 0)))) 5 (by kernel_rfl) (by kernel_rfl) rfl) (fun ρ w hx => h_ext3_1 hx) rfl)
    refine steps_snoc (k := 6) ?_ (s_op1 (i := 6) hP (g := none) (isOp_of (by kernel_rfl) : IsOp dv_o6 6 none (.extract (.tmp 45) 0)) (by kernel_rfl) (by kernel_rfl) (grd_none) (src_op (f := (tup3F (intF ((r0.int * r1.int) / r1.int)) (intF ((r0.int * r1.int) % r1.int)) (eqF (.int .i64 0)))) 5 (by kernel_rfl) (by kernel_rfl) rfl) (fun ρ w hx => h_ext3_0 hx) rfl)
    refine steps_snoc (k := 5) ?_ (s_move (i := 5) hP (g := none) (isOp_of (by kernel_rfl) : IsOp dv_o6 5 none (.move (.tmp 50))) (by kernel_rfl) (by kernel_rfl) (grd_none) (src_op (f := (tup3F (intF ((r0.int * r1.int) / r1.int)) (intF ((r0.int * r1.int) % r1.int)) (eqF (.int .i64 0)))) 4 (by kernel_rfl) (by kernel_rfl) rfl) rfl)
    refine steps_snoc (k := 4) ?_ (s_call2 (i := 4) hP (g := none) (isOp_of (by kernel_rfl) : IsOp dv_o6 4 none (.call { callee := .value (.func 31), args := #[.tmp 48, .tmp 49], argTypes := #[27, 27] })) (by kernel_rfl) (by kernel_rfl) (grd_none) (src_op (f := (intF (r0.int * r1.int))) 2 (by kernel_rfl) (by kernel_rfl) rfl) (src_op (f := (intF r1.int)) 3 (by kernel_rfl) (by kernel_rfl) rfl) dvpl_quadrature_integer_DivMod (fun w v0 v1 hb h0 h1 => kDivMod h0 h1 (k0.sm.mul k1.sm) k1.sm (by first | decide | assumption | omega) (by first | decide | assumption | omega) hz) rfl)
    refine steps_snoc (k := 3) ?_ (s_load (i := 3) hP (g := none) (isOp_of (by kernel_rfl) : IsOp dv_o6 3 none (.load 27 (.tmp 7))) (by kernel_rfl) (by kernel_rfl) (grd_none) (bsrc_old 3 _ rfl rfl rfl (by kernel_rfl) (by kernel_rfl)) (fun w q h => loadI_int w q h) rfl)
    refine steps_snoc (k := 2) ?_ (s_call2 (i := 2) hP (g := none) (isOp_of (by kernel_rfl) : IsOp dv_o6 2 none (.call { callee := .value (.func 24), args := #[.tmp 46, .tmp 47], argTypes := #[27, 27] })) (by kernel_rfl) (by kernel_rfl) (grd_none) (src_op (f := (intF r0.int)) 0 (by kernel_rfl) (by kernel_rfl) rfl) (src_op (f := (intF r1.int)) 1 (by kernel_rfl) (by kernel_rfl) rfl) dvpl_quadrature_quadratureref01_Mul (fun w v0 v1 hb h0 h1 => kRMul h0 h1 k0.sm k1.sm (by first | decide | assumption | omega) (by first | decide | assumption | omega)) rfl)
    refine steps_snoc (k := 1) ?_ (s_load (i := 1) hP (g := none) (isOp_of (by kernel_rfl) : IsOp dv_o6 1 none (.load 27 (.tmp 7))) (by kernel_rfl) (by kernel_rfl) (grd_none) (bsrc_old 3 _ rfl rfl rfl (by kernel_rfl) (by kernel_rfl)) (fun w q h => loadI_int w q h) rfl)
    refine steps_snoc (k := 0) ?_ (s_load (i := 0) hP (g := none) (isOp_of (by kernel_rfl) : IsOp dv_o6 0 none (.load 27 (.tmp 6))) (by kernel_rfl) (by kernel_rfl) (grd_none) (bsrc_old 2 _ rfl rfl rfl (by kernel_rfl) (by kernel_rfl)) (fun w q h => loadI_int w q h) rfl)
    exact steps_nil
  · intro m a w hI hm
    exact ⟨(low_fact hst 0 rfl (by kernel_rfl) hI), (low_fact hst 1 rfl (by kernel_rfl) hI), (low_fact hst 2 rfl (by kernel_rfl) hI), (low_fact hst 3 rfl (by kernel_rfl) hI), (low_fact hst 4 rfl (by kernel_rfl) hI), (out_op hI hm 13 13 _ (by kernel_rfl) rfl), (low_fact hst 5 rfl (by kernel_rfl) hI), trivial⟩
set_option maxRecDepth 100000 in
theorem dv_r7 {Q : Exit → Act → World → Prop} {Wb W0 : World} {a0 : Act} {r0 r1 : RawArg} (_hS : Sanity) (_ht : P10 Wb) (k0 : r0.Ok Wb) (k1 : r1.Ok Wb) (hz : r1.int ≠ 0) (hst : St Wb 104 [(0, (eqF r0.val_)), (1, (eqF r1.val_)), (4, (eqF (.bool false))), (5, (eqF (.bool true))), (10, (eqF (.int .i64 0))), (13, (eqF (.int .i64 0))), (29, (eqF (.bool false)))] [(2, (rawBF r0)), (3, (rawBF r1)), (6, (boxIF r0.int)), (7, (boxIF r1.int)), (8, (boxIF (r0.int / r1.int))), (9, (boxIF (r0.int % r1.int))), (11, (boxIF ((r0.int * r1.int) / r1.int))), (12, (boxIF ((r0.int * r1.int) % r1.int)))] a0 W0)
    (fin : ∀ a w, St Wb 104 [(0, (eqF r0.val_)), (1, (eqF r1.val_)), (4, (eqF (.bool false))), (5, (eqF (.bool true))), (10, (eqF (.int .i64 0))), (13, (eqF (.int .i64 0))), (14, (eqF (.bool true))), (29, (eqF (.bool false)))] [(2, (rawBF r0)), (3, (rawBF r1)), (6, (boxIF r0.int)), (7, (boxIF r1.int)), (8, (boxIF (r0.int / r1.int))), (9, (boxIF (r0.int % r1.int))), (11, (boxIF ((r0.int * r1.int) / r1.int))), (12, (boxIF ((r0.int * r1.int) % r1.int)))] a w → Q .normal a w) : (Code.region 7 dv_o7 true).wp Tryd.prog Q a0 W0 := by
  have hP : Plan dv_o7 104 ([⟨2, none, none, (rawBF r0), (rawBF r0)⟩, ⟨3, none, none, (rawBF r1), (rawBF r1)⟩, ⟨6, none, none, (boxIF r0.int), (boxIF r0.int)⟩, ⟨7, none, none, (boxIF r1.int), (boxIF r1.int)⟩, ⟨8, none, none, (boxIF (r0.int / r1.int)), (boxIF (r0.int / r1.int))⟩, ⟨9, none, none, (boxIF (r0.int % r1.int)), (boxIF (r0.int % r1.int))⟩, ⟨11, none, none, (boxIF ((r0.int * r1.int) / r1.int)), (boxIF ((r0.int * r1.int) / r1.int))⟩, ⟨12, none, none, (boxIF ((r0.int * r1.int) % r1.int)), (boxIF ((r0.int * r1.int) % r1.int))⟩] : List BoxS) [(5, 7, 1)] := ⟨by kernel_rfl, by kernel_rfl, by kernel_rfl, by kernel_rfl, by kernel_rfl, by kernel_rfl⟩
  refine region_st (F := [(intF (r0.int % r1.int)), (eqF (.int .i64 (Int.sign (r0.int % r1.int)))), (eqF (.bool true)), (eqF (.bool true)), (intF (r0.int % r1.int)), anyF, (natF r1.int.natAbs), (intF ((r1.int.natAbs : Nat) : Int)), (eqF (.int .i64 (Int.sign ((r0.int % r1.int) - ((r1.int.natAbs : Nat) : Int))))), (eqF (.bool true)), (eqF (.bool true)), (eqF (.bool true)), (intF (r0.int / r1.int)), (eqF (.bool true)), (eqF (.bool true)), (eqF (.bool true)), (intF (r0.int % r1.int)), (eqF (.bool true)), (eqF (.bool true)), (eqF (.bool true))]) hP hst rfl rfl ?_ ?_ fin
  · show Steps dv_o7 104 Wb W0 a0 _ _ _ 20
    refine steps_snoc (k := 19) ?_ (s_assign (i := 19) hP (g := none) (isOp_of (by kernel_rfl) : IsOp dv_o7 19 none (.assign (.tmp 72))) (by kernel_rfl) (by kernel_rfl) (grd_none) (src_op (f := (eqF (.bool true))) 18 (by kernel_rfl) (by kernel_rfl) rfl) rfl)
    refine steps_snoc (k := 18) ?_ (s_pickT (i := 18) hP (g := none) (isOp_of (by kernel_rfl) : IsOp dv_o7 18 none (.pick (.tmp 69) (.tmp 71) (.const (.bool false)))) (by kernel_rfl) (by kernel_rfl) (grd_none) (src_op (f := (eqF (.bool true))) 15 (by kernel_rfl) (by kernel_rfl) rfl) (src_op (f := (eqF (.bool true))) 17 (by kernel_rfl) (by kernel_rfl) rfl) rfl)
    refine steps_snoc (k := 17) ?_ (s_call1 (i := 17) hP (g := (some (15, true))) (isOp_of (by kernel_rfl) : IsOp dv_o7 17 (some (15, true)) (.call { callee := .value (.func 20), args := #[.tmp 70], argTypes := #[27] })) (by kernel_rfl) (by kernel_rfl) (grd_op (d := 69) (by kernel_rfl) (by kernel_rfl) rfl rfl) (src_op (f := (intF (r0.int % r1.int))) 16 (by kernel_rfl) (by kernel_rfl) rfl) dvpl_quadrature_quadratureref01_Valid (fun w v0 hb h0 => kRValid h0 (k1.sm.mod hz) (by first | decide | assumption | omega)) rfl)
    refine steps_snoc (k := 16) ?_ (s_load (i := 16) hP (g := (some (15, true))) (isOp_of (by kernel_rfl) : IsOp dv_o7 16 (some (15, true)) (.load 27 (.tmp 9))) (by kernel_rfl) (by kernel_rfl) (grd_op (d := 69) (by kernel_rfl) (by kernel_rfl) rfl rfl) (bsrc_old 5 _ rfl rfl rfl (by kernel_rfl) (by kernel_rfl)) (fun w q h => loadI_int w q h) rfl)
    refine steps_snoc (k := 15) ?_ (s_move (i := 15) hP (g := none) (isOp_of (by kernel_rfl) : IsOp dv_o7 15 none (.move (.tmp 68))) (by kernel_rfl) (by kernel_rfl) (grd_none) (src_op (f := (eqF (.bool true))) 14 (by kernel_rfl) (by kernel_rfl) rfl) rfl)
    refine steps_snoc (k := 14) ?_ (s_pickT (i := 14) hP (g := none) (isOp_of (by kernel_rfl) : IsOp dv_o7 14 none (.pick (.tmp 65) (.tmp 67) (.const (.bool false)))) (by kernel_rfl) (by kernel_rfl) (grd_none) (src_op (f := (eqF (.bool true))) 11 (by kernel_rfl) (by kernel_rfl) rfl) (src_op (f := (eqF (.bool true))) 13 (by kernel_rfl) (by kernel_rfl) rfl) rfl)
    refine steps_snoc (k := 13) ?_ (s_call1 (i := 13) hP (g := (some (11, true))) (isOp_of (by kernel_rfl) : IsOp dv_o7 13 (some (11, true)) (.call { callee := .value (.func 20), args := #[.tmp 66], argTypes := #[27] })) (by kernel_rfl) (by kernel_rfl) (grd_op (d := 65) (by kernel_rfl) (by kernel_rfl) rfl rfl) (src_op (f := (intF (r0.int / r1.int))) 12 (by kernel_rfl) (by kernel_rfl) rfl) dvpl_quadrature_quadratureref01_Valid (fun w v0 hb h0 => kRValid h0 k0.sm.div (by first | decide | assumption | omega)) rfl)
    refine steps_snoc (k := 12) ?_ (s_load (i := 12) hP (g := (some (11, true))) (isOp_of (by kernel_rfl) : IsOp dv_o7 12 (some (11, true)) (.load 27 (.tmp 8))) (by kernel_rfl) (by kernel_rfl) (grd_op (d := 65) (by kernel_rfl) (by kernel_rfl) rfl rfl) (bsrc_old 4 _ rfl rfl rfl (by kernel_rfl) (by kernel_rfl)) (fun w q h => loadI_int w q h) rfl)
    refine steps_snoc (k := 11) ?_ (s_move (i := 11) hP (g := none) (isOp_of (by kernel_rfl) : IsOp dv_o7 11 none (.move (.tmp 64))) (by kernel_rfl) (by kernel_rfl) (grd_none) (src_op (f := (eqF (.bool true))) 10 (by kernel_rfl) (by kernel_rfl) rfl) rfl)
    refine steps_snoc (k := 10) ?_ (s_pickT (i := 10) hP (g := none) (isOp_of (by kernel_rfl) : IsOp dv_o7 10 none (.pick (.tmp 57) (.tmp 63) (.const (.bool false)))) (by kernel_rfl) (by kernel_rfl) (grd_none) (src_op (f := (eqF (.bool true))) 3 (by kernel_rfl) (by kernel_rfl) rfl) (src_op (f := (eqF (.bool true))) 9 (by kernel_rfl) (by kernel_rfl) rfl) rfl)
    refine steps_snoc (k := 9) ?_ (s_op2 (i := 9) hP (g := (some (3, true))) (isOp_of (by kernel_rfl) : IsOp dv_o7 9 (some (3, true)) (.binOp .lss 3 (.tmp 62) (.const (.int .i64 0)) 3)) (by kernel_rfl) (by kernel_rfl) (grd_op (d := 57) (by kernel_rfl) (by kernel_rfl) rfl rfl) (src_op (f := (eqF (.int .i64 (Int.sign ((r0.int % r1.int) - ((r1.int.natAbs : Nat) : Int)))))) 8 (by kernel_rfl) (by kernel_rfl) rfl) (src_const _) (fun ρ w hx hy => h_lss (r := true) (dv_lt _ hz) hx hy) rfl)
    refine steps_snoc (k := 8) ?_ (s_call2 (i := 8) hP (g := (some (3, true))) (isOp_of (by kernel_rfl) : IsOp dv_o7 8 (some (3, true)) (.call { callee := .value (.func 27), args := #[.tmp 58, .tmp 61], argTypes := #[27, 27] })) (by kernel_rfl) (by kernel_rfl) (grd_op (d := 57) (by kernel_rfl) (by kernel_rfl) rfl rfl) (src_op (f := (intF (r0.int % r1.int))) 4 (by kernel_rfl) (by kernel_rfl) rfl) (src_op (f := (intF ((r1.int.natAbs : Nat) : Int))) 7 (by kernel_rfl) (by kernel_rfl) rfl) dvpl_quadrature_quadratureref01_Cmp (fun w v0 v1 hb h0 h1 => kRCmp h0 h1 (k1.sm.mod hz) k1.sm.abs (by first | decide | assumption | omega) (by first | decide | assumption | omega)) rfl)
    refine steps_snoc (k := 7) ?_ (s_call2 (i := 7) hP (g := (some (3, true))) (isOp_of (by kernel_rfl) : IsOp dv_o7 7 (some (3, true)) (.call { callee := .value (.func 32), args := #[.tmp 60, .const (.bool false)], argTypes := #[22, 4] })) (by kernel_rfl) (by kernel_rfl) (grd_op (d := 57) (by kernel_rfl) (by kernel_rfl) rfl rfl) (src_op (f := (natF r1.int.natAbs)) 6 (by kernel_rfl) (by kernel_rfl) rfl) (src_const _) dvpl_quadrature_quadratureref01_Made (fun w v0 v1 hb h0 h1 => kRMadeN h0 h1 (Nat.le_trans (len_le_pow k1.sm) (by decide))) rfl)
    refine steps_snoc (k := 6) ?_ (s_load (i := 6) hP (g := (some (3, true))) (isOp_of (by kernel_rfl) : IsOp dv_o7 6 (some (3, true)) (.load 22 (.tmp 59))) (by kernel_rfl) (by kernel_rfl) (grd_op (d := 57) (by kernel_rfl) (by kernel_rfl) rfl rfl) (bsrc_at 5 (bsrc_old 3 _ rfl rfl rfl (by kernel_rfl) (by kernel_rfl)) (by kernel_rfl) (by kernel_rfl) (by kernel_rfl)) (fun w q h => loadI_mag w q h) rfl)
    refine steps_snoc (k := 5) ?_ (step_addr (i := 5) (d := 59) (g := (some (3, true))) hP (isOp_of (by kernel_rfl) : IsOp dv_o7 5 (some (3, true)) (.fieldAddr 27 (.tmp 7) 1)) (by kernel_rfl) (by kernel_rfl) 1 rfl rfl _ 3 rfl rfl (by kernel_rfl) (grd_op (d := 57) (by kernel_rfl) (by kernel_rfl) rfl rfl) fldI1)
    refine steps_snoc (k := 4) ?_ (s_load (i := 4) hP (g := (some (3, true))) (isOp_of (by kernel_rfl) : IsOp dv_o7 4 (some (3, true)) (.load 27 (.tmp 9))) (by kernel_rfl) (by kernel_rfl) (grd_op (d := 57) (by kernel_rfl) (by kernel_rfl) rfl rfl) (bsrc_old 5 _ rfl rfl rfl (by kernel_rfl) (by kernel_rfl)) (fun w q h => loadI_int w q h) rfl)
    refine steps_snoc (k := 3) ?_ (s_move (i := 3) hP (g := none) (isOp_of (by kernel_rfl) : IsOp dv_o7 3 none (.move (.tmp 56))) (by kernel_rfl) (by kernel_rfl) (grd_none) (src_op (f := (eqF (.bool true))) 2 (by kernel_rfl) (by kernel_rfl) rfl) rfl)
    refine steps_snoc (k := 2) ?_ (s_op2 (i := 2) hP (g := none) (isOp_of (by kernel_rfl) : IsOp dv_o7 2 none (.binOp .geq 3 (.tmp 55) (.const (.int .i64 0)) 3)) (by kernel_rfl) (by kernel_rfl) (grd_none) (src_op (f := (eqF (.int .i64 (Int.sign (r0.int % r1.int))))) 1 (by kernel_rfl) (by kernel_rfl) rfl) (src_const _) (fun ρ w hx hy => h_geq (r := true) (dv_ge _ hz) hx hy) rfl)
    refine steps_snoc (k := 1) ?_ (s_call1 (i := 1) hP (g := none) (isOp_of (by kernel_rfl) : IsOp dv_o7 1 none (.call { callee := .value (.func 29), args := #[.tmp 54], argTypes := #[27] })) (by kernel_rfl) (by kernel_rfl) (grd_none) (src_op (f := (intF (r0.int % r1.int))) 0 (by kernel_rfl) (by kernel_rfl) rfl) dvpl_quadrature_quadratureref01_Sign (fun w v0 hb h0 => kRSign h0 (k1.sm.mod hz) (by first | decide | assumption | omega)) rfl)
    refine steps_snoc (k := 0) ?_ (s_load (i := 0) hP (g := none) (isOp_of (by kernel_rfl) : IsOp dv_o7 0 none (.load 27 (.tmp 9))) (by kernel_rfl) (by kernel_rfl) (grd_none) (bsrc_old 5 _ rfl rfl rfl (by kernel_rfl) (by kernel_rfl)) (fun w q h => loadI_int w q h) rfl)
    exact steps_nil
  · intro m a w hI hm
    exact ⟨(low_fact hst 0 rfl (by kernel_rfl) hI), (low_fact hst 1 rfl (by kernel_rfl) hI), (low_fact hst 2 rfl (by kernel_rfl) hI), (low_fact hst 3 rfl (by kernel_rfl) hI), (low_fact hst 4 rfl (by kernel_rfl) hI), (low_fact hst 5 rfl (by kernel_rfl) hI), (out_op hI hm 19 14 _ (by kernel_rfl) rfl), (low_fact hst 6 rfl (by kernel_rfl) hI), trivial⟩
set_option maxRecDepth 100000 in
theorem dv_r8 {Q : Exit → Act → World → Prop} {Wb W0 : World} {a0 : Act} {r0 r1 : RawArg} (_hS : Sanity) (_ht : P10 Wb) (k0 : r0.Ok Wb) (k1 : r1.Ok Wb) (hz : r1.int ≠ 0) (hst : St Wb 104 [(0, (eqF r0.val_)), (1, (eqF r1.val_)), (4, (eqF (.bool false))), (5, (eqF (.bool true))), (10, (eqF (.int .i64 0))), (13, (eqF (.int .i64 0))), (14, (eqF (.bool true))), (29, (eqF (.bool false)))] [(2, (rawBF r0)), (3, (rawBF r1)), (6, (boxIF r0.int)), (7, (boxIF r1.int)), (8, (boxIF (r0.int / r1.int))), (9, (boxIF (r0.int % r1.int))), (11, (boxIF ((r0.int * r1.int) / r1.int))), (12, (boxIF ((r0.int * r1.int) % r1.int)))] a0 W0)
    (fin : ∀ a w, St Wb 104 [(0, (eqF r0.val_)), (1, (eqF r1.val_)), (4, (eqF (.bool true))), (5, (eqF (.bool true))), (10, (eqF (.int .i64 0))), (13, (eqF (.int .i64 0))), (14, (eqF (.bool true))), (29, (eqF (.bool false)))] [(2, (rawBF r0)), (3, (rawBF r1)), (6, (boxIF r0.int)), (7, (boxIF r1.int)), (8, (boxIF (r0.int / r1.int))), (9, (boxIF (r0.int % r1.int))), (11, (boxIF ((r0.int * r1.int) / r1.int))), (12, (boxIF ((r0.int * r1.int) % r1.int)))] a w → Q .normal a w) : (Code.region 8 dv_o8 true).wp Tryd.prog Q a0 W0 := by
  have hP : Plan dv_o8 104 ([⟨2, none, none, (rawBF r0), (rawBF r0)⟩, ⟨3, none, none, (rawBF r1), (rawBF r1)⟩, ⟨6, none, none, (boxIF r0.int), (boxIF r0.int)⟩, ⟨7, none, none, (boxIF r1.int), (boxIF r1.int)⟩, ⟨8, none, none, (boxIF (r0.int / r1.int)), (boxIF (r0.int / r1.int))⟩, ⟨9, none, none, (boxIF (r0.int % r1.int)), (boxIF (r0.int % r1.int))⟩, ⟨11, none, none, (boxIF ((r0.int * r1.int) / r1.int)), (boxIF ((r0.int * r1.int) / r1.int))⟩, ⟨12, none, none, (boxIF ((r0.int * r1.int) % r1.int)), (boxIF ((r0.int * r1.int) % r1.int))⟩] : List BoxS) [] := ⟨by kernel_rfl, by kernel_rfl, by kernel_rfl, by kernel_rfl, by kernel_rfl, by kernel_rfl⟩
  refine region_st (F := [(eqF (.int .i64 0)), (eqF (.bool true)), (eqF (.bool true)), (eqF (.bool true)), (eqF (.bool true)), (eqF (.bool true)), (intF (r0.int / r1.int)), (intF r1.int), (intF ((r0.int / r1.int) * r1.int)), (intF (r0.int % r1.int)), (intF (((r0.int / r1.int) * r1.int) + (r0.int % r1.int))), (intF r0.int), (eqF (.bool true)), (eqF (.bool true)), (eqF (.bool true)), (eqF (.int .i64 0)), (eqF (.bool true)), (eqF (.bool true)), (eqF (.bool true)), (intF ((r0.int * r1.int) / r1.int)), (intF r0.int), (eqF (.bool true)), (eqF (.bool true)), (eqF (.bool true)), (intF ((r0.int * r1.int) % r1.int)), (eqF (.int .i64 (Int.sign ((r0.int * r1.int) % r1.int)))), (eqF (.bool true)), (eqF (.bool true)), (eqF (.bool true)), (eqF (.bool true)), (eqF (.bool true)), (eqF (.bool true))]) hP hst rfl rfl ?_ ?_ fin
  · show Steps dv_o8 104 Wb W0 a0 _ _ _ 32
    refine steps_snoc (k := 31) ?_ (s_assign (i := 31) hP (g := none) (isOp_of (by kernel_rfl) : IsOp dv_o8 31 none (.assign (.tmp 103))) (by kernel_rfl) (by kernel_rfl) (grd_none) (src_op (f := (eqF (.bool true))) 30 (by kernel_rfl) (by kernel_rfl) rfl) rfl)
    refine steps_snoc (k := 30) ?_ (s_pickT (i := 30) hP (g := none) (isOp_of (by kernel_rfl) : IsOp dv_o8 30 none (.pick (.tmp 101) (.tmp 102) (.const (.bool false)))) (by kernel_rfl) (by kernel_rfl) (grd_none) (src_op (f := (eqF (.bool true))) 28 (by kernel_rfl) (by kernel_rfl) rfl) (src_op (f := (eqF (.bool true))) 29 (by kernel_rfl) (by kernel_rfl) rfl) rfl)
    refine steps_snoc (k := 29) ?_ (s_move (i := 29) hP (g := (some (28, true))) (isOp_of (by kernel_rfl) : IsOp dv_o8 29 (some (28, true)) (.move (.tmp 5))) (by kernel_rfl) (by kernel_rfl) (grd_op (d := 101) (by kernel_rfl) (by kernel_rfl) rfl rfl) (src_low hst 3 rfl (by kernel_rfl)) rfl)
    refine steps_snoc (k := 28) ?_ (s_move (i := 28) hP (g := none) (isOp_of (by kernel_rfl) : IsOp dv_o8 28 none (.move (.tmp 100))) (by kernel_rfl) (by kernel_rfl) (grd_none) (src_op (f := (eqF (.bool true))) 27 (by kernel_rfl) (by kernel_rfl) rfl) rfl)
    refine steps_snoc (k := 27) ?_ (s_pickT (i := 27) hP (g := none) (isOp_of (by kernel_rfl) : IsOp dv_o8 27 none (.pick (.tmp 96) (.tmp 99) (.const (.bool false)))) (by kernel_rfl) (by kernel_rfl) (grd_none) (src_op (f := (eqF (.bool true))) 23 (by kernel_rfl) (by kernel_rfl) rfl) (src_op (f := (eqF (.bool true))) 26 (by kernel_rfl) (by kernel_rfl) rfl) rfl)
    refine steps_snoc (k := 26) ?_ (s_op2 (i := 26) hP (g := (some (23, true))) (isOp_of (by kernel_rfl) : IsOp dv_o8 26 (some (23, true)) (.binOp .eql 3 (.tmp 98) (.const (.int .i64 0)) 3)) (by kernel_rfl) (by kernel_rfl) (grd_op (d := 96) (by kernel_rfl) (by kernel_rfl) rfl rfl) (src_op (f := (eqF (.int .i64 (Int.sign ((r0.int * r1.int) % r1.int))))) 25 (by kernel_rfl) (by kernel_rfl) rfl) (src_const _) (fun ρ w hx hy => h_eqlI (r := true) (by rw [Int.mul_emod_left]; rfl) hx hy) rfl)
    refine steps_snoc (k := 25) ?_ (s_call1 (i := 25) hP (g := (some (23, true))) (isOp_of (by kernel_rfl) : IsOp dv_o8 25 (some (23, true)) (.call { callee := .value (.func 29), args := #[.tmp 97], argTypes := #[27] })) (by kernel_rfl) (by kernel_rfl) (grd_op (d := 96) (by kernel_rfl) (by kernel_rfl) rfl rfl) (src_op (f := (intF ((r0.int * r1.int) % r1.int))) 24 (by kernel_rfl) (by kernel_rfl) rfl) dvpl_quadrature_quadratureref01_Sign (fun w v0 hb h0 => kRSign h0 (k1.sm.mod hz) (by first | decide | assumption | omega)) rfl)
    refine steps_snoc (k := 24) ?_ (s_load (i := 24) hP (g := (some (23, true))) (isOp_of (by kernel_rfl) : IsOp dv_o8 24 (some (23, true)) (.load 27 (.tmp 12))) (by kernel_rfl) (by kernel_rfl) (grd_op (d := 96) (by kernel_rfl) (by kernel_rfl) rfl rfl) (bsrc_old 7 _ rfl rfl rfl (by kernel_rfl) (by kernel_rfl)) (fun w q h => loadI_int w q h) rfl)
    refine steps_snoc (k := 23) ?_ (s_move (i := 23) hP (g := none) (isOp_of (by kernel_rfl) : IsOp dv_o8 23 none (.move (.tmp 95))) (by kernel_rfl) (by kernel_rfl) (grd_none) (src_op (f := (eqF (.bool true))) 22 (by kernel_rfl) (by kernel_rfl) rfl) rfl)
    refine steps_snoc (k := 22) ?_ (s_pickT (i := 22) hP (g := none) (isOp_of (by kernel_rfl) : IsOp dv_o8 22 none (.pick (.tmp 91) (.tmp 94) (.const (.bool false)))) (by kernel_rfl) (by kernel_rfl) (grd_none) (src_op (f := (eqF (.bool true))) 18 (by kernel_rfl) (by kernel_rfl) rfl) (src_op (f := (eqF (.bool true))) 21 (by kernel_rfl) (by kernel_rfl) rfl) rfl)
    refine steps_snoc (k := 21) ?_ (s_call2 (i := 21) hP (g := (some (18, true))) (isOp_of (by kernel_rfl) : IsOp dv_o8 21 (some (18, true)) (.call { callee := .value (.func 21), args := #[.tmp 92, .tmp 93], argTypes := #[27, 27] })) (by kernel_rfl) (by kernel_rfl) (grd_op (d := 91) (by kernel_rfl) (by kernel_rfl) rfl rfl) (src_op (f := (intF ((r0.int * r1.int) / r1.int))) 19 (by kernel_rfl) (by kernel_rfl) rfl) (src_op (f := (intF r0.int)) 20 (by kernel_rfl) (by kernel_rfl) rfl) dvpl_quadrature_quadratureref01_Same (fun w v0 v1 hb h0 h1 => kSameT h0 h1 (k0.sm.mul k1.sm).div k0.sm (by first | decide | assumption | omega) (by first | decide | assumption | omega) (Int.mul_ediv_cancel _ hz)) rfl)
    refine steps_snoc (k := 20) ?_ (s_load (i := 20) hP (g := (some (18, true))) (isOp_of (by kernel_rfl) : IsOp dv_o8 20 (some (18, true)) (.load 27 (.tmp 6))) (by kernel_rfl) (by kernel_rfl) (grd_op (d := 91) (by kernel_rfl) (by kernel_rfl) rfl rfl) (bsrc_old 2 _ rfl rfl rfl (by kernel_rfl) (by kernel_rfl)) (fun w q h => loadI_int w q h) rfl)
    refine steps_snoc (k := 19) ?_ (s_load (i := 19) hP (g := (some (18, true))) (isOp_of (by kernel_rfl) : IsOp dv_o8 19 (some (18, true)) (.load 27 (.tmp 11))) (by kernel_rfl) (by kernel_rfl) (grd_op (d := 91) (by kernel_rfl) (by kernel_rfl) rfl rfl) (bsrc_old 6 _ rfl rfl rfl (by kernel_rfl) (by kernel_rfl)) (fun w q h => loadI_int w q h) rfl)
    refine steps_snoc (k := 18) ?_ (s_move (i := 18) hP (g := none) (isOp_of (by kernel_rfl) : IsOp dv_o8 18 none (.move (.tmp 90))) (by kernel_rfl) (by kernel_rfl) (grd_none) (src_op (f := (eqF (.bool true))) 17 (by kernel_rfl) (by kernel_rfl) rfl) rfl)
    refine steps_snoc (k := 17) ?_ (s_pickT (i := 17) hP (g := none) (isOp_of (by kernel_rfl) : IsOp dv_o8 17 none (.pick (.tmp 87) (.tmp 89) (.const (.bool false)))) (by kernel_rfl) (by kernel_rfl) (grd_none) (src_op (f := (eqF (.bool true))) 14 (by kernel_rfl) (by kernel_rfl) rfl) (src_op (f := (eqF (.bool true))) 16 (by kernel_rfl) (by kernel_rfl) rfl) rfl)
    refine steps_snoc (k := 16) ?_ (s_op2 (i := 16) hP (g := (some (14, true))) (isOp_of (by kernel_rfl) : IsOp dv_o8 16 (some (14, true)) (.binOp .eql 42 (.tmp 88) (.const (.int .i64 0)) 42)) (by kernel_rfl) (by kernel_rfl) (grd_op (d := 87) (by kernel_rfl) (by kernel_rfl) rfl rfl) (src_op (f := (eqF (.int .i64 0))) 15 (by kernel_rfl) (by kernel_rfl) rfl) (src_const _) (fun ρ w hx hy => h_eqlI (r := true) (by decide) hx hy) rfl)
    refine steps_snoc (k := 15) ?_ (s_move (i := 15) hP (g := (some (14, true))) (isOp_of (by kernel_rfl) : IsOp dv_o8 15 (some (14, true)) (.move (.tmp 13))) (by kernel_rfl) (by kernel_rfl) (grd_op (d := 87) (by kernel_rfl) (by kernel_rfl) rfl rfl) (src_low hst 5 rfl (by kernel_rfl)) rfl)
    refine steps_snoc (k := 14) ?_ (s_move (i := 14) hP (g := none) (isOp_of (by kernel_rfl) : IsOp dv_o8 14 none (.move (.tmp 86))) (by kernel_rfl) (by kernel_rfl) (grd_none) (src_op (f := (eqF (.bool true))) 13 (by kernel_rfl) (by kernel_rfl) rfl) rfl)
    refine steps_snoc (k := 13) ?_ (s_pickT (i := 13) hP (g := none) (isOp_of (by kernel_rfl) : IsOp dv_o8 13 none (.pick (.tmp 78) (.tmp 85) (.const (.bool false)))) (by kernel_rfl) (by kernel_rfl) (grd_none) (src_op (f := (eqF (.bool true))) 5 (by kernel_rfl) (by kernel_rfl) rfl) (src_op (f := (eqF (.bool true))) 12 (by kernel_rfl) (by kernel_rfl) rfl) rfl)
    refine steps_snoc (k := 12) ?_ (s_call2 (i := 12) hP (g := (some (5, true))) (isOp_of (by kernel_rfl) : IsOp dv_o8 12 (some (5, true)) (.call { callee := .value (.func 21), args := #[.tmp 83, .tmp 84], argTypes := #[27, 27] })) (by kernel_rfl) (by kernel_rfl) (grd_op (d := 78) (by kernel_rfl) (by kernel_rfl) rfl rfl) (src_op (f := (intF (((r0.int / r1.int) * r1.int) + (r0.int % r1.int)))) 10 (by kernel_rfl) (by kernel_rfl) rfl) (src_op (f := (intF r0.int)) 11 (by kernel_rfl) (by kernel_rfl) rfl) dvpl_quadrature_quadratureref01_Same (fun w v0 v1 hb h0 h1 => kSameT h0 h1 ((k0.sm.div.mul k1.sm).add (k1.sm.mod hz)) k0.sm (by first | decide | assumption | omega) (by first | decide | assumption | omega) (dv_all _ _)) rfl)
    refine steps_snoc (k := 11) ?_ (s_load (i := 11) hP (g := (some (5, true))) (isOp_of (by kernel_rfl) : IsOp dv_o8 11 (some (5, true)) (.load 27 (.tmp 6))) (by kernel_rfl) (by kernel_rfl) (grd_op (d := 78) (by kernel_rfl) (by kernel_rfl) rfl rfl) (bsrc_old 2 _ rfl rfl rfl (by kernel_rfl) (by kernel_rfl)) (fun w q h => loadI_int w q h) rfl)
    refine steps_snoc (k := 10) ?_ (s_call2 (i := 10) hP (g := (some (5, true))) (isOp_of (by kernel_rfl) : IsOp dv_o8 10 (some (5, true)) (.call { callee := .value (.func 22), args := #[.tmp 81, .tmp 82], argTypes := #[27, 27] })) (by kernel_rfl) (by kernel_rfl) (grd_op (d := 78) (by kernel_rfl) (by kernel_rfl) rfl rfl) (src_op (f := (intF ((r0.int / r1.int) * r1.int))) 8 (by kernel_rfl) (by kernel_rfl) rfl) (src_op (f := (intF (r0.int % r1.int))) 9 (by kernel_rfl) (by kernel_rfl) rfl) dvpl_quadrature_quadratureref01_Add (fun w v0 v1 hb h0 h1 => kRAdd h0 h1 (k0.sm.div.mul k1.sm) (k1.sm.mod hz) (by first | decide | assumption | omega) (by first | decide | assumption | omega)) rfl)
    refine steps_snoc (k := 9) ?_ (s_load (i := 9) hP (g := (some (5, true))) (isOp_of (by kernel_rfl) : IsOp dv_o8 9 (some (5, true)) (.load 27 (.tmp 9))) (by kernel_rfl) (by kernel_rfl) (grd_op (d := 78) (by kernel_rfl) (by kernel_rfl) rfl rfl) (bsrc_old 5 _ rfl rfl rfl (by kernel_rfl) (by kernel_rfl)) (fun w q h => loadI_int w q h) rfl)
    refine steps_snoc (k := 8) ?_ (s_call2 (i := 8) hP (g := (some (5, true))) (isOp_of (by kernel_rfl) : IsOp dv_o8 8 (some (5, true)) (.call { callee := .value (.func 24), args := #[.tmp 79, .tmp 80], argTypes := #[27, 27] })) (by kernel_rfl) (by kernel_rfl) (grd_op (d := 78) (by kernel_rfl) (by kernel_rfl) rfl rfl) (src_op (f := (intF (r0.int / r1.int))) 6 (by kernel_rfl) (by kernel_rfl) rfl) (src_op (f := (intF r1.int)) 7 (by kernel_rfl) (by kernel_rfl) rfl) dvpl_quadrature_quadratureref01_Mul (fun w v0 v1 hb h0 h1 => kRMul h0 h1 k0.sm.div k1.sm (by first | decide | assumption | omega) (by first | decide | assumption | omega)) rfl)
    refine steps_snoc (k := 7) ?_ (s_load (i := 7) hP (g := (some (5, true))) (isOp_of (by kernel_rfl) : IsOp dv_o8 7 (some (5, true)) (.load 27 (.tmp 7))) (by kernel_rfl) (by kernel_rfl) (grd_op (d := 78) (by kernel_rfl) (by kernel_rfl) rfl rfl) (bsrc_old 3 _ rfl rfl rfl (by kernel_rfl) (by kernel_rfl)) (fun w q h => loadI_int w q h) rfl)
    refine steps_snoc (k := 6) ?_ (s_load (i := 6) hP (g := (some (5, true))) (isOp_of (by kernel_rfl) : IsOp dv_o8 6 (some (5, true)) (.load 27 (.tmp 8))) (by kernel_rfl) (by kernel_rfl) (grd_op (d := 78) (by kernel_rfl) (by kernel_rfl) rfl rfl) (bsrc_old 4 _ rfl rfl rfl (by kernel_rfl) (by kernel_rfl)) (fun w q h => loadI_int w q h) rfl)
    refine steps_snoc (k := 5) ?_ (s_move (i := 5) hP (g := none) (isOp_of (by kernel_rfl) : IsOp dv_o8 5 none (.move (.tmp 77))) (by kernel_rfl) (by kernel_rfl) (grd_none) (src_op (f := (eqF (.bool true))) 4 (by kernel_rfl) (by kernel_rfl) rfl) rfl)
    refine steps_snoc (k := 4) ?_ (s_pickT (i := 4) hP (g := none) (isOp_of (by kernel_rfl) : IsOp dv_o8 4 none (.pick (.tmp 75) (.tmp 76) (.const (.bool false)))) (by kernel_rfl) (by kernel_rfl) (grd_none) (src_op (f := (eqF (.bool true))) 2 (by kernel_rfl) (by kernel_rfl) rfl) (src_op (f := (eqF (.bool true))) 3 (by kernel_rfl) (by kernel_rfl) rfl) rfl)
    refine steps_snoc (k := 3) ?_ (s_move (i := 3) hP (g := (some (2, true))) (isOp_of (by kernel_rfl) : IsOp dv_o8 3 (some (2, true)) (.move (.tmp 14))) (by kernel_rfl) (by kernel_rfl) (grd_op (d := 75) (by kernel_rfl) (by kernel_rfl) rfl rfl) (src_low hst 6 rfl (by kernel_rfl)) rfl)
    refine steps_snoc (k := 2) ?_ (s_move (i := 2) hP (g := none) (isOp_of (by kernel_rfl) : IsOp dv_o8 2 none (.move (.tmp 74))) (by kernel_rfl) (by kernel_rfl) (grd_none) (src_op (f := (eqF (.bool true))) 1 (by kernel_rfl) (by kernel_rfl) rfl) rfl)
    refine steps_snoc (k := 1) ?_ (s_op2 (i := 1) hP (g := none) (isOp_of (by kernel_rfl) : IsOp dv_o8 1 none (.binOp .eql 42 (.tmp 73) (.const (.int .i64 0)) 42)) (by kernel_rfl) (by kernel_rfl) (grd_none) (src_op (f := (eqF (.int .i64 0))) 0 (by kernel_rfl) (by kernel_rfl) rfl) (src_const _) (fun ρ w hx hy => h_eqlI (r := true) (by decide) hx hy) rfl)
    refine steps_snoc (k := 0) ?_ (s_move (i := 0) hP (g := none) (isOp_of (by kernel_rfl) : IsOp dv_o8 0 none (.move (.tmp 10))) (by kernel_rfl) (by kernel_rfl) (grd_none) (src_low hst 4 rfl (by kernel_rfl)) rfl)
    exact steps_nil
  · intro m a w hI hm
    exact ⟨(low_fact hst 0 rfl (by kernel_rfl) hI), (low_fact hst 1 rfl (by kernel_rfl) hI), (out_op hI hm 31 4 _ (by kernel_rfl) rfl), (low_fact hst 3 rfl (by kernel_rfl) hI), (low_fact hst 4 rfl (by kernel_rfl) hI), (low_fact hst 5 rfl (by kernel_rfl) hI), (low_fact hst 6 rfl (by kernel_rfl) hI), (low_fact hst 7 rfl (by kernel_rfl) hI), trivial⟩
set_option maxRecDepth 100000 in
theorem Divides_law (hS : Sanity) (r0 r1 : RawArg) (W : World) (k0 : r0.Ok W) (k1 : r1.Ok W) (ht : P10 W) :
    Calls Tryd.prog 7 #[r0.val_, r1.val_] W (GivesP (eqF (.bool true)) W) := by
  refine calls_stW (S := [(0, (eqF r0.val_)), (1, (eqF r1.val_))]) Tryd.func7 (by kernel_rfl) Tryd.ntmps7 (by simp) (fun x hx => ?_) fun a w hst => ?_
  · simp only [List.mem_cons, List.not_mem_nil, or_false] at hx
    rcases hx with rfl | rfl
    · exact ⟨_, rfl, rfl⟩
    · exact ⟨_, rfl, rfl⟩
  show Code.wp _ dv_n0 _ a w
  by_cases hz : r1.int = 0
  · rw [dv_e0]
    refine wp_seq ?_
    rw [dv_e1]
    refine dv_r0 hS ht k0 k1 hz hst ?_
    clear hst
    intro a w hst
    show Code.wp _ dv_n2 _ a w
    rw [dv_e2]
    refine wp_seq ?_
    rw [dv_e3]
    refine dv_r1 hS ht k0 k1 hz hst ?_
    clear hst
    intro a w hst
    show Code.wp _ dv_n4 _ a w
    rw [dv_e4]
    refine wp_seq ?_
    rw [dv_e5]
    refine dv_r2 hS ht k0 k1 hz hst ?_
    clear hst
    intro a w hst
    show Code.wp _ dv_n6 _ a w
    rw [dv_e6]
    refine wp_seq ?_
    rw [dv_e7]
    refine dv_r3 hS ht k0 k1 hz hst ?_
    clear hst
    intro a w hst
    show Code.wp _ dv_n8 _ a w
    rw [dv_e8]
    refine wp_seq ?_
    rw [dv_e9]
    refine wp_seq ?_
    rw [dv_e11]
    refine dv_r4 hS ht k0 k1 hz hst ?_
    clear hst
    intro a w hst
    show Code.wp _ dv_n12 _ a w
    rw [dv_e12]
    refine wp_cond_true (st_bool hst 5 rfl) ?_
    show Code.wp _ dv_n13 _ a w
    rw [dv_e13]
    refine wp_seq ?_
    rw [dv_e15]
    refine dv_r5 hS ht k0 k1 hz hst ?_
    clear hst
    intro a w hst
    show Code.wp _ dv_n16 _ a w
    rw [dv_e16]
    refine wp_ret ?_
    exact ret_tmp hst rfl 2 rfl
  · rw [dv_e0]
    refine wp_seq ?_
    rw [dv_e1]
    refine dv_r0b hS ht k0 k1 hz hst ?_
    clear hst
    intro a w hst
    show Code.wp _ dv_n2 _ a w
    rw [dv_e2]
    refine wp_seq ?_
    rw [dv_e3]
    refine dv_r1b hS ht k0 k1 hz hst ?_
    clear hst
    intro a w hst
    show Code.wp _ dv_n4 _ a w
    rw [dv_e4]
    refine wp_seq ?_
    rw [dv_e5]
    refine dv_r2b hS ht k0 k1 hz hst ?_
    clear hst
    intro a w hst
    show Code.wp _ dv_n6 _ a w
    rw [dv_e6]
    refine wp_seq ?_
    rw [dv_e7]
    refine dv_r3b hS ht k0 k1 hz hst ?_
    clear hst
    intro a w hst
    show Code.wp _ dv_n8 _ a w
    rw [dv_e8]
    refine wp_seq ?_
    rw [dv_e9]
    refine wp_seq ?_
    rw [dv_e11]
    refine dv_r4b hS ht k0 k1 hz hst ?_
    clear hst
    intro a w hst
    show Code.wp _ dv_n12 _ a w
    rw [dv_e12]
    refine wp_cond_false (st_bool hst 5 rfl) ?_
    show Code.wp _ dv_n14 _ a w
    rw [dv_e14]
    refine wp_skip ?_
    show Code.wp _ dv_n10 _ a w
    rw [dv_e10]
    refine wp_seq ?_
    rw [dv_e17]
    refine dv_r6 hS ht k0 k1 hz hst ?_
    clear hst
    intro a w hst
    show Code.wp _ dv_n18 _ a w
    rw [dv_e18]
    refine wp_seq ?_
    rw [dv_e19]
    refine dv_r7 hS ht k0 k1 hz hst ?_
    clear hst
    intro a w hst
    show Code.wp _ dv_n20 _ a w
    rw [dv_e20]
    refine wp_seq ?_
    rw [dv_e21]
    refine dv_r8 hS ht k0 k1 hz hst ?_
    clear hst
    intro a w hst
    show Code.wp _ dv_n22 _ a w
    rw [dv_e22]
    refine wp_ret ?_
    exact ret_tmp hst rfl 2 rfl
end Go.Proofs.YtjajmonhcnmidaaDoor
