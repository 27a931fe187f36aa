/- The law IntegerMatchesReference answers true, given the fixed examples (written by wip/tools/gen_match.py). -/
import Derived.Test.YtjajmonhcnmidaaDoorGj
namespace Go.Proofs.YtjajmonhcnmidaaDoor
open Go.RowKit

theorem mtpl_quadrature_integer_Add : Plainly 15 := fun _ _ => by simp [go_sem]
theorem mtpl_quadrature_integer_Cmp : Plainly 26 := fun _ _ => by simp [go_sem]
theorem mtpl_quadrature_integer_Mul : Plainly 17 := fun _ _ => by simp [go_sem]
theorem mtpl_quadrature_integer_Neg : Plainly 18 := fun _ _ => by simp [go_sem]
theorem mtpl_quadrature_integer_Sign : Plainly 28 := fun _ _ => by simp [go_sem]
theorem mtpl_quadrature_integer_Small : Plainly 13 := fun _ _ => by simp [go_sem]
theorem mtpl_quadrature_integer_Sub : Plainly 16 := fun _ _ => by simp [go_sem]
theorem mtpl_quadrature_integer_Valid : Plainly 19 := fun _ _ => by simp [go_sem]
theorem mtpl_quadrature_quadraturelaw01_made : Plainly 12 := fun _ _ => by simp [go_sem]
theorem mtpl_quadrature_quadraturelaw01_sanity : Plainly 11 := fun _ _ => by simp [go_sem]
theorem mtpl_quadrature_quadratureref01_Add : Plainly 22 := fun _ _ => by simp [go_sem]
theorem mtpl_quadrature_quadratureref01_Cmp : Plainly 27 := fun _ _ => by simp [go_sem]
theorem mtpl_quadrature_quadratureref01_Mul : Plainly 24 := fun _ _ => by simp [go_sem]
theorem mtpl_quadrature_quadratureref01_Neg : Plainly 25 := fun _ _ => by simp [go_sem]
theorem mtpl_quadrature_quadratureref01_Same : Plainly 21 := fun _ _ => by simp [go_sem]
theorem mtpl_quadrature_quadratureref01_Sign : Plainly 29 := fun _ _ => by simp [go_sem]
theorem mtpl_quadrature_quadratureref01_Small : Plainly 14 := fun _ _ => by simp [go_sem]
theorem mtpl_quadrature_quadratureref01_Sub : Plainly 23 := fun _ _ => by simp [go_sem]
theorem mtpl_quadrature_quadratureref01_Valid : Plainly 20 := fun _ _ => by simp [go_sem]
noncomputable def mt_n0 : Code := bodyOf Tryd.f3
noncomputable def mt_n1 : Code := cl mt_n0
noncomputable def mt_n2 : Code := cr mt_n0
theorem mt_e0 : mt_n0 = .seq mt_n1 mt_n2 := by kernel_rfl
noncomputable def mt_o0 : Array Oper := opsOf mt_n1
theorem mt_e1 : mt_n1 = .region 0 mt_o0 false := by kernel_rfl
noncomputable def mt_n3 : Code := cl mt_n2
noncomputable def mt_n4 : Code := cr mt_n2
theorem mt_e2 : mt_n2 = .seq mt_n3 mt_n4 := by kernel_rfl
noncomputable def mt_o1 : Array Oper := opsOf mt_n3
theorem mt_e3 : mt_n3 = .region 1 mt_o1 false := by kernel_rfl
noncomputable def mt_n5 : Code := cl mt_n4
noncomputable def mt_n6 : Code := cr mt_n4
theorem mt_e4 : mt_n4 = .seq mt_n5 mt_n6 := by kernel_rfl
noncomputable def mt_o2 : Array Oper := opsOf mt_n5
theorem mt_e5 : mt_n5 = .region 2 mt_o2 true := by kernel_rfl
noncomputable def mt_n7 : Code := cl mt_n6
noncomputable def mt_n8 : Code := cr mt_n6
theorem mt_e6 : mt_n6 = .seq mt_n7 mt_n8 := by kernel_rfl
noncomputable def mt_o3 : Array Oper := opsOf mt_n7
theorem mt_e7 : mt_n7 = .region 3 mt_o3 false := by kernel_rfl
noncomputable def mt_n9 : Code := cl mt_n8
noncomputable def mt_n10 : Code := cr mt_n8
theorem mt_e8 : mt_n8 = .seq mt_n9 mt_n10 := by kernel_rfl
noncomputable def mt_o4 : Array Oper := opsOf mt_n9
theorem mt_e9 : mt_n9 = .region 4 mt_o4 false := by kernel_rfl
noncomputable def mt_n11 : Code := cl mt_n10
noncomputable def mt_n12 : Code := cr mt_n10
theorem mt_e10 : mt_n10 = .seq mt_n11 mt_n12 := by kernel_rfl
noncomputable def mt_n13 : Code := cl mt_n11
noncomputable def mt_n14 : Code := cr mt_n11
theorem mt_e11 : mt_n11 = .seq mt_n13 mt_n14 := by kernel_rfl
noncomputable def mt_o5 : Array Oper := opsOf mt_n13
theorem mt_e13 : mt_n13 = .region 5 mt_o5 false := by kernel_rfl
noncomputable def mt_n15 : Code := cl mt_n14
noncomputable def mt_n16 : Code := cr mt_n14
theorem mt_e14 : mt_n14 = .cond (.tmp 50) mt_n15 mt_n16 := by kernel_rfl
noncomputable def mt_n17 : Code := cl mt_n15
noncomputable def mt_n18 : Code := cr mt_n15
theorem mt_e15 : mt_n15 = .seq mt_n17 mt_n18 := by kernel_rfl
noncomputable def mt_o6 : Array Oper := opsOf mt_n17
theorem mt_e17 : mt_n17 = .region 6 mt_o6 false := by kernel_rfl
theorem mt_e18 : mt_n18 = .ret := by kernel_rfl
theorem mt_e16 : mt_n16 = .skip := by kernel_rfl
noncomputable def mt_n19 : Code := cl mt_n12
noncomputable def mt_n20 : Code := cr mt_n12
theorem mt_e12 : mt_n12 = .seq mt_n19 mt_n20 := by kernel_rfl
noncomputable def mt_o7 : Array Oper := opsOf mt_n19
theorem mt_e19 : mt_n19 = .region 7 mt_o7 true := by kernel_rfl
noncomputable def mt_n21 : Code := cl mt_n20
noncomputable def mt_n22 : Code := cr mt_n20
theorem mt_e20 : mt_n20 = .seq mt_n21 mt_n22 := by kernel_rfl
noncomputable def mt_o8 : Array Oper := opsOf mt_n21
theorem mt_e21 : mt_n21 = .region 8 mt_o8 false := by kernel_rfl
noncomputable def mt_n23 : Code := cl mt_n22
noncomputable def mt_n24 : Code := cr mt_n22
theorem mt_e22 : mt_n22 = .seq mt_n23 mt_n24 := by kernel_rfl
noncomputable def mt_o9 : Array Oper := opsOf mt_n23
theorem mt_e23 : mt_n23 = .region 9 mt_o9 true := by kernel_rfl
theorem mt_e24 : mt_n24 = .ret := by kernel_rfl
set_option maxRecDepth 100000 in
theorem mt_r0 {Q : Exit → Act → World → Prop} {Wb W0 : World} {a0 : Act} {r0 r1 : RawArg} (_hS : Sanity) (_ht : P10 Wb) (_k0 : r0.Ok Wb) (_k1 : r1.Ok Wb) (hst : St Wb 139 [(0, (eqF r0.val_)), (1, (eqF r1.val_))] [] a0 W0)
    (fin : ∀ a w, St Wb 139 [(4, (eqF (.bool false)))] [(2, (rawBF r0)), (3, (rawBF r1))] a w → Q .normal a w) : (Code.region 0 mt_o0 false).wp Tryd.prog Q a0 W0 := by
  have hP : Plan mt_o0 139 ([⟨2, some 0, none, (rawBF r0), (rawBF r0)⟩, ⟨3, some 1, none, (rawBF r1), (rawBF r1)⟩] : List BoxS) [] := ⟨by kernel_rfl, by kernel_rfl, by kernel_rfl, by kernel_rfl, by kernel_rfl, by kernel_rfl⟩
  refine region_st (F := [anyF, anyF, (eqF (.bool false))]) hP hst rfl rfl ?_ ?_ fin
  · show Steps mt_o0 139 Wb W0 a0 _ _ _ 3
    refine steps_snoc (k := 2) ?_ (s_assign (i := 2) hP (g := none) (isOp_of (by kernel_rfl) : IsOp mt_o0 2 none (.assign (.const (.bool false)))) (by kernel_rfl) (by kernel_rfl) (grd_none) (src_const _) rfl)
    refine steps_snoc (k := 1) ?_ (s_box (i := 1) (d := 3) hP 1 _ (isOp_of (by kernel_rfl) : IsOp mt_o0 1 none (.box 24 (.tmp 1))) (by kernel_rfl) rfl rfl rfl (by kernel_rfl) (by kernel_rfl) (by kernel_rfl) (by kernel_rfl) rfl (src_low hst 1 rfl (by kernel_rfl)) (fun w v h => boxR_run w v h))
    refine steps_snoc (k := 0) ?_ (s_box (i := 0) (d := 2) hP 0 _ (isOp_of (by kernel_rfl) : IsOp mt_o0 0 none (.box 24 (.tmp 0))) (by kernel_rfl) rfl rfl rfl (by kernel_rfl) (by kernel_rfl) (by kernel_rfl) (by kernel_rfl) rfl (src_low hst 0 rfl (by kernel_rfl)) (fun w v h => boxR_run w v h))
    exact steps_nil
  · intro m a w hI hm
    exact ⟨(out_op hI hm 2 4 _ (by kernel_rfl) rfl), trivial⟩
set_option maxRecDepth 100000 in
theorem mt_r1 {Q : Exit → Act → World → Prop} {Wb W0 : World} {a0 : Act} {r0 r1 : RawArg} (hS : Sanity) (ht : P10 Wb) (_k0 : r0.Ok Wb) (_k1 : r1.Ok Wb) (hst : St Wb 139 [(4, (eqF (.bool false)))] [(2, (rawBF r0)), (3, (rawBF r1))] a0 W0)
    (fin : ∀ a w, St Wb 139 [(5, (eqF (.bool true)))] [(2, (rawBF r0)), (3, (rawBF r1))] a w → Q .normal a w) : (Code.region 1 mt_o1 false).wp Tryd.prog Q a0 W0 := by
  have hP : Plan mt_o1 139 ([⟨2, none, none, (rawBF r0), (rawBF r0)⟩, ⟨3, none, none, (rawBF r1), (rawBF r1)⟩] : List BoxS) [] := ⟨by kernel_rfl, by kernel_rfl, by kernel_rfl, by kernel_rfl, by kernel_rfl, by kernel_rfl⟩
  refine region_st (F := [(eqF (.bool true)), (eqF (.bool true))]) hP hst rfl rfl ?_ ?_ fin
  · show Steps mt_o1 139 Wb W0 a0 _ _ _ 2
    refine steps_snoc (k := 1) ?_ (s_assign (i := 1) hP (g := none) (isOp_of (by kernel_rfl) : IsOp mt_o1 1 none (.assign (.tmp 17))) (by kernel_rfl) (by kernel_rfl) (grd_none) (src_op (f := (eqF (.bool true))) 0 (by kernel_rfl) (by kernel_rfl) rfl) rfl)
    refine steps_snoc (k := 0) ?_ (s_call0 (i := 0) hP (g := none) (isOp_of (by kernel_rfl) : IsOp mt_o1 0 none (.call { callee := .value (.func 11), args := #[], argTypes := #[] })) (by kernel_rfl) (by kernel_rfl) (grd_none)  mtpl_quadrature_quadraturelaw01_sanity (fun w  hb  => kSanity hS ht hb) rfl)
    exact steps_nil
  · intro m a w hI hm
    exact ⟨(out_op hI hm 1 5 _ (by kernel_rfl) rfl), trivial⟩
set_option maxRecDepth 100000 in
theorem mt_r2 {Q : Exit → Act → World → Prop} {Wb W0 : World} {a0 : Act} {r0 r1 : RawArg} (_hS : Sanity) (_ht : P10 Wb) (k0 : r0.Ok Wb) (k1 : r1.Ok Wb) (hst : St Wb 139 [(5, (eqF (.bool true)))] [(2, (rawBF r0)), (3, (rawBF r1))] a0 W0)
    (fin : ∀ a w, St Wb 139 [(5, (eqF (.bool true)))] [(2, (rawBF r0)), (3, (rawBF r1)), (6, (boxIF r0.int)), (7, (boxIF r1.int))] a w → Q .normal a w) : (Code.region 2 mt_o2 true).wp Tryd.prog Q a0 W0 := by
  have hP : Plan mt_o2 139 ([⟨2, none, none, (rawBF r0), (rawBF r0)⟩, ⟨3, none, none, (rawBF r1), (rawBF r1)⟩, ⟨6, some 4, some 6, zeroIF, (boxIF r0.int)⟩, ⟨7, some 5, some 7, zeroIF, (boxIF r1.int)⟩] : List BoxS) [] := ⟨by kernel_rfl, by kernel_rfl, by kernel_rfl, by kernel_rfl, by kernel_rfl, by kernel_rfl⟩
  refine region_st (F := [(eqF r0.val_), (intF r0.int), (eqF r1.val_), (intF r1.int), anyF, anyF, anyF, anyF]) hP hst rfl rfl ?_ ?_ fin
  · show Steps mt_o2 139 Wb W0 a0 _ _ _ 8
    refine steps_snoc (k := 7) ?_ (s_store (i := 7) 3 _ (isOp_of (by kernel_rfl) : IsOp mt_o2 7 none (.store 27 (.tmp 7) (.tmp 21))) (by kernel_rfl) rfl rfl rfl (by kernel_rfl) (by kernel_rfl) (by kernel_rfl) (src_op (f := (intF r1.int)) 3 (by kernel_rfl) (by kernel_rfl) rfl) (storeI_zero _))
    refine steps_snoc (k := 6) ?_ (s_store (i := 6) 2 _ (isOp_of (by kernel_rfl) : IsOp mt_o2 6 none (.store 27 (.tmp 6) (.tmp 19))) (by kernel_rfl) rfl rfl rfl (by kernel_rfl) (by kernel_rfl) (by kernel_rfl) (src_op (f := (intF r0.int)) 1 (by kernel_rfl) (by kernel_rfl) rfl) (storeI_zero _))
    refine steps_snoc (k := 5) ?_ (s_alloc (i := 5) (d := 7) hP 3 _ (isOp_of (by kernel_rfl) : IsOp mt_o2 5 none (.alloc 27)) (by kernel_rfl) rfl rfl rfl (by kernel_rfl) (by kernel_rfl) (by kernel_rfl) (by kernel_rfl) rfl allocI_run allocI_old)
    refine steps_snoc (k := 4) ?_ (s_alloc (i := 4) (d := 6) hP 2 _ (isOp_of (by kernel_rfl) : IsOp mt_o2 4 none (.alloc 27)) (by kernel_rfl) rfl rfl rfl (by kernel_rfl) (by kernel_rfl) (by kernel_rfl) (by kernel_rfl) rfl allocI_run allocI_old)
    refine steps_snoc (k := 3) ?_ (s_call1 (i := 3) hP (g := none) (isOp_of (by kernel_rfl) : IsOp mt_o2 3 none (.call { callee := .value (.func 12), args := #[.tmp 20], argTypes := #[24] })) (by kernel_rfl) (by kernel_rfl) (grd_none) (src_op (f := (eqF r1.val_)) 2 (by kernel_rfl) (by kernel_rfl) rfl) mtpl_quadrature_quadraturelaw01_made (fun w v0 hb h0 => kMade k1 hb h0) rfl)
    refine steps_snoc (k := 2) ?_ (s_load (i := 2) hP (g := none) (isOp_of (by kernel_rfl) : IsOp mt_o2 2 none (.load 24 (.tmp 3))) (by kernel_rfl) (by kernel_rfl) (grd_none) (bsrc_old 1 _ rfl rfl rfl (by kernel_rfl) (by kernel_rfl)) (fun w q h => loadR_raw w q h) rfl)
    refine steps_snoc (k := 1) ?_ (s_call1 (i := 1) hP (g := none) (isOp_of (by kernel_rfl) : IsOp mt_o2 1 none (.call { callee := .value (.func 12), args := #[.tmp 18], argTypes := #[24] })) (by kernel_rfl) (by kernel_rfl) (grd_none) (src_op (f := (eqF r0.val_)) 0 (by kernel_rfl) (by kernel_rfl) rfl) mtpl_quadrature_quadraturelaw01_made (fun w v0 hb h0 => kMade k0 hb h0) rfl)
    refine steps_snoc (k := 0) ?_ (s_load (i := 0) hP (g := none) (isOp_of (by kernel_rfl) : IsOp mt_o2 0 none (.load 24 (.tmp 2))) (by kernel_rfl) (by kernel_rfl) (grd_none) (bsrc_old 0 _ rfl rfl rfl (by kernel_rfl) (by kernel_rfl)) (fun w q h => loadR_raw w q h) rfl)
    exact steps_nil
  · intro m a w hI hm
    exact ⟨(low_fact hst 0 rfl (by kernel_rfl) hI), trivial⟩
set_option maxRecDepth 100000 in
theorem mt_r3T {Q : Exit → Act → World → Prop} {Wb W0 : World} {a0 : Act} {r0 r1 : RawArg} (_hS : Sanity) (_ht : P10 Wb) (k0 : r0.Ok Wb) (_k1 : r1.Ok Wb) (hz : inI64 r0.int = true) (hst : St Wb 139 [(5, (eqF (.bool true)))] [(2, (rawBF r0)), (3, (rawBF r1)), (6, (boxIF r0.int)), (7, (boxIF r1.int))] a0 W0)
    (fin : ∀ a w, St Wb 139 [(5, (eqF (.bool true))), (8, (eqF (.int .i64 r0.int))), (9, (eqF (.bool true)))] [(2, (rawBF r0)), (3, (rawBF r1)), (6, (boxIF r0.int)), (7, (boxIF r1.int))] a w → Q .normal a w) : (Code.region 3 mt_o3 false).wp Tryd.prog Q a0 W0 := by
  have hP : Plan mt_o3 139 ([⟨2, none, none, (rawBF r0), (rawBF r0)⟩, ⟨3, none, none, (rawBF r1), (rawBF r1)⟩, ⟨6, none, none, (boxIF r0.int), (boxIF r0.int)⟩, ⟨7, none, none, (boxIF r1.int), (boxIF r1.int)⟩] : List BoxS) [] := ⟨by kernel_rfl, by kernel_rfl, by kernel_rfl, by kernel_rfl, by kernel_rfl, by kernel_rfl⟩
  refine region_st (F := [(intF r0.int), (tup2F (eqF (.int .i64 r0.int)) (eqF (.bool true))), (tup2F (eqF (.int .i64 r0.int)) (eqF (.bool true))), (eqF (.int .i64 r0.int)), (eqF (.bool true)), (eqF (.int .i64 r0.int)), (eqF (.bool true))]) hP hst rfl rfl ?_ ?_ fin
  · show Steps mt_o3 139 Wb W0 a0 _ _ _ 7
    refine steps_snoc (k := 6) ?_ (s_assign (i := 6) hP (g := none) (isOp_of (by kernel_rfl) : IsOp mt_o3 6 none (.assign (.tmp 26))) (by kernel_rfl) (by kernel_rfl) (grd_none) (src_op (f := (eqF (.bool true))) 4 (by kernel_rfl) (by kernel_rfl) rfl) rfl)
    refine steps_snoc (k := 5) ?_ (s_assign (i := 5) hP (g := none) (isOp_of (by kernel_rfl) : IsOp mt_o3 5 none (.assign (.tmp 25))) (by kernel_rfl) (by kernel_rfl) (grd_none) (src_op (f := (eqF (.int .i64 r0.int))) 3 (by kernel_rfl) (by kernel_rfl) rfl) rfl)
    refine steps_snoc (k := 4) ?_ (s_op1 (i := 4) hP (g := none) (isOp_of (by kernel_rfl) : IsOp mt_o3 4 none (.extract (.tmp 22) 1)) (by kernel_rfl) (by kernel_rfl) (grd_none) (src_op (f := (tup2F (eqF (.int .i64 r0.int)) (eqF (.bool true)))) 2 (by kernel_rfl) (by kernel_rfl) rfl) (fun ρ w hx => h_ext2_1 hx) rfl)
    refine steps_snoc (k := 3) ?_ (s_op1 (i := 3) hP (g := none) (isOp_of (by kernel_rfl) : IsOp mt_o3 3 none (.extract (.tmp 22) 0)) (by kernel_rfl) (by kernel_rfl) (grd_none) (src_op (f := (tup2F (eqF (.int .i64 r0.int)) (eqF (.bool true)))) 2 (by kernel_rfl) (by kernel_rfl) rfl) (fun ρ w hx => h_ext2_0 hx) rfl)
    refine steps_snoc (k := 2) ?_ (s_move (i := 2) hP (g := none) (isOp_of (by kernel_rfl) : IsOp mt_o3 2 none (.move (.tmp 24))) (by kernel_rfl) (by kernel_rfl) (grd_none) (src_op (f := (tup2F (eqF (.int .i64 r0.int)) (eqF (.bool true)))) 1 (by kernel_rfl) (by kernel_rfl) rfl) rfl)
    refine steps_snoc (k := 1) ?_ (s_call1 (i := 1) hP (g := none) (isOp_of (by kernel_rfl) : IsOp mt_o3 1 none (.call { callee := .value (.func 13), args := #[.tmp 23], argTypes := #[27] })) (by kernel_rfl) (by kernel_rfl) (grd_none) (src_op (f := (intF r0.int)) 0 (by kernel_rfl) (by kernel_rfl) rfl) mtpl_quadrature_integer_Small (fun w v0 hb h0 => kSmallT h0 k0.sm (by decide) hz) rfl)
    refine steps_snoc (k := 0) ?_ (s_load (i := 0) hP (g := none) (isOp_of (by kernel_rfl) : IsOp mt_o3 0 none (.load 27 (.tmp 6))) (by kernel_rfl) (by kernel_rfl) (grd_none) (bsrc_old 2 _ rfl rfl rfl (by kernel_rfl) (by kernel_rfl)) (fun w q h => loadI_int w q h) rfl)
    exact steps_nil
  · intro m a w hI hm
    exact ⟨(low_fact hst 0 rfl (by kernel_rfl) hI), (out_op hI hm 5 8 _ (by kernel_rfl) rfl), (out_op hI hm 6 9 _ (by kernel_rfl) rfl), trivial⟩
set_option maxRecDepth 100000 in
theorem mt_r4T {Q : Exit → Act → World → Prop} {Wb W0 : World} {a0 : Act} {r0 r1 : RawArg} (_hS : Sanity) (_ht : P10 Wb) (k0 : r0.Ok Wb) (_k1 : r1.Ok Wb) (hz : inI64 r0.int = true) (hst : St Wb 139 [(5, (eqF (.bool true))), (8, (eqF (.int .i64 r0.int))), (9, (eqF (.bool true)))] [(2, (rawBF r0)), (3, (rawBF r1)), (6, (boxIF r0.int)), (7, (boxIF r1.int))] a0 W0)
    (fin : ∀ a w, St Wb 139 [(5, (eqF (.bool true))), (8, (eqF (.int .i64 r0.int))), (9, (eqF (.bool true))), (10, (eqF (.int .i64 r0.int))), (11, (eqF (.bool true)))] [(2, (rawBF r0)), (3, (rawBF r1)), (6, (boxIF r0.int)), (7, (boxIF r1.int))] a w → Q .normal a w) : (Code.region 4 mt_o4 false).wp Tryd.prog Q a0 W0 := by
  have hP : Plan mt_o4 139 ([⟨2, none, none, (rawBF r0), (rawBF r0)⟩, ⟨3, none, none, (rawBF r1), (rawBF r1)⟩, ⟨6, none, none, (boxIF r0.int), (boxIF r0.int)⟩, ⟨7, none, none, (boxIF r1.int), (boxIF r1.int)⟩] : List BoxS) [] := ⟨by kernel_rfl, by kernel_rfl, by kernel_rfl, by kernel_rfl, by kernel_rfl, by kernel_rfl⟩
  refine region_st (F := [(intF r0.int), (tup2F (eqF (.int .i64 r0.int)) (eqF (.bool true))), (tup2F (eqF (.int .i64 r0.int)) (eqF (.bool true))), (eqF (.int .i64 r0.int)), (eqF (.bool true)), (eqF (.int .i64 r0.int)), (eqF (.bool true))]) hP hst rfl rfl ?_ ?_ fin
  · show Steps mt_o4 139 Wb W0 a0 _ _ _ 7
    refine steps_snoc (k := 6) ?_ (s_assign (i := 6) hP (g := none) (isOp_of (by kernel_rfl) : IsOp mt_o4 6 none (.assign (.tmp 31))) (by kernel_rfl) (by kernel_rfl) (grd_none) (src_op (f := (eqF (.bool true))) 4 (by kernel_rfl) (by kernel_rfl) rfl) rfl)
    refine steps_snoc (k := 5) ?_ (s_assign (i := 5) hP (g := none) (isOp_of (by kernel_rfl) : IsOp mt_o4 5 none (.assign (.tmp 30))) (by kernel_rfl) (by kernel_rfl) (grd_none) (src_op (f := (eqF (.int .i64 r0.int))) 3 (by kernel_rfl) (by kernel_rfl) rfl) rfl)
    refine steps_snoc (k := 4) ?_ (s_op1 (i := 4) hP (g := none) (isOp_of (by kernel_rfl) : IsOp mt_o4 4 none (.extract (.tmp 27) 1)) (by kernel_rfl) (by kernel_rfl) (grd_none) (src_op (f := (tup2F (eqF (.int .i64 r0.int)) (eqF (.bool true)))) 2 (by kernel_rfl) (by kernel_rfl) rfl) (fun ρ w hx => h_ext2_1 hx) rfl)
    refine steps_snoc (k := 3) ?_ (s_op1 (i := 3) hP (g := none) (isOp_of (by kernel_rfl) : IsOp mt_o4 3 none (.extract (.tmp 27) 0)) (by kernel_rfl) (by kernel_rfl) (grd_none) (src_op (f := (tup2F (eqF (.int .i64 r0.int)) (eqF (.bool true)))) 2 (by kernel_rfl) (by kernel_rfl) rfl) (fun ρ w hx => h_ext2_0 hx) rfl)
    refine steps_snoc (k := 2) ?_ (s_move (i := 2) hP (g := none) (isOp_of (by kernel_rfl) : IsOp mt_o4 2 none (.move (.tmp 29))) (by kernel_rfl) (by kernel_rfl) (grd_none) (src_op (f := (tup2F (eqF (.int .i64 r0.int)) (eqF (.bool true)))) 1 (by kernel_rfl) (by kernel_rfl) rfl) rfl)
    refine steps_snoc (k := 1) ?_ (s_call1 (i := 1) hP (g := none) (isOp_of (by kernel_rfl) : IsOp mt_o4 1 none (.call { callee := .value (.func 14), args := #[.tmp 28], argTypes := #[27] })) (by kernel_rfl) (by kernel_rfl) (grd_none) (src_op (f := (intF r0.int)) 0 (by kernel_rfl) (by kernel_rfl) rfl) mtpl_quadrature_quadratureref01_Small (fun w v0 hb h0 => kRSmallT h0 k0.sm (by decide) hz) rfl)
    refine steps_snoc (k := 0) ?_ (s_load (i := 0) hP (g := none) (isOp_of (by kernel_rfl) : IsOp mt_o4 0 none (.load 27 (.tmp 6))) (by kernel_rfl) (by kernel_rfl) (grd_none) (bsrc_old 2 _ rfl rfl rfl (by kernel_rfl) (by kernel_rfl)) (fun w q h => loadI_int w q h) rfl)
    exact steps_nil
  · intro m a w hI hm
    exact ⟨(low_fact hst 0 rfl (by kernel_rfl) hI), (low_fact hst 1 rfl (by kernel_rfl) hI), (low_fact hst 2 rfl (by kernel_rfl) hI), (out_op hI hm 5 10 _ (by kernel_rfl) rfl), (out_op hI hm 6 11 _ (by kernel_rfl) rfl), trivial⟩
set_option maxRecDepth 100000 in
theorem mt_r5T {Q : Exit → Act → World → Prop} {Wb W0 : World} {a0 : Act} {r0 r1 : RawArg} (_hS : Sanity) (_ht : P10 Wb) (_k0 : r0.Ok Wb) (_k1 : r1.Ok Wb) (_hz : inI64 r0.int = true) (hst : St Wb 139 [(5, (eqF (.bool true))), (8, (eqF (.int .i64 r0.int))), (9, (eqF (.bool true))), (10, (eqF (.int .i64 r0.int))), (11, (eqF (.bool true)))] [(2, (rawBF r0)), (3, (rawBF r1)), (6, (boxIF r0.int)), (7, (boxIF r1.int))] a0 W0)
    (fin : ∀ a w, St Wb 139 [(5, (eqF (.bool true))), (50, (eqF (.bool false)))] [(2, (rawBF r0)), (3, (rawBF r1)), (6, (boxIF r0.int)), (7, (boxIF r1.int))] a w → Q .normal a w) : (Code.region 5 mt_o5 false).wp Tryd.prog Q a0 W0 := by
  have hP : Plan mt_o5 139 ([⟨2, none, none, (rawBF r0), (rawBF r0)⟩, ⟨3, none, none, (rawBF r1), (rawBF r1)⟩, ⟨6, none, none, (boxIF r0.int), (boxIF r0.int)⟩, ⟨7, none, none, (boxIF r1.int), (boxIF r1.int)⟩] : List BoxS) [] := ⟨by kernel_rfl, by kernel_rfl, by kernel_rfl, by kernel_rfl, by kernel_rfl, by kernel_rfl⟩
  refine region_st (F := [(eqF (.bool true)), (eqF (.bool true)), (eqF (.bool false)), (eqF (.bool false)), (eqF (.bool true)), (eqF (.bool true)), (eqF (.int .i64 r0.int)), (eqF (.int .i64 r0.int)), (eqF (.bool false)), (eqF (.bool false)), (eqF (.bool false)), (eqF (.bool false)), (eqF (.bool true)), (eqF (.bool false)), (eqF (.bool false)), anyF, anyF, (eqF (.bool false)), (eqF (.bool false))]) hP hst rfl rfl ?_ ?_ fin
  · show Steps mt_o5 139 Wb W0 a0 _ _ _ 19
    refine steps_snoc (k := 18) ?_ (s_pickF (i := 18) hP (g := none) (isOp_of (by kernel_rfl) : IsOp mt_o5 18 none (.pick (.tmp 43) (.const (.bool true)) (.tmp 49))) (by kernel_rfl) (by kernel_rfl) (grd_none) (src_op (f := (eqF (.bool false))) 11 (by kernel_rfl) (by kernel_rfl) rfl) (src_op (f := (eqF (.bool false))) 17 (by kernel_rfl) (by kernel_rfl) rfl) rfl)
    refine steps_snoc (k := 17) ?_ (s_pickF (i := 17) hP (g := (some (11, false))) (isOp_of (by kernel_rfl) : IsOp mt_o5 17 (some (11, false)) (.pick (.tmp 46) (.tmp 48) (.const (.bool false)))) (by kernel_rfl) (by kernel_rfl) (grd_op (d := 43) (by kernel_rfl) (by kernel_rfl) rfl rfl) (src_op (f := (eqF (.bool false))) 14 (by kernel_rfl) (by kernel_rfl) rfl) (src_const _) rfl)
    refine steps_snoc (k := 16) ?_ (s_skip (i := 16) hP (g := (some (14, true))) (isOp_of (by kernel_rfl) : IsOp mt_o5 16 (some (14, true)) (.binOp .neq 2 (.tmp 47) (.const (.int .i64 0)) 2)) (by kernel_rfl) (by kernel_rfl) (grd_op (d := 46) (by kernel_rfl) (by kernel_rfl) rfl rfl) rfl)
    refine steps_snoc (k := 15) ?_ (s_skip (i := 15) hP (g := (some (14, true))) (isOp_of (by kernel_rfl) : IsOp mt_o5 15 (some (14, true)) (.move (.tmp 8))) (by kernel_rfl) (by kernel_rfl) (grd_op (d := 46) (by kernel_rfl) (by kernel_rfl) rfl rfl) rfl)
    refine steps_snoc (k := 14) ?_ (s_move (i := 14) hP (g := (some (11, false))) (isOp_of (by kernel_rfl) : IsOp mt_o5 14 (some (11, false)) (.move (.tmp 45))) (by kernel_rfl) (by kernel_rfl) (grd_op (d := 43) (by kernel_rfl) (by kernel_rfl) rfl rfl) (src_op (f := (eqF (.bool false))) 13 (by kernel_rfl) (by kernel_rfl) rfl) rfl)
    refine steps_snoc (k := 13) ?_ (s_op1 (i := 13) hP (g := (some (11, false))) (isOp_of (by kernel_rfl) : IsOp mt_o5 13 (some (11, false)) (.unOp .not 4 (.tmp 44))) (by kernel_rfl) (by kernel_rfl) (grd_op (d := 43) (by kernel_rfl) (by kernel_rfl) rfl rfl) (src_op (f := (eqF (.bool true))) 12 (by kernel_rfl) (by kernel_rfl) rfl) (fun ρ w hx => h_not rfl hx) rfl)
    refine steps_snoc (k := 12) ?_ (s_move (i := 12) hP (g := (some (11, false))) (isOp_of (by kernel_rfl) : IsOp mt_o5 12 (some (11, false)) (.move (.tmp 9))) (by kernel_rfl) (by kernel_rfl) (grd_op (d := 43) (by kernel_rfl) (by kernel_rfl) rfl rfl) (src_low hst 2 rfl (by kernel_rfl)) rfl)
    refine steps_snoc (k := 11) ?_ (s_move (i := 11) hP (g := none) (isOp_of (by kernel_rfl) : IsOp mt_o5 11 none (.move (.tmp 42))) (by kernel_rfl) (by kernel_rfl) (grd_none) (src_op (f := (eqF (.bool false))) 10 (by kernel_rfl) (by kernel_rfl) rfl) rfl)
    refine steps_snoc (k := 10) ?_ (s_pickF (i := 10) hP (g := none) (isOp_of (by kernel_rfl) : IsOp mt_o5 10 none (.pick (.tmp 35) (.const (.bool true)) (.tmp 41))) (by kernel_rfl) (by kernel_rfl) (grd_none) (src_op (f := (eqF (.bool false))) 3 (by kernel_rfl) (by kernel_rfl) rfl) (src_op (f := (eqF (.bool false))) 9 (by kernel_rfl) (by kernel_rfl) rfl) rfl)
    refine steps_snoc (k := 9) ?_ (s_pickT (i := 9) hP (g := (some (3, false))) (isOp_of (by kernel_rfl) : IsOp mt_o5 9 (some (3, false)) (.pick (.tmp 37) (.tmp 40) (.const (.bool false)))) (by kernel_rfl) (by kernel_rfl) (grd_op (d := 35) (by kernel_rfl) (by kernel_rfl) rfl rfl) (src_op (f := (eqF (.bool true))) 5 (by kernel_rfl) (by kernel_rfl) rfl) (src_op (f := (eqF (.bool false))) 8 (by kernel_rfl) (by kernel_rfl) rfl) rfl)
    refine steps_snoc (k := 8) ?_ (s_op2 (i := 8) hP (g := (some (5, true))) (isOp_of (by kernel_rfl) : IsOp mt_o5 8 (some (5, true)) (.binOp .neq 2 (.tmp 38) (.tmp 39) 2)) (by kernel_rfl) (by kernel_rfl) (grd_op (d := 37) (by kernel_rfl) (by kernel_rfl) rfl rfl) (src_op (f := (eqF (.int .i64 r0.int))) 6 (by kernel_rfl) (by kernel_rfl) rfl) (src_op (f := (eqF (.int .i64 r0.int))) 7 (by kernel_rfl) (by kernel_rfl) rfl) (fun ρ w hx hy => h_neqI (r := false) (by simp) hx hy) rfl)
    refine steps_snoc (k := 7) ?_ (s_move (i := 7) hP (g := (some (5, true))) (isOp_of (by kernel_rfl) : IsOp mt_o5 7 (some (5, true)) (.move (.tmp 10))) (by kernel_rfl) (by kernel_rfl) (grd_op (d := 37) (by kernel_rfl) (by kernel_rfl) rfl rfl) (src_low hst 3 rfl (by kernel_rfl)) rfl)
    refine steps_snoc (k := 6) ?_ (s_move (i := 6) hP (g := (some (5, true))) (isOp_of (by kernel_rfl) : IsOp mt_o5 6 (some (5, true)) (.move (.tmp 8))) (by kernel_rfl) (by kernel_rfl) (grd_op (d := 37) (by kernel_rfl) (by kernel_rfl) rfl rfl) (src_low hst 1 rfl (by kernel_rfl)) rfl)
    refine steps_snoc (k := 5) ?_ (s_move (i := 5) hP (g := (some (3, false))) (isOp_of (by kernel_rfl) : IsOp mt_o5 5 (some (3, false)) (.move (.tmp 36))) (by kernel_rfl) (by kernel_rfl) (grd_op (d := 35) (by kernel_rfl) (by kernel_rfl) rfl rfl) (src_op (f := (eqF (.bool true))) 4 (by kernel_rfl) (by kernel_rfl) rfl) rfl)
    refine steps_snoc (k := 4) ?_ (s_move (i := 4) hP (g := (some (3, false))) (isOp_of (by kernel_rfl) : IsOp mt_o5 4 (some (3, false)) (.move (.tmp 9))) (by kernel_rfl) (by kernel_rfl) (grd_op (d := 35) (by kernel_rfl) (by kernel_rfl) rfl rfl) (src_low hst 2 rfl (by kernel_rfl)) rfl)
    refine steps_snoc (k := 3) ?_ (s_move (i := 3) hP (g := none) (isOp_of (by kernel_rfl) : IsOp mt_o5 3 none (.move (.tmp 34))) (by kernel_rfl) (by kernel_rfl) (grd_none) (src_op (f := (eqF (.bool false))) 2 (by kernel_rfl) (by kernel_rfl) rfl) rfl)
    refine steps_snoc (k := 2) ?_ (s_op2 (i := 2) hP (g := none) (isOp_of (by kernel_rfl) : IsOp mt_o5 2 none (.binOp .neq 4 (.tmp 32) (.tmp 33) 4)) (by kernel_rfl) (by kernel_rfl) (grd_none) (src_op (f := (eqF (.bool true))) 0 (by kernel_rfl) (by kernel_rfl) rfl) (src_op (f := (eqF (.bool true))) 1 (by kernel_rfl) (by kernel_rfl) rfl) (fun ρ w hx hy => h_neqB rfl hx hy) rfl)
    refine steps_snoc (k := 1) ?_ (s_move (i := 1) hP (g := none) (isOp_of (by kernel_rfl) : IsOp mt_o5 1 none (.move (.tmp 11))) (by kernel_rfl) (by kernel_rfl) (grd_none) (src_low hst 4 rfl (by kernel_rfl)) rfl)
    refine steps_snoc (k := 0) ?_ (s_move (i := 0) hP (g := none) (isOp_of (by kernel_rfl) : IsOp mt_o5 0 none (.move (.tmp 9))) (by kernel_rfl) (by kernel_rfl) (grd_none) (src_low hst 2 rfl (by kernel_rfl)) rfl)
    exact steps_nil
  · intro m a w hI hm
    exact ⟨(low_fact hst 0 rfl (by kernel_rfl) hI), (out_op hI hm 18 50 _ (by kernel_rfl) rfl), trivial⟩
set_option maxRecDepth 100000 in
theorem mt_r3F {Q : Exit → Act → World → Prop} {Wb W0 : World} {a0 : Act} {r0 r1 : RawArg} (_hS : Sanity) (_ht : P10 Wb) (k0 : r0.Ok Wb) (_k1 : r1.Ok Wb) (hz : inI64 r0.int = false) (hst : St Wb 139 [(5, (eqF (.bool true)))] [(2, (rawBF r0)), (3, (rawBF r1)), (6, (boxIF r0.int)), (7, (boxIF r1.int))] a0 W0)
    (fin : ∀ a w, St Wb 139 [(5, (eqF (.bool true))), (8, (eqF (.int .i64 0))), (9, (eqF (.bool false)))] [(2, (rawBF r0)), (3, (rawBF r1)), (6, (boxIF r0.int)), (7, (boxIF r1.int))] a w → Q .normal a w) : (Code.region 3 mt_o3 false).wp Tryd.prog Q a0 W0 := by
  have hP : Plan mt_o3 139 ([⟨2, none, none, (rawBF r0), (rawBF r0)⟩, ⟨3, none, none, (rawBF r1), (rawBF r1)⟩, ⟨6, none, none, (boxIF r0.int), (boxIF r0.int)⟩, ⟨7, none, none, (boxIF r1.int), (boxIF r1.int)⟩] : List BoxS) [] := ⟨by kernel_rfl, by kernel_rfl, by kernel_rfl, by kernel_rfl, by kernel_rfl, by kernel_rfl⟩
  refine region_st (F := [(intF r0.int), (tup2F (eqF (.int .i64 0)) (eqF (.bool false))), (tup2F (eqF (.int .i64 0)) (eqF (.bool false))), (eqF (.int .i64 0)), (eqF (.bool false)), (eqF (.int .i64 0)), (eqF (.bool false))]) hP hst rfl rfl ?_ ?_ fin
  · show Steps mt_o3 139 Wb W0 a0 _ _ _ 7
    refine steps_snoc (k := 6) ?_ (s_assign (i := 6) hP (g := none) (isOp_of (by kernel_rfl) : IsOp mt_o3 6 none (.assign (.tmp 26))) (by kernel_rfl) (by kernel_rfl) (grd_none) (src_op (f := (eqF (.bool false))) 4 (by kernel_rfl) (by kernel_rfl) rfl) rfl)
    refine steps_snoc (k := 5) ?_ (s_assign (i := 5) hP (g := none) (isOp_of (by kernel_rfl) : IsOp mt_o3 5 none (.assign (.tmp 25))) (by kernel_rfl) (by kernel_rfl) (grd_none) (src_op (f := (eqF (.int .i64 0))) 3 (by kernel_rfl) (by kernel_rfl) rfl) rfl)
    refine steps_snoc (k := 4) ?_ (s_op1 (i := 4) hP (g := none) (isOp_of (by kernel_rfl) : IsOp mt_o3 4 none (.extract (.tmp 22) 1)) (by kernel_rfl) (by kernel_rfl) (grd_none) (src_op (f := (tup2F (eqF (.int .i64 0)) (eqF (.bool false)))) 2 (by kernel_rfl) (by kernel_rfl) rfl) (fun ρ w hx => h_ext2_1 hx) rfl)
    refine steps_snoc (k := 3) ?_ (s_op1 (i := 3) hP (g := none) (isOp_of (by kernel_rfl) : IsOp mt_o3 3 none (.extract (.tmp 22) 0)) (by kernel_rfl) (by kernel_rfl) (grd_none) (src_op (f := (tup2F (eqF (.int .i64 0)) (eqF (.bool false)))) 2 (by kernel_rfl) (by kernel_rfl) rfl) (fun ρ w hx => h_ext2_0 hx) rfl)
    refine steps_snoc (k := 2) ?_ (s_move (i := 2) hP (g := none) (isOp_of (by kernel_rfl) : IsOp mt_o3 2 none (.move (.tmp 24))) (by kernel_rfl) (by kernel_rfl) (grd_none) (src_op (f := (tup2F (eqF (.int .i64 0)) (eqF (.bool false)))) 1 (by kernel_rfl) (by kernel_rfl) rfl) rfl)
    refine steps_snoc (k := 1) ?_ (s_call1 (i := 1) hP (g := none) (isOp_of (by kernel_rfl) : IsOp mt_o3 1 none (.call { callee := .value (.func 13), args := #[.tmp 23], argTypes := #[27] })) (by kernel_rfl) (by kernel_rfl) (grd_none) (src_op (f := (intF r0.int)) 0 (by kernel_rfl) (by kernel_rfl) rfl) mtpl_quadrature_integer_Small (fun w v0 hb h0 => kSmallF h0 k0.sm (by decide) hz) rfl)
    refine steps_snoc (k := 0) ?_ (s_load (i := 0) hP (g := none) (isOp_of (by kernel_rfl) : IsOp mt_o3 0 none (.load 27 (.tmp 6))) (by kernel_rfl) (by kernel_rfl) (grd_none) (bsrc_old 2 _ rfl rfl rfl (by kernel_rfl) (by kernel_rfl)) (fun w q h => loadI_int w q h) rfl)
    exact steps_nil
  · intro m a w hI hm
    exact ⟨(low_fact hst 0 rfl (by kernel_rfl) hI), (out_op hI hm 5 8 _ (by kernel_rfl) rfl), (out_op hI hm 6 9 _ (by kernel_rfl) rfl), trivial⟩
set_option maxRecDepth 100000 in
theorem mt_r4F {Q : Exit → Act → World → Prop} {Wb W0 : World} {a0 : Act} {r0 r1 : RawArg} (_hS : Sanity) (_ht : P10 Wb) (k0 : r0.Ok Wb) (_k1 : r1.Ok Wb) (hz : inI64 r0.int = false) (hst : St Wb 139 [(5, (eqF (.bool true))), (8, (eqF (.int .i64 0))), (9, (eqF (.bool false)))] [(2, (rawBF r0)), (3, (rawBF r1)), (6, (boxIF r0.int)), (7, (boxIF r1.int))] a0 W0)
    (fin : ∀ a w, St Wb 139 [(5, (eqF (.bool true))), (8, (eqF (.int .i64 0))), (9, (eqF (.bool false))), (10, (i64F fun _ => True)), (11, (eqF (.bool false)))] [(2, (rawBF r0)), (3, (rawBF r1)), (6, (boxIF r0.int)), (7, (boxIF r1.int))] a w → Q .normal a w) : (Code.region 4 mt_o4 false).wp Tryd.prog Q a0 W0 := by
  have hP : Plan mt_o4 139 ([⟨2, none, none, (rawBF r0), (rawBF r0)⟩, ⟨3, none, none, (rawBF r1), (rawBF r1)⟩, ⟨6, none, none, (boxIF r0.int), (boxIF r0.int)⟩, ⟨7, none, none, (boxIF r1.int), (boxIF r1.int)⟩] : List BoxS) [] := ⟨by kernel_rfl, by kernel_rfl, by kernel_rfl, by kernel_rfl, by kernel_rfl, by kernel_rfl⟩
  refine region_st (F := [(intF r0.int), (tup2F (i64F fun _ => True) (eqF (.bool false))), (tup2F (i64F fun _ => True) (eqF (.bool false))), (i64F fun _ => True), (eqF (.bool false)), (i64F fun _ => True), (eqF (.bool false))]) hP hst rfl rfl ?_ ?_ fin
  · show Steps mt_o4 139 Wb W0 a0 _ _ _ 7
    refine steps_snoc (k := 6) ?_ (s_assign (i := 6) hP (g := none) (isOp_of (by kernel_rfl) : IsOp mt_o4 6 none (.assign (.tmp 31))) (by kernel_rfl) (by kernel_rfl) (grd_none) (src_op (f := (eqF (.bool false))) 4 (by kernel_rfl) (by kernel_rfl) rfl) rfl)
    refine steps_snoc (k := 5) ?_ (s_assign (i := 5) hP (g := none) (isOp_of (by kernel_rfl) : IsOp mt_o4 5 none (.assign (.tmp 30))) (by kernel_rfl) (by kernel_rfl) (grd_none) (src_op (f := (i64F fun _ => True)) 3 (by kernel_rfl) (by kernel_rfl) rfl) rfl)
    refine steps_snoc (k := 4) ?_ (s_op1 (i := 4) hP (g := none) (isOp_of (by kernel_rfl) : IsOp mt_o4 4 none (.extract (.tmp 27) 1)) (by kernel_rfl) (by kernel_rfl) (grd_none) (src_op (f := (tup2F (i64F fun _ => True) (eqF (.bool false)))) 2 (by kernel_rfl) (by kernel_rfl) rfl) (fun ρ w hx => h_ext2_1 hx) rfl)
    refine steps_snoc (k := 3) ?_ (s_op1 (i := 3) hP (g := none) (isOp_of (by kernel_rfl) : IsOp mt_o4 3 none (.extract (.tmp 27) 0)) (by kernel_rfl) (by kernel_rfl) (grd_none) (src_op (f := (tup2F (i64F fun _ => True) (eqF (.bool false)))) 2 (by kernel_rfl) (by kernel_rfl) rfl) (fun ρ w hx => h_ext2_0 hx) rfl)
    refine steps_snoc (k := 2) ?_ (s_move (i := 2) hP (g := none) (isOp_of (by kernel_rfl) : IsOp mt_o4 2 none (.move (.tmp 29))) (by kernel_rfl) (by kernel_rfl) (grd_none) (src_op (f := (tup2F (i64F fun _ => True) (eqF (.bool false)))) 1 (by kernel_rfl) (by kernel_rfl) rfl) rfl)
    refine steps_snoc (k := 1) ?_ (s_call1 (i := 1) hP (g := none) (isOp_of (by kernel_rfl) : IsOp mt_o4 1 none (.call { callee := .value (.func 14), args := #[.tmp 28], argTypes := #[27] })) (by kernel_rfl) (by kernel_rfl) (grd_none) (src_op (f := (intF r0.int)) 0 (by kernel_rfl) (by kernel_rfl) rfl) mtpl_quadrature_quadratureref01_Small (fun w v0 hb h0 => kRSmallF h0 k0.sm (by decide) hz) rfl)
    refine steps_snoc (k := 0) ?_ (s_load (i := 0) hP (g := none) (isOp_of (by kernel_rfl) : IsOp mt_o4 0 none (.load 27 (.tmp 6))) (by kernel_rfl) (by kernel_rfl) (grd_none) (bsrc_old 2 _ rfl rfl rfl (by kernel_rfl) (by kernel_rfl)) (fun w q h => loadI_int w q h) rfl)
    exact steps_nil
  · intro m a w hI hm
    exact ⟨(low_fact hst 0 rfl (by kernel_rfl) hI), (low_fact hst 1 rfl (by kernel_rfl) hI), (low_fact hst 2 rfl (by kernel_rfl) hI), (out_op hI hm 5 10 _ (by kernel_rfl) rfl), (out_op hI hm 6 11 _ (by kernel_rfl) rfl), trivial⟩
set_option maxRecDepth 100000 in
theorem mt_r5F {Q : Exit → Act → World → Prop} {Wb W0 : World} {a0 : Act} {r0 r1 : RawArg} (_hS : Sanity) (_ht : P10 Wb) (_k0 : r0.Ok Wb) (_k1 : r1.Ok Wb) (_hz : inI64 r0.int = false) (hst : St Wb 139 [(5, (eqF (.bool true))), (8, (eqF (.int .i64 0))), (9, (eqF (.bool false))), (10, (i64F fun _ => True)), (11, (eqF (.bool false)))] [(2, (rawBF r0)), (3, (rawBF r1)), (6, (boxIF r0.int)), (7, (boxIF r1.int))] a0 W0)
    (fin : ∀ a w, St Wb 139 [(5, (eqF (.bool true))), (50, (eqF (.bool false)))] [(2, (rawBF r0)), (3, (rawBF r1)), (6, (boxIF r0.int)), (7, (boxIF r1.int))] a w → Q .normal a w) : (Code.region 5 mt_o5 false).wp Tryd.prog Q a0 W0 := by
  have hP : Plan mt_o5 139 ([⟨2, none, none, (rawBF r0), (rawBF r0)⟩, ⟨3, none, none, (rawBF r1), (rawBF r1)⟩, ⟨6, none, none, (boxIF r0.int), (boxIF r0.int)⟩, ⟨7, none, none, (boxIF r1.int), (boxIF r1.int)⟩] : List BoxS) [] := ⟨by kernel_rfl, by kernel_rfl, by kernel_rfl, by kernel_rfl, by kernel_rfl, by kernel_rfl⟩
  refine region_st (F := [(eqF (.bool false)), (eqF (.bool false)), (eqF (.bool false)), (eqF (.bool false)), (eqF (.bool false)), (eqF (.bool false)), anyF, anyF, anyF, (eqF (.bool false)), (eqF (.bool false)), (eqF (.bool false)), (eqF (.bool false)), (eqF (.bool true)), (eqF (.bool true)), (eqF (.int .i64 0)), (eqF (.bool false)), (eqF (.bool false)), (eqF (.bool false))]) hP hst rfl rfl ?_ ?_ fin
  · show Steps mt_o5 139 Wb W0 a0 _ _ _ 19
    refine steps_snoc (k := 18) ?_ (s_pickF (i := 18) hP (g := none) (isOp_of (by kernel_rfl) : IsOp mt_o5 18 none (.pick (.tmp 43) (.const (.bool true)) (.tmp 49))) (by kernel_rfl) (by kernel_rfl) (grd_none) (src_op (f := (eqF (.bool false))) 11 (by kernel_rfl) (by kernel_rfl) rfl) (src_op (f := (eqF (.bool false))) 17 (by kernel_rfl) (by kernel_rfl) rfl) rfl)
    refine steps_snoc (k := 17) ?_ (s_pickT (i := 17) hP (g := (some (11, false))) (isOp_of (by kernel_rfl) : IsOp mt_o5 17 (some (11, false)) (.pick (.tmp 46) (.tmp 48) (.const (.bool false)))) (by kernel_rfl) (by kernel_rfl) (grd_op (d := 43) (by kernel_rfl) (by kernel_rfl) rfl rfl) (src_op (f := (eqF (.bool true))) 14 (by kernel_rfl) (by kernel_rfl) rfl) (src_op (f := (eqF (.bool false))) 16 (by kernel_rfl) (by kernel_rfl) rfl) rfl)
    refine steps_snoc (k := 16) ?_ (s_op2 (i := 16) hP (g := (some (14, true))) (isOp_of (by kernel_rfl) : IsOp mt_o5 16 (some (14, true)) (.binOp .neq 2 (.tmp 47) (.const (.int .i64 0)) 2)) (by kernel_rfl) (by kernel_rfl) (grd_op (d := 46) (by kernel_rfl) (by kernel_rfl) rfl rfl) (src_op (f := (eqF (.int .i64 0))) 15 (by kernel_rfl) (by kernel_rfl) rfl) (src_const _) (fun ρ w hx hy => h_neqI (r := false) (by simp) hx hy) rfl)
    refine steps_snoc (k := 15) ?_ (s_move (i := 15) hP (g := (some (14, true))) (isOp_of (by kernel_rfl) : IsOp mt_o5 15 (some (14, true)) (.move (.tmp 8))) (by kernel_rfl) (by kernel_rfl) (grd_op (d := 46) (by kernel_rfl) (by kernel_rfl) rfl rfl) (src_low hst 1 rfl (by kernel_rfl)) rfl)
    refine steps_snoc (k := 14) ?_ (s_move (i := 14) hP (g := (some (11, false))) (isOp_of (by kernel_rfl) : IsOp mt_o5 14 (some (11, false)) (.move (.tmp 45))) (by kernel_rfl) (by kernel_rfl) (grd_op (d := 43) (by kernel_rfl) (by kernel_rfl) rfl rfl) (src_op (f := (eqF (.bool true))) 13 (by kernel_rfl) (by kernel_rfl) rfl) rfl)
    refine steps_snoc (k := 13) ?_ (s_op1 (i := 13) hP (g := (some (11, false))) (isOp_of (by kernel_rfl) : IsOp mt_o5 13 (some (11, false)) (.unOp .not 4 (.tmp 44))) (by kernel_rfl) (by kernel_rfl) (grd_op (d := 43) (by kernel_rfl) (by kernel_rfl) rfl rfl) (src_op (f := (eqF (.bool false))) 12 (by kernel_rfl) (by kernel_rfl) rfl) (fun ρ w hx => h_not rfl hx) rfl)
    refine steps_snoc (k := 12) ?_ (s_move (i := 12) hP (g := (some (11, false))) (isOp_of (by kernel_rfl) : IsOp mt_o5 12 (some (11, false)) (.move (.tmp 9))) (by kernel_rfl) (by kernel_rfl) (grd_op (d := 43) (by kernel_rfl) (by kernel_rfl) rfl rfl) (src_low hst 2 rfl (by kernel_rfl)) rfl)
    refine steps_snoc (k := 11) ?_ (s_move (i := 11) hP (g := none) (isOp_of (by kernel_rfl) : IsOp mt_o5 11 none (.move (.tmp 42))) (by kernel_rfl) (by kernel_rfl) (grd_none) (src_op (f := (eqF (.bool false))) 10 (by kernel_rfl) (by kernel_rfl) rfl) rfl)
    refine steps_snoc (k := 10) ?_ (s_pickF (i := 10) hP (g := none) (isOp_of (by kernel_rfl) : IsOp mt_o5 10 none (.pick (.tmp 35) (.const (.bool true)) (.tmp 41))) (by kernel_rfl) (by kernel_rfl) (grd_none) (src_op (f := (eqF (.bool false))) 3 (by kernel_rfl) (by kernel_rfl) rfl) (src_op (f := (eqF (.bool false))) 9 (by kernel_rfl) (by kernel_rfl) rfl) rfl)
    refine steps_snoc (k := 9) ?_ (s_pickF (i := 9) hP (g := (some (3, false))) (isOp_of (by kernel_rfl) : IsOp mt_o5 9 (some (3, false)) (.pick (.tmp 37) (.tmp 40) (.const (.bool false)))) (by kernel_rfl) (by kernel_rfl) (grd_op (d := 35) (by kernel_rfl) (by kernel_rfl) rfl rfl) (src_op (f := (eqF (.bool false))) 5 (by kernel_rfl) (by kernel_rfl) rfl) (src_const _) rfl)
    refine steps_snoc (k := 8) ?_ (s_skip (i := 8) hP (g := (some (5, true))) (isOp_of (by kernel_rfl) : IsOp mt_o5 8 (some (5, true)) (.binOp .neq 2 (.tmp 38) (.tmp 39) 2)) (by kernel_rfl) (by kernel_rfl) (grd_op (d := 37) (by kernel_rfl) (by kernel_rfl) rfl rfl) rfl)
    refine steps_snoc (k := 7) ?_ (s_skip (i := 7) hP (g := (some (5, true))) (isOp_of (by kernel_rfl) : IsOp mt_o5 7 (some (5, true)) (.move (.tmp 10))) (by kernel_rfl) (by kernel_rfl) (grd_op (d := 37) (by kernel_rfl) (by kernel_rfl) rfl rfl) rfl)
    refine steps_snoc (k := 6) ?_ (s_skip (i := 6) hP (g := (some (5, true))) (isOp_of (by kernel_rfl) : IsOp mt_o5 6 (some (5, true)) (.move (.tmp 8))) (by kernel_rfl) (by kernel_rfl) (grd_op (d := 37) (by kernel_rfl) (by kernel_rfl) rfl rfl) rfl)
    refine steps_snoc (k := 5) ?_ (s_move (i := 5) hP (g := (some (3, false))) (isOp_of (by kernel_rfl) : IsOp mt_o5 5 (some (3, false)) (.move (.tmp 36))) (by kernel_rfl) (by kernel_rfl) (grd_op (d := 35) (by kernel_rfl) (by kernel_rfl) rfl rfl) (src_op (f := (eqF (.bool false))) 4 (by kernel_rfl) (by kernel_rfl) rfl) rfl)
    refine steps_snoc (k := 4) ?_ (s_move (i := 4) hP (g := (some (3, false))) (isOp_of (by kernel_rfl) : IsOp mt_o5 4 (some (3, false)) (.move (.tmp 9))) (by kernel_rfl) (by kernel_rfl) (grd_op (d := 35) (by kernel_rfl) (by kernel_rfl) rfl rfl) (src_low hst 2 rfl (by kernel_rfl)) rfl)
    refine steps_snoc (k := 3) ?_ (s_move (i := 3) hP (g := none) (isOp_of (by kernel_rfl) : IsOp mt_o5 3 none (.move (.tmp 34))) (by kernel_rfl) (by kernel_rfl) (grd_none) (src_op (f := (eqF (.bool false))) 2 (by kernel_rfl) (by kernel_rfl) rfl) rfl)
    refine steps_snoc (k := 2) ?_ (s_op2 (i := 2) hP (g := none) (isOp_of (by kernel_rfl) : IsOp mt_o5 2 none (.binOp .neq 4 (.tmp 32) (.tmp 33) 4)) (by kernel_rfl) (by kernel_rfl) (grd_none) (src_op (f := (eqF (.bool false))) 0 (by kernel_rfl) (by kernel_rfl) rfl) (src_op (f := (eqF (.bool false))) 1 (by kernel_rfl) (by kernel_rfl) rfl) (fun ρ w hx hy => h_neqB rfl hx hy) rfl)
    refine steps_snoc (k := 1) ?_ (s_move (i := 1) hP (g := none) (isOp_of (by kernel_rfl) : IsOp mt_o5 1 none (.move (.tmp 11))) (by kernel_rfl) (by kernel_rfl) (grd_none) (src_low hst 4 rfl (by kernel_rfl)) rfl)
    refine steps_snoc (k := 0) ?_ (s_move (i := 0) hP (g := none) (isOp_of (by kernel_rfl) : IsOp mt_o5 0 none (.move (.tmp 9))) (by kernel_rfl) (by kernel_rfl) (grd_none) (src_low hst 2 rfl (by kernel_rfl)) rfl)
    exact steps_nil
  · intro m a w hI hm
    exact ⟨(low_fact hst 0 rfl (by kernel_rfl) hI), (out_op hI hm 18 50 _ (by kernel_rfl) rfl), trivial⟩
set_option maxRecDepth 100000 in
theorem mt_r7 {Q : Exit → Act → World → Prop} {Wb W0 : World} {a0 : Act} {r0 r1 : RawArg} (_hS : Sanity) (_ht : P10 Wb) (k0 : r0.Ok Wb) (k1 : r1.Ok Wb) (hst : St Wb 139 [(5, (eqF (.bool true))), (50, (eqF (.bool false)))] [(2, (rawBF r0)), (3, (rawBF r1)), (6, (boxIF r0.int)), (7, (boxIF r1.int))] a0 W0)
    (fin : ∀ a w, St Wb 139 [(5, (eqF (.bool true)))] [(2, (rawBF r0)), (3, (rawBF r1)), (6, (boxIF r0.int)), (7, (boxIF r1.int)), (12, (boxIF (r0.int + r1.int))), (13, (boxIF (r0.int - r1.int))), (14, (boxIF (r0.int * r1.int))), (15, (boxIF (-r0.int)))] a w → Q .normal a w) : (Code.region 7 mt_o7 true).wp Tryd.prog Q a0 W0 := by
  have hP : Plan mt_o7 139 ([⟨2, none, none, (rawBF r0), (rawBF r0)⟩, ⟨3, none, none, (rawBF r1), (rawBF r1)⟩, ⟨6, none, none, (boxIF r0.int), (boxIF r0.int)⟩, ⟨7, none, none, (boxIF r1.int), (boxIF r1.int)⟩, ⟨12, some 11, some 15, zeroIF, (boxIF (r0.int + r1.int))⟩, ⟨13, some 12, some 16, zeroIF, (boxIF (r0.int - r1.int))⟩, ⟨14, some 13, some 17, zeroIF, (boxIF (r0.int * r1.int))⟩, ⟨15, some 14, some 18, zeroIF, (boxIF (-r0.int))⟩] : List BoxS) [] := ⟨by kernel_rfl, by kernel_rfl, by kernel_rfl, by kernel_rfl, by kernel_rfl, by kernel_rfl⟩
  refine region_st (F := [(intF r0.int), (intF r1.int), (intF (r0.int + r1.int)), (intF r0.int), (intF r1.int), (intF (r0.int - r1.int)), (intF r0.int), (intF r1.int), (intF (r0.int * r1.int)), (intF r0.int), (intF (-r0.int)), anyF, anyF, anyF, anyF, anyF, anyF, anyF, anyF]) hP hst rfl rfl ?_ ?_ fin
  · show Steps mt_o7 139 Wb W0 a0 _ _ _ 19
    refine steps_snoc (k := 18) ?_ (s_store (i := 18) 7 _ (isOp_of (by kernel_rfl) : IsOp mt_o7 18 none (.store 27 (.tmp 15) (.tmp 61))) (by kernel_rfl) rfl rfl rfl (by kernel_rfl) (by kernel_rfl) (by kernel_rfl) (src_op (f := (intF (-r0.int))) 10 (by kernel_rfl) (by kernel_rfl) rfl) (storeI_zero _))
    refine steps_snoc (k := 17) ?_ (s_store (i := 17) 6 _ (isOp_of (by kernel_rfl) : IsOp mt_o7 17 none (.store 27 (.tmp 14) (.tmp 59))) (by kernel_rfl) rfl rfl rfl (by kernel_rfl) (by kernel_rfl) (by kernel_rfl) (src_op (f := (intF (r0.int * r1.int))) 8 (by kernel_rfl) (by kernel_rfl) rfl) (storeI_zero _))
    refine steps_snoc (k := 16) ?_ (s_store (i := 16) 5 _ (isOp_of (by kernel_rfl) : IsOp mt_o7 16 none (.store 27 (.tmp 13) (.tmp 56))) (by kernel_rfl) rfl rfl rfl (by kernel_rfl) (by kernel_rfl) (by kernel_rfl) (src_op (f := (intF (r0.int - r1.int))) 5 (by kernel_rfl) (by kernel_rfl) rfl) (storeI_zero _))
    refine steps_snoc (k := 15) ?_ (s_store (i := 15) 4 _ (isOp_of (by kernel_rfl) : IsOp mt_o7 15 none (.store 27 (.tmp 12) (.tmp 53))) (by kernel_rfl) rfl rfl rfl (by kernel_rfl) (by kernel_rfl) (by kernel_rfl) (src_op (f := (intF (r0.int + r1.int))) 2 (by kernel_rfl) (by kernel_rfl) rfl) (storeI_zero _))
    refine steps_snoc (k := 14) ?_ (s_alloc (i := 14) (d := 15) hP 7 _ (isOp_of (by kernel_rfl) : IsOp mt_o7 14 none (.alloc 27)) (by kernel_rfl) rfl rfl rfl (by kernel_rfl) (by kernel_rfl) (by kernel_rfl) (by kernel_rfl) rfl allocI_run allocI_old)
    refine steps_snoc (k := 13) ?_ (s_alloc (i := 13) (d := 14) hP 6 _ (isOp_of (by kernel_rfl) : IsOp mt_o7 13 none (.alloc 27)) (by kernel_rfl) rfl rfl rfl (by kernel_rfl) (by kernel_rfl) (by kernel_rfl) (by kernel_rfl) rfl allocI_run allocI_old)
    refine steps_snoc (k := 12) ?_ (s_alloc (i := 12) (d := 13) hP 5 _ (isOp_of (by kernel_rfl) : IsOp mt_o7 12 none (.alloc 27)) (by kernel_rfl) rfl rfl rfl (by kernel_rfl) (by kernel_rfl) (by kernel_rfl) (by kernel_rfl) rfl allocI_run allocI_old)
    refine steps_snoc (k := 11) ?_ (s_alloc (i := 11) (d := 12) hP 4 _ (isOp_of (by kernel_rfl) : IsOp mt_o7 11 none (.alloc 27)) (by kernel_rfl) rfl rfl rfl (by kernel_rfl) (by kernel_rfl) (by kernel_rfl) (by kernel_rfl) rfl allocI_run allocI_old)
    refine steps_snoc (k := 10) ?_ (s_call1 (i := 10) hP (g := none) (isOp_of (by kernel_rfl) : IsOp mt_o7 10 none (.call { callee := .value (.func 18), args := #[.tmp 60], argTypes := #[27] })) (by kernel_rfl) (by kernel_rfl) (grd_none) (src_op (f := (intF r0.int)) 9 (by kernel_rfl) (by kernel_rfl) rfl) mtpl_quadrature_integer_Neg (fun w v0 hb h0 => kNeg h0 k0.sm (by first | decide | assumption | omega)) rfl)
    refine steps_snoc (k := 9) ?_ (s_load (i := 9) hP (g := none) (isOp_of (by kernel_rfl) : IsOp mt_o7 9 none (.load 27 (.tmp 6))) (by kernel_rfl) (by kernel_rfl) (grd_none) (bsrc_old 2 _ rfl rfl rfl (by kernel_rfl) (by kernel_rfl)) (fun w q h => loadI_int w q h) rfl)
    refine steps_snoc (k := 8) ?_ (s_call2 (i := 8) hP (g := none) (isOp_of (by kernel_rfl) : IsOp mt_o7 8 none (.call { callee := .value (.func 17), args := #[.tmp 57, .tmp 58], argTypes := #[27, 27] })) (by kernel_rfl) (by kernel_rfl) (grd_none) (src_op (f := (intF r0.int)) 6 (by kernel_rfl) (by kernel_rfl) rfl) (src_op (f := (intF r1.int)) 7 (by kernel_rfl) (by kernel_rfl) rfl) mtpl_quadrature_integer_Mul (fun w v0 v1 hb h0 h1 => kMul h0 h1 k0.sm k1.sm (by first | decide | assumption | omega) (by first | decide | assumption | omega)) rfl)
    refine steps_snoc (k := 7) ?_ (s_load (i := 7) hP (g := none) (isOp_of (by kernel_rfl) : IsOp mt_o7 7 none (.load 27 (.tmp 7))) (by kernel_rfl) (by kernel_rfl) (grd_none) (bsrc_old 3 _ rfl rfl rfl (by kernel_rfl) (by kernel_rfl)) (fun w q h => loadI_int w q h) rfl)
    refine steps_snoc (k := 6) ?_ (s_load (i := 6) hP (g := none) (isOp_of (by kernel_rfl) : IsOp mt_o7 6 none (.load 27 (.tmp 6))) (by kernel_rfl) (by kernel_rfl) (grd_none) (bsrc_old 2 _ rfl rfl rfl (by kernel_rfl) (by kernel_rfl)) (fun w q h => loadI_int w q h) rfl)
    refine steps_snoc (k := 5) ?_ (s_call2 (i := 5) hP (g := none) (isOp_of (by kernel_rfl) : IsOp mt_o7 5 none (.call { callee := .value (.func 16), args := #[.tmp 54, .tmp 55], argTypes := #[27, 27] })) (by kernel_rfl) (by kernel_rfl) (grd_none) (src_op (f := (intF r0.int)) 3 (by kernel_rfl) (by kernel_rfl) rfl) (src_op (f := (intF r1.int)) 4 (by kernel_rfl) (by kernel_rfl) rfl) mtpl_quadrature_integer_Sub (fun w v0 v1 hb h0 h1 => kSub h0 h1 k0.sm k1.sm (by first | decide | assumption | omega) (by first | decide | assumption | omega)) rfl)
    refine steps_snoc (k := 4) ?_ (s_load (i := 4) hP (g := none) (isOp_of (by kernel_rfl) : IsOp mt_o7 4 none (.load 27 (.tmp 7))) (by kernel_rfl) (by kernel_rfl) (grd_none) (bsrc_old 3 _ rfl rfl rfl (by kernel_rfl) (by kernel_rfl)) (fun w q h => loadI_int w q h) rfl)
    refine steps_snoc (k := 3) ?_ (s_load (i := 3) hP (g := none) (isOp_of (by kernel_rfl) : IsOp mt_o7 3 none (.load 27 (.tmp 6))) (by kernel_rfl) (by kernel_rfl) (grd_none) (bsrc_old 2 _ rfl rfl rfl (by kernel_rfl) (by kernel_rfl)) (fun w q h => loadI_int w q h) rfl)
    refine steps_snoc (k := 2) ?_ (s_call2 (i := 2) hP (g := none) (isOp_of (by kernel_rfl) : IsOp mt_o7 2 none (.call { callee := .value (.func 15), args := #[.tmp 51, .tmp 52], argTypes := #[27, 27] })) (by kernel_rfl) (by kernel_rfl) (grd_none) (src_op (f := (intF r0.int)) 0 (by kernel_rfl) (by kernel_rfl) rfl) (src_op (f := (intF r1.int)) 1 (by kernel_rfl) (by kernel_rfl) rfl) mtpl_quadrature_integer_Add (fun w v0 v1 hb h0 h1 => kAdd h0 h1 k0.sm k1.sm (by first | decide | assumption | omega) (by first | decide | assumption | omega)) rfl)
    refine steps_snoc (k := 1) ?_ (s_load (i := 1) hP (g := none) (isOp_of (by kernel_rfl) : IsOp mt_o7 1 none (.load 27 (.tmp 7))) (by kernel_rfl) (by kernel_rfl) (grd_none) (bsrc_old 3 _ rfl rfl rfl (by kernel_rfl) (by kernel_rfl)) (fun w q h => loadI_int w q h) rfl)
    refine steps_snoc (k := 0) ?_ (s_load (i := 0) hP (g := none) (isOp_of (by kernel_rfl) : IsOp mt_o7 0 none (.load 27 (.tmp 6))) (by kernel_rfl) (by kernel_rfl) (grd_none) (bsrc_old 2 _ rfl rfl rfl (by kernel_rfl) (by kernel_rfl)) (fun w q h => loadI_int w q h) rfl)
    exact steps_nil
  · intro m a w hI hm
    exact ⟨(low_fact hst 0 rfl (by kernel_rfl) hI), trivial⟩
set_option maxRecDepth 100000 in
theorem mt_r8 {Q : Exit → Act → World → Prop} {Wb W0 : World} {a0 : Act} {r0 r1 : RawArg} (_hS : Sanity) (_ht : P10 Wb) (k0 : r0.Ok Wb) (k1 : r1.Ok Wb) (hst : St Wb 139 [(5, (eqF (.bool true)))] [(2, (rawBF r0)), (3, (rawBF r1)), (6, (boxIF r0.int)), (7, (boxIF r1.int)), (12, (boxIF (r0.int + r1.int))), (13, (boxIF (r0.int - r1.int))), (14, (boxIF (r0.int * r1.int))), (15, (boxIF (-r0.int)))] a0 W0)
    (fin : ∀ a w, St Wb 139 [(5, (eqF (.bool true))), (16, (eqF (.bool true)))] [(2, (rawBF r0)), (3, (rawBF r1)), (6, (boxIF r0.int)), (7, (boxIF r1.int)), (12, (boxIF (r0.int + r1.int))), (13, (boxIF (r0.int - r1.int))), (14, (boxIF (r0.int * r1.int))), (15, (boxIF (-r0.int)))] a w → Q .normal a w) : (Code.region 8 mt_o8 false).wp Tryd.prog Q a0 W0 := by
  have hP : Plan mt_o8 139 ([⟨2, none, none, (rawBF r0), (rawBF r0)⟩, ⟨3, none, none, (rawBF r1), (rawBF r1)⟩, ⟨6, none, none, (boxIF r0.int), (boxIF r0.int)⟩, ⟨7, none, none, (boxIF r1.int), (boxIF r1.int)⟩, ⟨12, none, none, (boxIF (r0.int + r1.int)), (boxIF (r0.int + r1.int))⟩, ⟨13, none, none, (boxIF (r0.int - r1.int)), (boxIF (r0.int - r1.int))⟩, ⟨14, none, none, (boxIF (r0.int * r1.int)), (boxIF (r0.int * r1.int))⟩, ⟨15, none, none, (boxIF (-r0.int)), (boxIF (-r0.int))⟩] : List BoxS) [] := ⟨by kernel_rfl, by kernel_rfl, by kernel_rfl, by kernel_rfl, by kernel_rfl, by kernel_rfl⟩
  refine region_st (F := [(intF (r0.int + r1.int)), (eqF (.bool true)), (eqF (.bool true)), (intF (r0.int - r1.int)), (eqF (.bool true)), (eqF (.bool true)), (eqF (.bool true)), (intF (r0.int * r1.int)), (eqF (.bool true)), (eqF (.bool true)), (eqF (.bool true)), (intF (-r0.int)), (eqF (.bool true)), (eqF (.bool true)), (eqF (.bool true)), (intF (r0.int + r1.int)), (eqF (.bool true)), (eqF (.bool true)), (eqF (.bool true)), (intF (r0.int - r1.int)), (eqF (.bool true)), (eqF (.bool true)), (eqF (.bool true)), (intF (r0.int * r1.int)), (eqF (.bool true)), (eqF (.bool true)), (eqF (.bool true)), (intF (-r0.int)), (eqF (.bool true)), (eqF (.bool true)), (eqF (.bool true))]) hP hst rfl rfl ?_ ?_ fin
  · show Steps mt_o8 139 Wb W0 a0 _ _ _ 31
    refine steps_snoc (k := 30) ?_ (s_assign (i := 30) hP (g := none) (isOp_of (by kernel_rfl) : IsOp mt_o8 30 none (.assign (.tmp 91))) (by kernel_rfl) (by kernel_rfl) (grd_none) (src_op (f := (eqF (.bool true))) 29 (by kernel_rfl) (by kernel_rfl) rfl) rfl)
    refine steps_snoc (k := 29) ?_ (s_pickT (i := 29) hP (g := none) (isOp_of (by kernel_rfl) : IsOp mt_o8 29 none (.pick (.tmp 88) (.tmp 90) (.const (.bool false)))) (by kernel_rfl) (by kernel_rfl) (grd_none) (src_op (f := (eqF (.bool true))) 26 (by kernel_rfl) (by kernel_rfl) rfl) (src_op (f := (eqF (.bool true))) 28 (by kernel_rfl) (by kernel_rfl) rfl) rfl)
    refine steps_snoc (k := 28) ?_ (s_call1 (i := 28) hP (g := (some (26, true))) (isOp_of (by kernel_rfl) : IsOp mt_o8 28 (some (26, true)) (.call { callee := .value (.func 20), args := #[.tmp 89], argTypes := #[27] })) (by kernel_rfl) (by kernel_rfl) (grd_op (d := 88) (by kernel_rfl) (by kernel_rfl) rfl rfl) (src_op (f := (intF (-r0.int))) 27 (by kernel_rfl) (by kernel_rfl) rfl) mtpl_quadrature_quadratureref01_Valid (fun w v0 hb h0 => kRValid h0 k0.sm.neg (by first | decide | assumption | omega)) rfl)
    refine steps_snoc (k := 27) ?_ (s_load (i := 27) hP (g := (some (26, true))) (isOp_of (by kernel_rfl) : IsOp mt_o8 27 (some (26, true)) (.load 27 (.tmp 15))) (by kernel_rfl) (by kernel_rfl) (grd_op (d := 88) (by kernel_rfl) (by kernel_rfl) rfl rfl) (bsrc_old 7 _ rfl rfl rfl (by kernel_rfl) (by kernel_rfl)) (fun w q h => loadI_int w q h) rfl)
    refine steps_snoc (k := 26) ?_ (s_move (i := 26) hP (g := none) (isOp_of (by kernel_rfl) : IsOp mt_o8 26 none (.move (.tmp 87))) (by kernel_rfl) (by kernel_rfl) (grd_none) (src_op (f := (eqF (.bool true))) 25 (by kernel_rfl) (by kernel_rfl) rfl) rfl)
    refine steps_snoc (k := 25) ?_ (s_pickT (i := 25) hP (g := none) (isOp_of (by kernel_rfl) : IsOp mt_o8 25 none (.pick (.tmp 84) (.tmp 86) (.const (.bool false)))) (by kernel_rfl) (by kernel_rfl) (grd_none) (src_op (f := (eqF (.bool true))) 22 (by kernel_rfl) (by kernel_rfl) rfl) (src_op (f := (eqF (.bool true))) 24 (by kernel_rfl) (by kernel_rfl) rfl) rfl)
    refine steps_snoc (k := 24) ?_ (s_call1 (i := 24) hP (g := (some (22, true))) (isOp_of (by kernel_rfl) : IsOp mt_o8 24 (some (22, true)) (.call { callee := .value (.func 20), args := #[.tmp 85], argTypes := #[27] })) (by kernel_rfl) (by kernel_rfl) (grd_op (d := 84) (by kernel_rfl) (by kernel_rfl) rfl rfl) (src_op (f := (intF (r0.int * r1.int))) 23 (by kernel_rfl) (by kernel_rfl) rfl) mtpl_quadrature_quadratureref01_Valid (fun w v0 hb h0 => kRValid h0 (k0.sm.mul k1.sm) (by first | decide | assumption | omega)) rfl)
    refine steps_snoc (k := 23) ?_ (s_load (i := 23) hP (g := (some (22, true))) (isOp_of (by kernel_rfl) : IsOp mt_o8 23 (some (22, true)) (.load 27 (.tmp 14))) (by kernel_rfl) (by kernel_rfl) (grd_op (d := 84) (by kernel_rfl) (by kernel_rfl) rfl rfl) (bsrc_old 6 _ rfl rfl rfl (by kernel_rfl) (by kernel_rfl)) (fun w q h => loadI_int w q h) rfl)
    refine steps_snoc (k := 22) ?_ (s_move (i := 22) hP (g := none) (isOp_of (by kernel_rfl) : IsOp mt_o8 22 none (.move (.tmp 83))) (by kernel_rfl) (by kernel_rfl) (grd_none) (src_op (f := (eqF (.bool true))) 21 (by kernel_rfl) (by kernel_rfl) rfl) rfl)
    refine steps_snoc (k := 21) ?_ (s_pickT (i := 21) hP (g := none) (isOp_of (by kernel_rfl) : IsOp mt_o8 21 none (.pick (.tmp 80) (.tmp 82) (.const (.bool false)))) (by kernel_rfl) (by kernel_rfl) (grd_none) (src_op (f := (eqF (.bool true))) 18 (by kernel_rfl) (by kernel_rfl) rfl) (src_op (f := (eqF (.bool true))) 20 (by kernel_rfl) (by kernel_rfl) rfl) rfl)
    refine steps_snoc (k := 20) ?_ (s_call1 (i := 20) hP (g := (some (18, true))) (isOp_of (by kernel_rfl) : IsOp mt_o8 20 (some (18, true)) (.call { callee := .value (.func 20), args := #[.tmp 81], argTypes := #[27] })) (by kernel_rfl) (by kernel_rfl) (grd_op (d := 80) (by kernel_rfl) (by kernel_rfl) rfl rfl) (src_op (f := (intF (r0.int - r1.int))) 19 (by kernel_rfl) (by kernel_rfl) rfl) mtpl_quadrature_quadratureref01_Valid (fun w v0 hb h0 => kRValid h0 (k0.sm.sub k1.sm) (by first | decide | assumption | omega)) rfl)
    refine steps_snoc (k := 19) ?_ (s_load (i := 19) hP (g := (some (18, true))) (isOp_of (by kernel_rfl) : IsOp mt_o8 19 (some (18, true)) (.load 27 (.tmp 13))) (by kernel_rfl) (by kernel_rfl) (grd_op (d := 80) (by kernel_rfl) (by kernel_rfl) rfl rfl) (bsrc_old 5 _ rfl rfl rfl (by kernel_rfl) (by kernel_rfl)) (fun w q h => loadI_int w q h) rfl)
    refine steps_snoc (k := 18) ?_ (s_move (i := 18) hP (g := none) (isOp_of (by kernel_rfl) : IsOp mt_o8 18 none (.move (.tmp 79))) (by kernel_rfl) (by kernel_rfl) (grd_none) (src_op (f := (eqF (.bool true))) 17 (by kernel_rfl) (by kernel_rfl) rfl) rfl)
    refine steps_snoc (k := 17) ?_ (s_pickT (i := 17) hP (g := none) (isOp_of (by kernel_rfl) : IsOp mt_o8 17 none (.pick (.tmp 76) (.tmp 78) (.const (.bool false)))) (by kernel_rfl) (by kernel_rfl) (grd_none) (src_op (f := (eqF (.bool true))) 14 (by kernel_rfl) (by kernel_rfl) rfl) (src_op (f := (eqF (.bool true))) 16 (by kernel_rfl) (by kernel_rfl) rfl) rfl)
    refine steps_snoc (k := 16) ?_ (s_call1 (i := 16) hP (g := (some (14, true))) (isOp_of (by kernel_rfl) : IsOp mt_o8 16 (some (14, true)) (.call { callee := .value (.func 20), args := #[.tmp 77], argTypes := #[27] })) (by kernel_rfl) (by kernel_rfl) (grd_op (d := 76) (by kernel_rfl) (by kernel_rfl) rfl rfl) (src_op (f := (intF (r0.int + r1.int))) 15 (by kernel_rfl) (by kernel_rfl) rfl) mtpl_quadrature_quadratureref01_Valid (fun w v0 hb h0 => kRValid h0 (k0.sm.add k1.sm) (by first | decide | assumption | omega)) rfl)
    refine steps_snoc (k := 15) ?_ (s_load (i := 15) hP (g := (some (14, true))) (isOp_of (by kernel_rfl) : IsOp mt_o8 15 (some (14, true)) (.load 27 (.tmp 12))) (by kernel_rfl) (by kernel_rfl) (grd_op (d := 76) (by kernel_rfl) (by kernel_rfl) rfl rfl) (bsrc_old 4 _ rfl rfl rfl (by kernel_rfl) (by kernel_rfl)) (fun w q h => loadI_int w q h) rfl)
    refine steps_snoc (k := 14) ?_ (s_move (i := 14) hP (g := none) (isOp_of (by kernel_rfl) : IsOp mt_o8 14 none (.move (.tmp 75))) (by kernel_rfl) (by kernel_rfl) (grd_none) (src_op (f := (eqF (.bool true))) 13 (by kernel_rfl) (by kernel_rfl) rfl) rfl)
    refine steps_snoc (k := 13) ?_ (s_pickT (i := 13) hP (g := none) (isOp_of (by kernel_rfl) : IsOp mt_o8 13 none (.pick (.tmp 72) (.tmp 74) (.const (.bool false)))) (by kernel_rfl) (by kernel_rfl) (grd_none) (src_op (f := (eqF (.bool true))) 10 (by kernel_rfl) (by kernel_rfl) rfl) (src_op (f := (eqF (.bool true))) 12 (by kernel_rfl) (by kernel_rfl) rfl) rfl)
    refine steps_snoc (k := 12) ?_ (s_call1 (i := 12) hP (g := (some (10, true))) (isOp_of (by kernel_rfl) : IsOp mt_o8 12 (some (10, true)) (.call { callee := .value (.func 19), args := #[.tmp 73], argTypes := #[27] })) (by kernel_rfl) (by kernel_rfl) (grd_op (d := 72) (by kernel_rfl) (by kernel_rfl) rfl rfl) (src_op (f := (intF (-r0.int))) 11 (by kernel_rfl) (by kernel_rfl) rfl) mtpl_quadrature_integer_Valid (fun w v0 hb h0 => kValid h0 k0.sm.neg (by first | decide | assumption | omega)) rfl)
    refine steps_snoc (k := 11) ?_ (s_load (i := 11) hP (g := (some (10, true))) (isOp_of (by kernel_rfl) : IsOp mt_o8 11 (some (10, true)) (.load 27 (.tmp 15))) (by kernel_rfl) (by kernel_rfl) (grd_op (d := 72) (by kernel_rfl) (by kernel_rfl) rfl rfl) (bsrc_old 7 _ rfl rfl rfl (by kernel_rfl) (by kernel_rfl)) (fun w q h => loadI_int w q h) rfl)
    refine steps_snoc (k := 10) ?_ (s_move (i := 10) hP (g := none) (isOp_of (by kernel_rfl) : IsOp mt_o8 10 none (.move (.tmp 71))) (by kernel_rfl) (by kernel_rfl) (grd_none) (src_op (f := (eqF (.bool true))) 9 (by kernel_rfl) (by kernel_rfl) rfl) rfl)
    refine steps_snoc (k := 9) ?_ (s_pickT (i := 9) hP (g := none) (isOp_of (by kernel_rfl) : IsOp mt_o8 9 none (.pick (.tmp 68) (.tmp 70) (.const (.bool false)))) (by kernel_rfl) (by kernel_rfl) (grd_none) (src_op (f := (eqF (.bool true))) 6 (by kernel_rfl) (by kernel_rfl) rfl) (src_op (f := (eqF (.bool true))) 8 (by kernel_rfl) (by kernel_rfl) rfl) rfl)
    refine steps_snoc (k := 8) ?_ (s_call1 (i := 8) hP (g := (some (6, true))) (isOp_of (by kernel_rfl) : IsOp mt_o8 8 (some (6, true)) (.call { callee := .value (.func 19), args := #[.tmp 69], argTypes := #[27] })) (by kernel_rfl) (by kernel_rfl) (grd_op (d := 68) (by kernel_rfl) (by kernel_rfl) rfl rfl) (src_op (f := (intF (r0.int * r1.int))) 7 (by kernel_rfl) (by kernel_rfl) rfl) mtpl_quadrature_integer_Valid (fun w v0 hb h0 => kValid h0 (k0.sm.mul k1.sm) (by first | decide | assumption | omega)) rfl)
    refine steps_snoc (k := 7) ?_ (s_load (i := 7) hP (g := (some (6, true))) (isOp_of (by kernel_rfl) : IsOp mt_o8 7 (some (6, true)) (.load 27 (.tmp 14))) (by kernel_rfl) (by kernel_rfl) (grd_op (d := 68) (by kernel_rfl) (by kernel_rfl) rfl rfl) (bsrc_old 6 _ rfl rfl rfl (by kernel_rfl) (by kernel_rfl)) (fun w q h => loadI_int w q h) rfl)
    refine steps_snoc (k := 6) ?_ (s_move (i := 6) hP (g := none) (isOp_of (by kernel_rfl) : IsOp mt_o8 6 none (.move (.tmp 67))) (by kernel_rfl) (by kernel_rfl) (grd_none) (src_op (f := (eqF (.bool true))) 5 (by kernel_rfl) (by kernel_rfl) rfl) rfl)
    refine steps_snoc (k := 5) ?_ (s_pickT (i := 5) hP (g := none) (isOp_of (by kernel_rfl) : IsOp mt_o8 5 none (.pick (.tmp 64) (.tmp 66) (.const (.bool false)))) (by kernel_rfl) (by kernel_rfl) (grd_none) (src_op (f := (eqF (.bool true))) 2 (by kernel_rfl) (by kernel_rfl) rfl) (src_op (f := (eqF (.bool true))) 4 (by kernel_rfl) (by kernel_rfl) rfl) rfl)
    refine steps_snoc (k := 4) ?_ (s_call1 (i := 4) hP (g := (some (2, true))) (isOp_of (by kernel_rfl) : IsOp mt_o8 4 (some (2, true)) (.call { callee := .value (.func 19), args := #[.tmp 65], argTypes := #[27] })) (by kernel_rfl) (by kernel_rfl) (grd_op (d := 64) (by kernel_rfl) (by kernel_rfl) rfl rfl) (src_op (f := (intF (r0.int - r1.int))) 3 (by kernel_rfl) (by kernel_rfl) rfl) mtpl_quadrature_integer_Valid (fun w v0 hb h0 => kValid h0 (k0.sm.sub k1.sm) (by first | decide | assumption | omega)) rfl)
    refine steps_snoc (k := 3) ?_ (s_load (i := 3) hP (g := (some (2, true))) (isOp_of (by kernel_rfl) : IsOp mt_o8 3 (some (2, true)) (.load 27 (.tmp 13))) (by kernel_rfl) (by kernel_rfl) (grd_op (d := 64) (by kernel_rfl) (by kernel_rfl) rfl rfl) (bsrc_old 5 _ rfl rfl rfl (by kernel_rfl) (by kernel_rfl)) (fun w q h => loadI_int w q h) rfl)
    refine steps_snoc (k := 2) ?_ (s_move (i := 2) hP (g := none) (isOp_of (by kernel_rfl) : IsOp mt_o8 2 none (.move (.tmp 63))) (by kernel_rfl) (by kernel_rfl) (grd_none) (src_op (f := (eqF (.bool true))) 1 (by kernel_rfl) (by kernel_rfl) rfl) rfl)
    refine steps_snoc (k := 1) ?_ (s_call1 (i := 1) hP (g := none) (isOp_of (by kernel_rfl) : IsOp mt_o8 1 none (.call { callee := .value (.func 19), args := #[.tmp 62], argTypes := #[27] })) (by kernel_rfl) (by kernel_rfl) (grd_none) (src_op (f := (intF (r0.int + r1.int))) 0 (by kernel_rfl) (by kernel_rfl) rfl) mtpl_quadrature_integer_Valid (fun w v0 hb h0 => kValid h0 (k0.sm.add k1.sm) (by first | decide | assumption | omega)) rfl)
    refine steps_snoc (k := 0) ?_ (s_load (i := 0) hP (g := none) (isOp_of (by kernel_rfl) : IsOp mt_o8 0 none (.load 27 (.tmp 12))) (by kernel_rfl) (by kernel_rfl) (grd_none) (bsrc_old 4 _ rfl rfl rfl (by kernel_rfl) (by kernel_rfl)) (fun w q h => loadI_int w q h) rfl)
    exact steps_nil
  · intro m a w hI hm
    exact ⟨(low_fact hst 0 rfl (by kernel_rfl) hI), (out_op hI hm 30 16 _ (by kernel_rfl) rfl), trivial⟩
set_option maxRecDepth 100000 in
theorem mt_r9 {Q : Exit → Act → World → Prop} {Wb W0 : World} {a0 : Act} {r0 r1 : RawArg} (_hS : Sanity) (_ht : P10 Wb) (k0 : r0.Ok Wb) (k1 : r1.Ok Wb) (hst : St Wb 139 [(5, (eqF (.bool true))), (16, (eqF (.bool true)))] [(2, (rawBF r0)), (3, (rawBF r1)), (6, (boxIF r0.int)), (7, (boxIF r1.int)), (12, (boxIF (r0.int + r1.int))), (13, (boxIF (r0.int - r1.int))), (14, (boxIF (r0.int * r1.int))), (15, (boxIF (-r0.int)))] a0 W0)
    (fin : ∀ a w, St Wb 139 [(4, (eqF (.bool true)))] [(2, (rawBF r0)), (3, (rawBF r1)), (6, (boxIF r0.int)), (7, (boxIF r1.int)), (12, (boxIF (r0.int + r1.int))), (13, (boxIF (r0.int - r1.int))), (14, (boxIF (r0.int * r1.int))), (15, (boxIF (-r0.int)))] a w → Q .normal a w) : (Code.region 9 mt_o9 true).wp Tryd.prog Q a0 W0 := by
  have hP : Plan mt_o9 139 ([⟨2, none, none, (rawBF r0), (rawBF r0)⟩, ⟨3, none, none, (rawBF r1), (rawBF r1)⟩, ⟨6, none, none, (boxIF r0.int), (boxIF r0.int)⟩, ⟨7, none, none, (boxIF r1.int), (boxIF r1.int)⟩, ⟨12, none, none, (boxIF (r0.int + r1.int)), (boxIF (r0.int + r1.int))⟩, ⟨13, none, none, (boxIF (r0.int - r1.int)), (boxIF (r0.int - r1.int))⟩, ⟨14, none, none, (boxIF (r0.int * r1.int)), (boxIF (r0.int * r1.int))⟩, ⟨15, none, none, (boxIF (-r0.int)), (boxIF (-r0.int))⟩] : List BoxS) [] := ⟨by kernel_rfl, by kernel_rfl, by kernel_rfl, by kernel_rfl, by kernel_rfl, by kernel_rfl⟩
  refine region_st (F := [(eqF (.bool true)), (eqF (.bool true)), (intF (r0.int + r1.int)), (intF r0.int), (intF r1.int), (intF (r0.int + r1.int)), (eqF (.bool true)), (eqF (.bool true)), (eqF (.bool true)), (intF (r0.int - r1.int)), (intF r0.int), (intF r1.int), (intF (r0.int - r1.int)), (eqF (.bool true)), (eqF (.bool true)), (eqF (.bool true)), (intF (r0.int * r1.int)), (intF r0.int), (intF r1.int), (intF (r0.int * r1.int)), (eqF (.bool true)), (eqF (.bool true)), (eqF (.bool true)), (intF (-r0.int)), (intF r0.int), (intF (-r0.int)), (eqF (.bool true)), (eqF (.bool true)), (eqF (.bool true)), (intF r0.int), (intF r1.int), (eqF (.int .i64 (cmpI r0.int r1.int))), (intF r0.int), (intF r1.int), (eqF (.int .i64 (Int.sign (r0.int - r1.int)))), (eqF (.bool true)), (eqF (.bool true)), (eqF (.bool true)), (intF r0.int), (eqF (.int .i64 (Int.sign r0.int))), (intF r0.int), (eqF (.int .i64 (Int.sign r0.int))), (eqF (.bool true)), (eqF (.bool true)), (eqF (.bool true)), (eqF (.bool true)), (eqF (.bool true)), (eqF (.bool true))]) hP hst rfl rfl ?_ ?_ fin
  · show Steps mt_o9 139 Wb W0 a0 _ _ _ 48
    refine steps_snoc (k := 47) ?_ (s_assign (i := 47) hP (g := none) (isOp_of (by kernel_rfl) : IsOp mt_o9 47 none (.assign (.tmp 138))) (by kernel_rfl) (by kernel_rfl) (grd_none) (src_op (f := (eqF (.bool true))) 46 (by kernel_rfl) (by kernel_rfl) rfl) rfl)
    refine steps_snoc (k := 46) ?_ (s_pickT (i := 46) hP (g := none) (isOp_of (by kernel_rfl) : IsOp mt_o9 46 none (.pick (.tmp 136) (.tmp 137) (.const (.bool false)))) (by kernel_rfl) (by kernel_rfl) (grd_none) (src_op (f := (eqF (.bool true))) 44 (by kernel_rfl) (by kernel_rfl) rfl) (src_op (f := (eqF (.bool true))) 45 (by kernel_rfl) (by kernel_rfl) rfl) rfl)
    refine steps_snoc (k := 45) ?_ (s_move (i := 45) hP (g := (some (44, true))) (isOp_of (by kernel_rfl) : IsOp mt_o9 45 (some (44, true)) (.move (.tmp 5))) (by kernel_rfl) (by kernel_rfl) (grd_op (d := 136) (by kernel_rfl) (by kernel_rfl) rfl rfl) (src_low hst 0 rfl (by kernel_rfl)) rfl)
    refine steps_snoc (k := 44) ?_ (s_move (i := 44) hP (g := none) (isOp_of (by kernel_rfl) : IsOp mt_o9 44 none (.move (.tmp 135))) (by kernel_rfl) (by kernel_rfl) (grd_none) (src_op (f := (eqF (.bool true))) 43 (by kernel_rfl) (by kernel_rfl) rfl) rfl)
    refine steps_snoc (k := 43) ?_ (s_pickT (i := 43) hP (g := none) (isOp_of (by kernel_rfl) : IsOp mt_o9 43 none (.pick (.tmp 129) (.tmp 134) (.const (.bool false)))) (by kernel_rfl) (by kernel_rfl) (grd_none) (src_op (f := (eqF (.bool true))) 37 (by kernel_rfl) (by kernel_rfl) rfl) (src_op (f := (eqF (.bool true))) 42 (by kernel_rfl) (by kernel_rfl) rfl) rfl)
    refine steps_snoc (k := 42) ?_ (s_op2 (i := 42) hP (g := (some (37, true))) (isOp_of (by kernel_rfl) : IsOp mt_o9 42 (some (37, true)) (.binOp .eql 3 (.tmp 131) (.tmp 133) 3)) (by kernel_rfl) (by kernel_rfl) (grd_op (d := 129) (by kernel_rfl) (by kernel_rfl) rfl rfl) (src_op (f := (eqF (.int .i64 (Int.sign r0.int)))) 39 (by kernel_rfl) (by kernel_rfl) rfl) (src_op (f := (eqF (.int .i64 (Int.sign r0.int)))) 41 (by kernel_rfl) (by kernel_rfl) rfl) (fun ρ w hx hy => h_eqlI (r := true) (cmp_self _) hx hy) rfl)
    refine steps_snoc (k := 41) ?_ (s_call1 (i := 41) hP (g := (some (37, true))) (isOp_of (by kernel_rfl) : IsOp mt_o9 41 (some (37, true)) (.call { callee := .value (.func 29), args := #[.tmp 132], argTypes := #[27] })) (by kernel_rfl) (by kernel_rfl) (grd_op (d := 129) (by kernel_rfl) (by kernel_rfl) rfl rfl) (src_op (f := (intF r0.int)) 40 (by kernel_rfl) (by kernel_rfl) rfl) mtpl_quadrature_quadratureref01_Sign (fun w v0 hb h0 => kRSign h0 k0.sm (by first | decide | assumption | omega)) rfl)
    refine steps_snoc (k := 40) ?_ (s_load (i := 40) hP (g := (some (37, true))) (isOp_of (by kernel_rfl) : IsOp mt_o9 40 (some (37, true)) (.load 27 (.tmp 6))) (by kernel_rfl) (by kernel_rfl) (grd_op (d := 129) (by kernel_rfl) (by kernel_rfl) rfl rfl) (bsrc_old 2 _ rfl rfl rfl (by kernel_rfl) (by kernel_rfl)) (fun w q h => loadI_int w q h) rfl)
    refine steps_snoc (k := 39) ?_ (s_call1 (i := 39) hP (g := (some (37, true))) (isOp_of (by kernel_rfl) : IsOp mt_o9 39 (some (37, true)) (.call { callee := .value (.func 28), args := #[.tmp 130], argTypes := #[27] })) (by kernel_rfl) (by kernel_rfl) (grd_op (d := 129) (by kernel_rfl) (by kernel_rfl) rfl rfl) (src_op (f := (intF r0.int)) 38 (by kernel_rfl) (by kernel_rfl) rfl) mtpl_quadrature_integer_Sign (fun w v0 hb h0 => kSign h0 k0.sm (by first | decide | assumption | omega)) rfl)
    refine steps_snoc (k := 38) ?_ (s_load (i := 38) hP (g := (some (37, true))) (isOp_of (by kernel_rfl) : IsOp mt_o9 38 (some (37, true)) (.load 27 (.tmp 6))) (by kernel_rfl) (by kernel_rfl) (grd_op (d := 129) (by kernel_rfl) (by kernel_rfl) rfl rfl) (bsrc_old 2 _ rfl rfl rfl (by kernel_rfl) (by kernel_rfl)) (fun w q h => loadI_int w q h) rfl)
    refine steps_snoc (k := 37) ?_ (s_move (i := 37) hP (g := none) (isOp_of (by kernel_rfl) : IsOp mt_o9 37 none (.move (.tmp 128))) (by kernel_rfl) (by kernel_rfl) (grd_none) (src_op (f := (eqF (.bool true))) 36 (by kernel_rfl) (by kernel_rfl) rfl) rfl)
    refine steps_snoc (k := 36) ?_ (s_pickT (i := 36) hP (g := none) (isOp_of (by kernel_rfl) : IsOp mt_o9 36 none (.pick (.tmp 120) (.tmp 127) (.const (.bool false)))) (by kernel_rfl) (by kernel_rfl) (grd_none) (src_op (f := (eqF (.bool true))) 28 (by kernel_rfl) (by kernel_rfl) rfl) (src_op (f := (eqF (.bool true))) 35 (by kernel_rfl) (by kernel_rfl) rfl) rfl)
    refine steps_snoc (k := 35) ?_ (s_op2 (i := 35) hP (g := (some (28, true))) (isOp_of (by kernel_rfl) : IsOp mt_o9 35 (some (28, true)) (.binOp .eql 3 (.tmp 123) (.tmp 126) 3)) (by kernel_rfl) (by kernel_rfl) (grd_op (d := 120) (by kernel_rfl) (by kernel_rfl) rfl rfl) (src_op (f := (eqF (.int .i64 (cmpI r0.int r1.int)))) 31 (by kernel_rfl) (by kernel_rfl) rfl) (src_op (f := (eqF (.int .i64 (Int.sign (r0.int - r1.int))))) 34 (by kernel_rfl) (by kernel_rfl) rfl) (fun ρ w hx hy => h_eqlI (r := true) (cmp_sign _ _) hx hy) rfl)
    refine steps_snoc (k := 34) ?_ (s_call2 (i := 34) hP (g := (some (28, true))) (isOp_of (by kernel_rfl) : IsOp mt_o9 34 (some (28, true)) (.call { callee := .value (.func 27), args := #[.tmp 124, .tmp 125], argTypes := #[27, 27] })) (by kernel_rfl) (by kernel_rfl) (grd_op (d := 120) (by kernel_rfl) (by kernel_rfl) rfl rfl) (src_op (f := (intF r0.int)) 32 (by kernel_rfl) (by kernel_rfl) rfl) (src_op (f := (intF r1.int)) 33 (by kernel_rfl) (by kernel_rfl) rfl) mtpl_quadrature_quadratureref01_Cmp (fun w v0 v1 hb h0 h1 => kRCmp h0 h1 k0.sm k1.sm (by first | decide | assumption | omega) (by first | decide | assumption | omega)) rfl)
    refine steps_snoc (k := 33) ?_ (s_load (i := 33) hP (g := (some (28, true))) (isOp_of (by kernel_rfl) : IsOp mt_o9 33 (some (28, true)) (.load 27 (.tmp 7))) (by kernel_rfl) (by kernel_rfl) (grd_op (d := 120) (by kernel_rfl) (by kernel_rfl) rfl rfl) (bsrc_old 3 _ rfl rfl rfl (by kernel_rfl) (by kernel_rfl)) (fun w q h => loadI_int w q h) rfl)
    refine steps_snoc (k := 32) ?_ (s_load (i := 32) hP (g := (some (28, true))) (isOp_of (by kernel_rfl) : IsOp mt_o9 32 (some (28, true)) (.load 27 (.tmp 6))) (by kernel_rfl) (by kernel_rfl) (grd_op (d := 120) (by kernel_rfl) (by kernel_rfl) rfl rfl) (bsrc_old 2 _ rfl rfl rfl (by kernel_rfl) (by kernel_rfl)) (fun w q h => loadI_int w q h) rfl)
    refine steps_snoc (k := 31) ?_ (s_call2 (i := 31) hP (g := (some (28, true))) (isOp_of (by kernel_rfl) : IsOp mt_o9 31 (some (28, true)) (.call { callee := .value (.func 26), args := #[.tmp 121, .tmp 122], argTypes := #[27, 27] })) (by kernel_rfl) (by kernel_rfl) (grd_op (d := 120) (by kernel_rfl) (by kernel_rfl) rfl rfl) (src_op (f := (intF r0.int)) 29 (by kernel_rfl) (by kernel_rfl) rfl) (src_op (f := (intF r1.int)) 30 (by kernel_rfl) (by kernel_rfl) rfl) mtpl_quadrature_integer_Cmp (fun w v0 v1 hb h0 h1 => kCmp h0 h1 k0.sm k1.sm (by first | decide | assumption | omega) (by first | decide | assumption | omega)) rfl)
    refine steps_snoc (k := 30) ?_ (s_load (i := 30) hP (g := (some (28, true))) (isOp_of (by kernel_rfl) : IsOp mt_o9 30 (some (28, true)) (.load 27 (.tmp 7))) (by kernel_rfl) (by kernel_rfl) (grd_op (d := 120) (by kernel_rfl) (by kernel_rfl) rfl rfl) (bsrc_old 3 _ rfl rfl rfl (by kernel_rfl) (by kernel_rfl)) (fun w q h => loadI_int w q h) rfl)
    refine steps_snoc (k := 29) ?_ (s_load (i := 29) hP (g := (some (28, true))) (isOp_of (by kernel_rfl) : IsOp mt_o9 29 (some (28, true)) (.load 27 (.tmp 6))) (by kernel_rfl) (by kernel_rfl) (grd_op (d := 120) (by kernel_rfl) (by kernel_rfl) rfl rfl) (bsrc_old 2 _ rfl rfl rfl (by kernel_rfl) (by kernel_rfl)) (fun w q h => loadI_int w q h) rfl)
    refine steps_snoc (k := 28) ?_ (s_move (i := 28) hP (g := none) (isOp_of (by kernel_rfl) : IsOp mt_o9 28 none (.move (.tmp 119))) (by kernel_rfl) (by kernel_rfl) (grd_none) (src_op (f := (eqF (.bool true))) 27 (by kernel_rfl) (by kernel_rfl) rfl) rfl)
    refine steps_snoc (k := 27) ?_ (s_pickT (i := 27) hP (g := none) (isOp_of (by kernel_rfl) : IsOp mt_o9 27 none (.pick (.tmp 114) (.tmp 118) (.const (.bool false)))) (by kernel_rfl) (by kernel_rfl) (grd_none) (src_op (f := (eqF (.bool true))) 22 (by kernel_rfl) (by kernel_rfl) rfl) (src_op (f := (eqF (.bool true))) 26 (by kernel_rfl) (by kernel_rfl) rfl) rfl)
    refine steps_snoc (k := 26) ?_ (s_call2 (i := 26) hP (g := (some (22, true))) (isOp_of (by kernel_rfl) : IsOp mt_o9 26 (some (22, true)) (.call { callee := .value (.func 21), args := #[.tmp 115, .tmp 117], argTypes := #[27, 27] })) (by kernel_rfl) (by kernel_rfl) (grd_op (d := 114) (by kernel_rfl) (by kernel_rfl) rfl rfl) (src_op (f := (intF (-r0.int))) 23 (by kernel_rfl) (by kernel_rfl) rfl) (src_op (f := (intF (-r0.int))) 25 (by kernel_rfl) (by kernel_rfl) rfl) mtpl_quadrature_quadratureref01_Same (fun w v0 v1 hb h0 h1 => kSameT h0 h1 k0.sm.neg k0.sm.neg (by first | decide | assumption | omega) (by first | decide | assumption | omega) rfl) rfl)
    refine steps_snoc (k := 25) ?_ (s_call1 (i := 25) hP (g := (some (22, true))) (isOp_of (by kernel_rfl) : IsOp mt_o9 25 (some (22, true)) (.call { callee := .value (.func 25), args := #[.tmp 116], argTypes := #[27] })) (by kernel_rfl) (by kernel_rfl) (grd_op (d := 114) (by kernel_rfl) (by kernel_rfl) rfl rfl) (src_op (f := (intF r0.int)) 24 (by kernel_rfl) (by kernel_rfl) rfl) mtpl_quadrature_quadratureref01_Neg (fun w v0 hb h0 => kRNeg h0 k0.sm (by first | decide | assumption | omega)) rfl)
    refine steps_snoc (k := 24) ?_ (s_load (i := 24) hP (g := (some (22, true))) (isOp_of (by kernel_rfl) : IsOp mt_o9 24 (some (22, true)) (.load 27 (.tmp 6))) (by kernel_rfl) (by kernel_rfl) (grd_op (d := 114) (by kernel_rfl) (by kernel_rfl) rfl rfl) (bsrc_old 2 _ rfl rfl rfl (by kernel_rfl) (by kernel_rfl)) (fun w q h => loadI_int w q h) rfl)
    refine steps_snoc (k := 23) ?_ (s_load (i := 23) hP (g := (some (22, true))) (isOp_of (by kernel_rfl) : IsOp mt_o9 23 (some (22, true)) (.load 27 (.tmp 15))) (by kernel_rfl) (by kernel_rfl) (grd_op (d := 114) (by kernel_rfl) (by kernel_rfl) rfl rfl) (bsrc_old 7 _ rfl rfl rfl (by kernel_rfl) (by kernel_rfl)) (fun w q h => loadI_int w q h) rfl)
    refine steps_snoc (k := 22) ?_ (s_move (i := 22) hP (g := none) (isOp_of (by kernel_rfl) : IsOp mt_o9 22 none (.move (.tmp 113))) (by kernel_rfl) (by kernel_rfl) (grd_none) (src_op (f := (eqF (.bool true))) 21 (by kernel_rfl) (by kernel_rfl) rfl) rfl)
    refine steps_snoc (k := 21) ?_ (s_pickT (i := 21) hP (g := none) (isOp_of (by kernel_rfl) : IsOp mt_o9 21 none (.pick (.tmp 107) (.tmp 112) (.const (.bool false)))) (by kernel_rfl) (by kernel_rfl) (grd_none) (src_op (f := (eqF (.bool true))) 15 (by kernel_rfl) (by kernel_rfl) rfl) (src_op (f := (eqF (.bool true))) 20 (by kernel_rfl) (by kernel_rfl) rfl) rfl)
    refine steps_snoc (k := 20) ?_ (s_call2 (i := 20) hP (g := (some (15, true))) (isOp_of (by kernel_rfl) : IsOp mt_o9 20 (some (15, true)) (.call { callee := .value (.func 21), args := #[.tmp 108, .tmp 111], argTypes := #[27, 27] })) (by kernel_rfl) (by kernel_rfl) (grd_op (d := 107) (by kernel_rfl) (by kernel_rfl) rfl rfl) (src_op (f := (intF (r0.int * r1.int))) 16 (by kernel_rfl) (by kernel_rfl) rfl) (src_op (f := (intF (r0.int * r1.int))) 19 (by kernel_rfl) (by kernel_rfl) rfl) mtpl_quadrature_quadratureref01_Same (fun w v0 v1 hb h0 h1 => kSameT h0 h1 (k0.sm.mul k1.sm) (k0.sm.mul k1.sm) (by first | decide | assumption | omega) (by first | decide | assumption | omega) rfl) rfl)
    refine steps_snoc (k := 19) ?_ (s_call2 (i := 19) hP (g := (some (15, true))) (isOp_of (by kernel_rfl) : IsOp mt_o9 19 (some (15, true)) (.call { callee := .value (.func 24), args := #[.tmp 109, .tmp 110], argTypes := #[27, 27] })) (by kernel_rfl) (by kernel_rfl) (grd_op (d := 107) (by kernel_rfl) (by kernel_rfl) rfl rfl) (src_op (f := (intF r0.int)) 17 (by kernel_rfl) (by kernel_rfl) rfl) (src_op (f := (intF r1.int)) 18 (by kernel_rfl) (by kernel_rfl) rfl) mtpl_quadrature_quadratureref01_Mul (fun w v0 v1 hb h0 h1 => kRMul h0 h1 k0.sm k1.sm (by first | decide | assumption | omega) (by first | decide | assumption | omega)) rfl)
    refine steps_snoc (k := 18) ?_ (s_load (i := 18) hP (g := (some (15, true))) (isOp_of (by kernel_rfl) : IsOp mt_o9 18 (some (15, true)) (.load 27 (.tmp 7))) (by kernel_rfl) (by kernel_rfl) (grd_op (d := 107) (by kernel_rfl) (by kernel_rfl) rfl rfl) (bsrc_old 3 _ rfl rfl rfl (by kernel_rfl) (by kernel_rfl)) (fun w q h => loadI_int w q h) rfl)
    refine steps_snoc (k := 17) ?_ (s_load (i := 17) hP (g := (some (15, true))) (isOp_of (by kernel_rfl) : IsOp mt_o9 17 (some (15, true)) (.load 27 (.tmp 6))) (by kernel_rfl) (by kernel_rfl) (grd_op (d := 107) (by kernel_rfl) (by kernel_rfl) rfl rfl) (bsrc_old 2 _ rfl rfl rfl (by kernel_rfl) (by kernel_rfl)) (fun w q h => loadI_int w q h) rfl)
    refine steps_snoc (k := 16) ?_ (s_load (i := 16) hP (g := (some (15, true))) (isOp_of (by kernel_rfl) : IsOp mt_o9 16 (some (15, true)) (.load 27 (.tmp 14))) (by kernel_rfl) (by kernel_rfl) (grd_op (d := 107) (by kernel_rfl) (by kernel_rfl) rfl rfl) (bsrc_old 6 _ rfl rfl rfl (by kernel_rfl) (by kernel_rfl)) (fun w q h => loadI_int w q h) rfl)
    refine steps_snoc (k := 15) ?_ (s_move (i := 15) hP (g := none) (isOp_of (by kernel_rfl) : IsOp mt_o9 15 none (.move (.tmp 106))) (by kernel_rfl) (by kernel_rfl) (grd_none) (src_op (f := (eqF (.bool true))) 14 (by kernel_rfl) (by kernel_rfl) rfl) rfl)
    refine steps_snoc (k := 14) ?_ (s_pickT (i := 14) hP (g := none) (isOp_of (by kernel_rfl) : IsOp mt_o9 14 none (.pick (.tmp 100) (.tmp 105) (.const (.bool false)))) (by kernel_rfl) (by kernel_rfl) (grd_none) (src_op (f := (eqF (.bool true))) 8 (by kernel_rfl) (by kernel_rfl) rfl) (src_op (f := (eqF (.bool true))) 13 (by kernel_rfl) (by kernel_rfl) rfl) rfl)
    refine steps_snoc (k := 13) ?_ (s_call2 (i := 13) hP (g := (some (8, true))) (isOp_of (by kernel_rfl) : IsOp mt_o9 13 (some (8, true)) (.call { callee := .value (.func 21), args := #[.tmp 101, .tmp 104], argTypes := #[27, 27] })) (by kernel_rfl) (by kernel_rfl) (grd_op (d := 100) (by kernel_rfl) (by kernel_rfl) rfl rfl) (src_op (f := (intF (r0.int - r1.int))) 9 (by kernel_rfl) (by kernel_rfl) rfl) (src_op (f := (intF (r0.int - r1.int))) 12 (by kernel_rfl) (by kernel_rfl) rfl) mtpl_quadrature_quadratureref01_Same (fun w v0 v1 hb h0 h1 => kSameT h0 h1 (k0.sm.sub k1.sm) (k0.sm.sub k1.sm) (by first | decide | assumption | omega) (by first | decide | assumption | omega) rfl) rfl)
    refine steps_snoc (k := 12) ?_ (s_call2 (i := 12) hP (g := (some (8, true))) (isOp_of (by kernel_rfl) : IsOp mt_o9 12 (some (8, true)) (.call { callee := .value (.func 23), args := #[.tmp 102, .tmp 103], argTypes := #[27, 27] })) (by kernel_rfl) (by kernel_rfl) (grd_op (d := 100) (by kernel_rfl) (by kernel_rfl) rfl rfl) (src_op (f := (intF r0.int)) 10 (by kernel_rfl) (by kernel_rfl) rfl) (src_op (f := (intF r1.int)) 11 (by kernel_rfl) (by kernel_rfl) rfl) mtpl_quadrature_quadratureref01_Sub (fun w v0 v1 hb h0 h1 => kRSub h0 h1 k0.sm k1.sm (by first | decide | assumption | omega) (by first | decide | assumption | omega)) rfl)
    refine steps_snoc (k := 11) ?_ (s_load (i := 11) hP (g := (some (8, true))) (isOp_of (by kernel_rfl) : IsOp mt_o9 11 (some (8, true)) (.load 27 (.tmp 7))) (by kernel_rfl) (by kernel_rfl) (grd_op (d := 100) (by kernel_rfl) (by kernel_rfl) rfl rfl) (bsrc_old 3 _ rfl rfl rfl (by kernel_rfl) (by kernel_rfl)) (fun w q h => loadI_int w q h) rfl)
    refine steps_snoc (k := 10) ?_ (s_load (i := 10) hP (g := (some (8, true))) (isOp_of (by kernel_rfl) : IsOp mt_o9 10 (some (8, true)) (.load 27 (.tmp 6))) (by kernel_rfl) (by kernel_rfl) (grd_op (d := 100) (by kernel_rfl) (by kernel_rfl) rfl rfl) (bsrc_old 2 _ rfl rfl rfl (by kernel_rfl) (by kernel_rfl)) (fun w q h => loadI_int w q h) rfl)
    refine steps_snoc (k := 9) ?_ (s_load (i := 9) hP (g := (some (8, true))) (isOp_of (by kernel_rfl) : IsOp mt_o9 9 (some (8, true)) (.load 27 (.tmp 13))) (by kernel_rfl) (by kernel_rfl) (grd_op (d := 100) (by kernel_rfl) (by kernel_rfl) rfl rfl) (bsrc_old 5 _ rfl rfl rfl (by kernel_rfl) (by kernel_rfl)) (fun w q h => loadI_int w q h) rfl)
    refine steps_snoc (k := 8) ?_ (s_move (i := 8) hP (g := none) (isOp_of (by kernel_rfl) : IsOp mt_o9 8 none (.move (.tmp 99))) (by kernel_rfl) (by kernel_rfl) (grd_none) (src_op (f := (eqF (.bool true))) 7 (by kernel_rfl) (by kernel_rfl) rfl) rfl)
    refine steps_snoc (k := 7) ?_ (s_pickT (i := 7) hP (g := none) (isOp_of (by kernel_rfl) : IsOp mt_o9 7 none (.pick (.tmp 93) (.tmp 98) (.const (.bool false)))) (by kernel_rfl) (by kernel_rfl) (grd_none) (src_op (f := (eqF (.bool true))) 1 (by kernel_rfl) (by kernel_rfl) rfl) (src_op (f := (eqF (.bool true))) 6 (by kernel_rfl) (by kernel_rfl) rfl) rfl)
    refine steps_snoc (k := 6) ?_ (s_call2 (i := 6) hP (g := (some (1, true))) (isOp_of (by kernel_rfl) : IsOp mt_o9 6 (some (1, true)) (.call { callee := .value (.func 21), args := #[.tmp 94, .tmp 97], argTypes := #[27, 27] })) (by kernel_rfl) (by kernel_rfl) (grd_op (d := 93) (by kernel_rfl) (by kernel_rfl) rfl rfl) (src_op (f := (intF (r0.int + r1.int))) 2 (by kernel_rfl) (by kernel_rfl) rfl) (src_op (f := (intF (r0.int + r1.int))) 5 (by kernel_rfl) (by kernel_rfl) rfl) mtpl_quadrature_quadratureref01_Same (fun w v0 v1 hb h0 h1 => kSameT h0 h1 (k0.sm.add k1.sm) (k0.sm.add k1.sm) (by first | decide | assumption | omega) (by first | decide | assumption | omega) rfl) rfl)
    refine steps_snoc (k := 5) ?_ (s_call2 (i := 5) hP (g := (some (1, true))) (isOp_of (by kernel_rfl) : IsOp mt_o9 5 (some (1, true)) (.call { callee := .value (.func 22), args := #[.tmp 95, .tmp 96], argTypes := #[27, 27] })) (by kernel_rfl) (by kernel_rfl) (grd_op (d := 93) (by kernel_rfl) (by kernel_rfl) rfl rfl) (src_op (f := (intF r0.int)) 3 (by kernel_rfl) (by kernel_rfl) rfl) (src_op (f := (intF r1.int)) 4 (by kernel_rfl) (by kernel_rfl) rfl) mtpl_quadrature_quadratureref01_Add (fun w v0 v1 hb h0 h1 => kRAdd h0 h1 k0.sm k1.sm (by first | decide | assumption | omega) (by first | decide | assumption | omega)) rfl)
    refine steps_snoc (k := 4) ?_ (s_load (i := 4) hP (g := (some (1, true))) (isOp_of (by kernel_rfl) : IsOp mt_o9 4 (some (1, true)) (.load 27 (.tmp 7))) (by kernel_rfl) (by kernel_rfl) (grd_op (d := 93) (by kernel_rfl) (by kernel_rfl) rfl rfl) (bsrc_old 3 _ rfl rfl rfl (by kernel_rfl) (by kernel_rfl)) (fun w q h => loadI_int w q h) rfl)
    refine steps_snoc (k := 3) ?_ (s_load (i := 3) hP (g := (some (1, true))) (isOp_of (by kernel_rfl) : IsOp mt_o9 3 (some (1, true)) (.load 27 (.tmp 6))) (by kernel_rfl) (by kernel_rfl) (grd_op (d := 93) (by kernel_rfl) (by kernel_rfl) rfl rfl) (bsrc_old 2 _ rfl rfl rfl (by kernel_rfl) (by kernel_rfl)) (fun w q h => loadI_int w q h) rfl)
    refine steps_snoc (k := 2) ?_ (s_load (i := 2) hP (g := (some (1, true))) (isOp_of (by kernel_rfl) : IsOp mt_o9 2 (some (1, true)) (.load 27 (.tmp 12))) (by kernel_rfl) (by kernel_rfl) (grd_op (d := 93) (by kernel_rfl) (by kernel_rfl) rfl rfl) (bsrc_old 4 _ rfl rfl rfl (by kernel_rfl) (by kernel_rfl)) (fun w q h => loadI_int w q h) rfl)
    refine steps_snoc (k := 1) ?_ (s_move (i := 1) hP (g := none) (isOp_of (by kernel_rfl) : IsOp mt_o9 1 none (.move (.tmp 92))) (by kernel_rfl) (by kernel_rfl) (grd_none) (src_op (f := (eqF (.bool true))) 0 (by kernel_rfl) (by kernel_rfl) rfl) rfl)
    refine steps_snoc (k := 0) ?_ (s_move (i := 0) hP (g := none) (isOp_of (by kernel_rfl) : IsOp mt_o9 0 none (.move (.tmp 16))) (by kernel_rfl) (by kernel_rfl) (grd_none) (src_low hst 1 rfl (by kernel_rfl)) rfl)
    exact steps_nil
  · intro m a w hI hm
    exact ⟨(out_op hI hm 47 4 _ (by kernel_rfl) rfl), trivial⟩
set_option maxRecDepth 100000 in
theorem Match_law (hS : Sanity) (r0 r1 : RawArg) (w : World) (k0 : r0.Ok w) (k1 : r1.Ok w) (ht : P10 w) :
    Calls Tryd.prog 3 #[r0.val_, r1.val_] w (GivesP (eqF (.bool true)) w) := by
  refine calls_st (S := [(0, eqF r0.val_), (1, eqF r1.val_)]) Tryd.func3 (by kernel_rfl) Tryd.ntmps3 (by simp) (fun x hx => ?_) fun a hst => ?_
  · simp only [List.mem_cons, List.not_mem_nil, or_false] at hx
    rcases hx with rfl | rfl
    · exact ⟨_, rfl, rfl⟩
    · exact ⟨_, rfl, rfl⟩
  show Code.wp _ mt_n0 _ _ _
  rcases (show inI64 r0.int = true ∨ inI64 r0.int = false by cases inI64 r0.int <;> simp) with hz | hz
  · rw [mt_e0]
    refine wp_seq ?_
    rw [mt_e1]
    refine mt_r0 hS ht k0 k1 hst ?_
    clear hst
    intro a w hst
    show Code.wp _ mt_n2 _ _ _
    rw [mt_e2]
    refine wp_seq ?_
    rw [mt_e3]
    refine mt_r1 hS ht k0 k1 hst ?_
    clear hst
    intro a w hst
    show Code.wp _ mt_n4 _ _ _
    rw [mt_e4]
    refine wp_seq ?_
    rw [mt_e5]
    refine mt_r2 hS ht k0 k1 hst ?_
    clear hst
    intro a w hst
    show Code.wp _ mt_n6 _ _ _
    rw [mt_e6]
    refine wp_seq ?_
    rw [mt_e7]
    refine mt_r3T hS ht k0 k1 hz hst ?_
    clear hst
    intro a w hst
    show Code.wp _ mt_n8 _ _ _
    rw [mt_e8]
    refine wp_seq ?_
    rw [mt_e9]
    refine mt_r4T hS ht k0 k1 hz hst ?_
    clear hst
    intro a w hst
    show Code.wp _ mt_n10 _ _ _
    rw [mt_e10]
    refine wp_seq ?_
    rw [mt_e11]
    refine wp_seq ?_
    rw [mt_e13]
    refine mt_r5T hS ht k0 k1 hz hst ?_
    clear hst
    intro a w hst
    show Code.wp _ mt_n14 _ _ _
    rw [mt_e14]
    refine wp_cond_false (st_bool hst 1 rfl) ?_
    show Code.wp _ mt_n16 _ _ _
    rw [mt_e16]
    refine wp_skip ?_
    show Code.wp _ mt_n12 _ _ _
    rw [mt_e12]
    refine wp_seq ?_
    rw [mt_e19]
    refine mt_r7 hS ht k0 k1 hst ?_
    clear hst
    intro a w hst
    show Code.wp _ mt_n20 _ _ _
    rw [mt_e20]
    refine wp_seq ?_
    rw [mt_e21]
    refine mt_r8 hS ht k0 k1 hst ?_
    clear hst
    intro a w hst
    show Code.wp _ mt_n22 _ _ _
    rw [mt_e22]
    refine wp_seq ?_
    rw [mt_e23]
    refine mt_r9 hS ht k0 k1 hst ?_
    clear hst
    intro a w hst
    show Code.wp _ mt_n24 _ _ _
    rw [mt_e24]
    exact wp_ret (ret_tmp hst rfl 0 rfl)
  · rw [mt_e0]
    refine wp_seq ?_
    rw [mt_e1]
    refine mt_r0 hS ht k0 k1 hst ?_
    clear hst
    intro a w hst
    show Code.wp _ mt_n2 _ _ _
    rw [mt_e2]
    refine wp_seq ?_
    rw [mt_e3]
    refine mt_r1 hS ht k0 k1 hst ?_
    clear hst
    intro a w hst
    show Code.wp _ mt_n4 _ _ _
    rw [mt_e4]
    refine wp_seq ?_
    rw [mt_e5]
    refine mt_r2 hS ht k0 k1 hst ?_
    clear hst
    intro a w hst
    show Code.wp _ mt_n6 _ _ _
    rw [mt_e6]
    refine wp_seq ?_
    rw [mt_e7]
    refine mt_r3F hS ht k0 k1 hz hst ?_
    clear hst
    intro a w hst
    show Code.wp _ mt_n8 _ _ _
    rw [mt_e8]
    refine wp_seq ?_
    rw [mt_e9]
    refine mt_r4F hS ht k0 k1 hz hst ?_
    clear hst
    intro a w hst
    show Code.wp _ mt_n10 _ _ _
    rw [mt_e10]
    refine wp_seq ?_
    rw [mt_e11]
    refine wp_seq ?_
    rw [mt_e13]
    refine mt_r5F hS ht k0 k1 hz hst ?_
    clear hst
    intro a w hst
    show Code.wp _ mt_n14 _ _ _
    rw [mt_e14]
    refine wp_cond_false (st_bool hst 1 rfl) ?_
    show Code.wp _ mt_n16 _ _ _
    rw [mt_e16]
    refine wp_skip ?_
    show Code.wp _ mt_n12 _ _ _
    rw [mt_e12]
    refine wp_seq ?_
    rw [mt_e19]
    refine mt_r7 hS ht k0 k1 hst ?_
    clear hst
    intro a w hst
    show Code.wp _ mt_n20 _ _ _
    rw [mt_e20]
    refine wp_seq ?_
    rw [mt_e21]
    refine mt_r8 hS ht k0 k1 hst ?_
    clear hst
    intro a w hst
    show Code.wp _ mt_n22 _ _ _
    rw [mt_e22]
    refine wp_seq ?_
    rw [mt_e23]
    refine mt_r9 hS ht k0 k1 hst ?_
    clear hst
    intro a w hst
    show Code.wp _ mt_n24 _ _ _
    rw [mt_e24]
    exact wp_ret (ret_tmp hst rfl 0 rfl)
end Go.Proofs.YtjajmonhcnmidaaDoor
