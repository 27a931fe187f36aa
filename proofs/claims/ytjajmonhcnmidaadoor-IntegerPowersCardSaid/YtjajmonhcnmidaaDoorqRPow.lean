/- The reference's powers (written by wip/tools/gen_rpow.py). -/
import Derived.Test.YtjajmonhcnmidaaDoorGj
namespace Go.Proofs.YtjajmonhcnmidaaDoor
open Go.RowKit

theorem rpwpl_quadrature_quadratureref01_Mul : Plainly 24 := fun _ _ => by simp [go_sem]
theorem rpwpl_quadrature_quadratureref01_Of : Plainly 42 := fun _ _ => by simp [go_sem]
noncomputable def rpw_n0 : Code := bodyOf Tryd.f37
noncomputable def rpw_n1 : Code := cl rpw_n0
noncomputable def rpw_n2 : Code := cr rpw_n0
theorem rpw_e0 : rpw_n0 = .seq rpw_n1 rpw_n2 := by kernel_rfl
noncomputable def rpw_o0 : Array Oper := opsOf rpw_n1
theorem rpw_e1 : rpw_n1 = .region 0 rpw_o0 false := by kernel_rfl
noncomputable def rpw_n3 : Code := cl rpw_n2
noncomputable def rpw_n4 : Code := cr rpw_n2
theorem rpw_e2 : rpw_n2 = .seq rpw_n3 rpw_n4 := by kernel_rfl
noncomputable def rpw_n5 : Code := cl rpw_n3
noncomputable def rpw_n6 : Code := cr rpw_n3
theorem rpw_e3 : rpw_n3 = .seq rpw_n5 rpw_n6 := by kernel_rfl
noncomputable def rpw_o1 : Array Oper := opsOf rpw_n5
theorem rpw_e5 : rpw_n5 = .region 1 rpw_o1 false := by kernel_rfl
noncomputable def rpw_n7 : Code := cl rpw_n6
noncomputable def rpw_n8 : Code := cr rpw_n6
theorem rpw_e6 : rpw_n6 = .cond (.tmp 13) rpw_n7 rpw_n8 := by kernel_rfl
noncomputable def rpw_n9 : Code := cl rpw_n7
noncomputable def rpw_n10 : Code := cr rpw_n7
theorem rpw_e7 : rpw_n7 = .seq rpw_n9 rpw_n10 := by kernel_rfl
noncomputable def rpw_o2 : Array Oper := opsOf rpw_n9
theorem rpw_e9 : rpw_n9 = .region 2 rpw_o2 false := by kernel_rfl
theorem rpw_e10 : rpw_n10 = .ret := by kernel_rfl
theorem rpw_e8 : rpw_n8 = .skip := by kernel_rfl
noncomputable def rpw_n11 : Code := cl rpw_n4
noncomputable def rpw_n12 : Code := cr rpw_n4
theorem rpw_e4 : rpw_n4 = .seq rpw_n11 rpw_n12 := by kernel_rfl
noncomputable def rpw_o3 : Array Oper := opsOf rpw_n11
theorem rpw_e11 : rpw_n11 = .region 3 rpw_o3 false := by kernel_rfl
noncomputable def rpw_n13 : Code := cl rpw_n12
noncomputable def rpw_n14 : Code := cr rpw_n12
theorem rpw_e12 : rpw_n12 = .seq rpw_n13 rpw_n14 := by kernel_rfl
noncomputable def rpw_n15 : Code := cl rpw_n13
noncomputable def rpw_n16 : Code := cr rpw_n13
theorem rpw_e13 : rpw_n13 = .seq rpw_n15 rpw_n16 := by kernel_rfl
noncomputable def rpw_o4 : Array Oper := opsOf rpw_n15
theorem rpw_e15 : rpw_n15 = .region 4 rpw_o4 false := by kernel_rfl
noncomputable def rpw_n17 : Code := cl rpw_n16
theorem rpw_e16 : rpw_n16 = .block 0 rpw_n17 := by kernel_rfl
noncomputable def rpw_n18 : Code := cl rpw_n17
theorem rpw_e17 : rpw_n17 = .loop rpw_n18 := by kernel_rfl
noncomputable def rpw_n19 : Code := cl rpw_n18
noncomputable def rpw_n20 : Code := cr rpw_n18
theorem rpw_e18 : rpw_n18 = .seq rpw_n19 rpw_n20 := by kernel_rfl
noncomputable def rpw_n21 : Code := cl rpw_n19
noncomputable def rpw_n22 : Code := cr rpw_n19
theorem rpw_e19 : rpw_n19 = .seq rpw_n21 rpw_n22 := by kernel_rfl
noncomputable def rpw_o5 : Array Oper := opsOf rpw_n21
theorem rpw_e21 : rpw_n21 = .region 5 rpw_o5 false := by kernel_rfl
noncomputable def rpw_n23 : Code := cl rpw_n22
noncomputable def rpw_n24 : Code := cr rpw_n22
theorem rpw_e22 : rpw_n22 = .cond (.tmp 18) rpw_n23 rpw_n24 := by kernel_rfl
theorem rpw_e23 : rpw_n23 = .skip := by kernel_rfl
theorem rpw_e24 : rpw_n24 = .exit 0 := by kernel_rfl
noncomputable def rpw_n25 : Code := cl rpw_n20
noncomputable def rpw_n26 : Code := cr rpw_n20
theorem rpw_e20 : rpw_n20 = .seq rpw_n25 rpw_n26 := by kernel_rfl
noncomputable def rpw_n27 : Code := cl rpw_n25
theorem rpw_e25 : rpw_n25 = .block 1 rpw_n27 := by kernel_rfl
noncomputable def rpw_o7 : Array Oper := opsOf rpw_n27
theorem rpw_e27 : rpw_n27 = .region 7 rpw_o7 false := by kernel_rfl
noncomputable def rpw_o6 : Array Oper := opsOf rpw_n26
theorem rpw_e26 : rpw_n26 = .region 6 rpw_o6 false := by kernel_rfl
noncomputable def rpw_n28 : Code := cl rpw_n14
noncomputable def rpw_n29 : Code := cr rpw_n14
theorem rpw_e14 : rpw_n14 = .seq rpw_n28 rpw_n29 := by kernel_rfl
noncomputable def rpw_o8 : Array Oper := opsOf rpw_n28
theorem rpw_e28 : rpw_n28 = .region 8 rpw_o8 false := by kernel_rfl
theorem rpw_e29 : rpw_n29 = .ret := by kernel_rfl
set_option maxRecDepth 100000 in
theorem rpw_r0 {Q : Exit → Act → World → Prop} {Wb W0 : World} {a0 : Act} {z : Int} {c n : Nat} (_hs : Sm z c) (_hn : n ≤ 256) (_hb : c * n + 1 ≤ 1000) (_hb2 : c ≤ 1000)  (hst : St Wb 25 [(0, (intF z)), (1, (eqF (.int .i64 n)))] [] a0 W0)
    (fin : ∀ a w, St Wb 25 [(0, (intF z)), (1, (eqF (.int .i64 n))), (5, (eqF (.int .i64 0)))] [(2, (boxIF z)), (4, zeroIF)] a w → Q .normal a w) : (Code.region 0 rpw_o0 false).wp Tryd.prog Q a0 W0 := by
  have hP : Plan rpw_o0 25 ([⟨2, some 0, none, (boxIF z), (boxIF z)⟩, ⟨4, some 1, none, zeroIF, zeroIF⟩] : List BoxS) [] := ⟨by kernel_rfl, by kernel_rfl, by kernel_rfl, by kernel_rfl, by kernel_rfl, by kernel_rfl⟩
  refine region_st (F := [anyF, anyF, (eqF (.int .i64 0))]) hP hst rfl rfl ?_ ?_ fin
  · show Steps rpw_o0 25 Wb W0 a0 _ _ _ 3
    refine steps_snoc (k := 2) ?_ (s_assign (i := 2) hP (g := none) (isOp_of (by kernel_rfl) : IsOp rpw_o0 2 none (.assign (.const (.int .i64 0)))) (by kernel_rfl) (by kernel_rfl) (grd_none) (src_const _) rfl)
    refine steps_snoc (k := 1) ?_ (s_alloc (i := 1) (d := 4) hP 1 _ (isOp_of (by kernel_rfl) : IsOp rpw_o0 1 none (.alloc 27)) (by kernel_rfl) rfl rfl rfl (by kernel_rfl) (by kernel_rfl) (by kernel_rfl) (by kernel_rfl) rfl allocI_run allocI_old)
    refine steps_snoc (k := 0) ?_ (s_box (i := 0) (d := 2) hP 0 _ (isOp_of (by kernel_rfl) : IsOp rpw_o0 0 none (.box 27 (.tmp 0))) (by kernel_rfl) rfl rfl rfl (by kernel_rfl) (by kernel_rfl) (by kernel_rfl) (by kernel_rfl) rfl (src_low hst 0 rfl (by kernel_rfl)) (fun w v h => boxI_run w v h))
    exact steps_nil
  · intro m a w hI hm
    exact ⟨(low_fact hst 0 rfl (by kernel_rfl) hI), (low_fact hst 1 rfl (by kernel_rfl) hI), (out_op hI hm 2 5 _ (by kernel_rfl) rfl), trivial⟩
set_option maxRecDepth 100000 in
theorem rpw_r1 {Q : Exit → Act → World → Prop} {Wb W0 : World} {a0 : Act} {z : Int} {c n : Nat} (_hs : Sm z c) (hn : n ≤ 256) (_hb : c * n + 1 ≤ 1000) (_hb2 : c ≤ 1000)  (hst : St Wb 25 [(0, (intF z)), (1, (eqF (.int .i64 n))), (5, (eqF (.int .i64 0)))] [(2, (boxIF z)), (4, zeroIF)] a0 W0)
    (fin : ∀ a w, St Wb 25 [(0, (intF z)), (1, (eqF (.int .i64 n))), (5, (eqF (.int .i64 0))), (13, (eqF (.bool false)))] [(2, (boxIF z)), (4, zeroIF)] a w → Q .normal a w) : (Code.region 1 rpw_o1 false).wp Tryd.prog Q a0 W0 := by
  have hP : Plan rpw_o1 25 ([⟨2, none, none, (boxIF z), (boxIF z)⟩, ⟨4, none, none, zeroIF, zeroIF⟩] : List BoxS) [] := ⟨by kernel_rfl, by kernel_rfl, by kernel_rfl, by kernel_rfl, by kernel_rfl, by kernel_rfl⟩
  refine region_st (F := [(eqF (.int .i64 n)), (eqF (.bool false)), (eqF (.bool false)), (eqF (.int .i64 n)), (eqF (.bool false)), (eqF (.bool false))]) hP hst rfl rfl ?_ ?_ fin
  · show Steps rpw_o1 25 Wb W0 a0 _ _ _ 6
    refine steps_snoc (k := 5) ?_ (s_pickF (i := 5) hP (g := none) (isOp_of (by kernel_rfl) : IsOp rpw_o1 5 none (.pick (.tmp 10) (.const (.bool true)) (.tmp 12))) (by kernel_rfl) (by kernel_rfl) (grd_none) (src_op (f := (eqF (.bool false))) 2 (by kernel_rfl) (by kernel_rfl) rfl) (src_op (f := (eqF (.bool false))) 4 (by kernel_rfl) (by kernel_rfl) rfl) rfl)
    refine steps_snoc (k := 4) ?_ (s_op2 (i := 4) hP (g := (some (2, false))) (isOp_of (by kernel_rfl) : IsOp rpw_o1 4 (some (2, false)) (.binOp .gtr 3 (.tmp 11) (.const (.int .i64 256)) 3)) (by kernel_rfl) (by kernel_rfl) (grd_op (d := 10) (by kernel_rfl) (by kernel_rfl) rfl rfl) (src_op (f := (eqF (.int .i64 n))) 3 (by kernel_rfl) (by kernel_rfl) rfl) (src_const _) (fun ρ w hx hy => h_gtr (r := false) (by simp; omega) hx hy) rfl)
    refine steps_snoc (k := 3) ?_ (s_move (i := 3) hP (g := (some (2, false))) (isOp_of (by kernel_rfl) : IsOp rpw_o1 3 (some (2, false)) (.move (.tmp 1))) (by kernel_rfl) (by kernel_rfl) (grd_op (d := 10) (by kernel_rfl) (by kernel_rfl) rfl rfl) (src_low hst 1 rfl (by kernel_rfl)) rfl)
    refine steps_snoc (k := 2) ?_ (s_move (i := 2) hP (g := none) (isOp_of (by kernel_rfl) : IsOp rpw_o1 2 none (.move (.tmp 9))) (by kernel_rfl) (by kernel_rfl) (grd_none) (src_op (f := (eqF (.bool false))) 1 (by kernel_rfl) (by kernel_rfl) rfl) rfl)
    refine steps_snoc (k := 1) ?_ (s_op2 (i := 1) hP (g := none) (isOp_of (by kernel_rfl) : IsOp rpw_o1 1 none (.binOp .lss 3 (.tmp 8) (.const (.int .i64 0)) 3)) (by kernel_rfl) (by kernel_rfl) (grd_none) (src_op (f := (eqF (.int .i64 n))) 0 (by kernel_rfl) (by kernel_rfl) rfl) (src_const _) (fun ρ w hx hy => h_lss (r := false) (by simp) hx hy) rfl)
    refine steps_snoc (k := 0) ?_ (s_move (i := 0) hP (g := none) (isOp_of (by kernel_rfl) : IsOp rpw_o1 0 none (.move (.tmp 1))) (by kernel_rfl) (by kernel_rfl) (grd_none) (src_low hst 1 rfl (by kernel_rfl)) rfl)
    exact steps_nil
  · intro m a w hI hm
    exact ⟨(low_fact hst 0 rfl (by kernel_rfl) hI), (low_fact hst 1 rfl (by kernel_rfl) hI), (low_fact hst 2 rfl (by kernel_rfl) hI), (out_op hI hm 5 13 _ (by kernel_rfl) rfl), trivial⟩
set_option maxRecDepth 100000 in
theorem rpw_r3 {Q : Exit → Act → World → Prop} {Wb W0 : World} {a0 : Act} {z : Int} {c n : Nat} (_hs : Sm z c) (_hn : n ≤ 256) (_hb : c * n + 1 ≤ 1000) (_hb2 : c ≤ 1000)  (hst : St Wb 25 [(0, (intF z)), (1, (eqF (.int .i64 n))), (5, (eqF (.int .i64 0))), (13, (eqF (.bool false)))] [(2, (boxIF z)), (4, zeroIF)] a0 W0)
    (fin : ∀ a w, St Wb 25 [(0, (intF z)), (1, (eqF (.int .i64 n))), (5, (eqF (.int .i64 0))), (13, (eqF (.bool false)))] [(2, (boxIF z)), (4, zeroIF), (6, (boxIF 1))] a w → Q .normal a w) : (Code.region 3 rpw_o3 false).wp Tryd.prog Q a0 W0 := by
  have hP : Plan rpw_o3 25 ([⟨2, none, none, (boxIF z), (boxIF z)⟩, ⟨4, none, none, zeroIF, zeroIF⟩, ⟨6, some 1, some 2, zeroIF, (boxIF 1)⟩] : List BoxS) [] := ⟨by kernel_rfl, by kernel_rfl, by kernel_rfl, by kernel_rfl, by kernel_rfl, by kernel_rfl⟩
  refine region_st (F := [(intF 1), anyF, anyF]) hP hst rfl rfl ?_ ?_ fin
  · show Steps rpw_o3 25 Wb W0 a0 _ _ _ 3
    refine steps_snoc (k := 2) ?_ (s_store (i := 2) 2 _ (isOp_of (by kernel_rfl) : IsOp rpw_o3 2 none (.store 27 (.tmp 6) (.tmp 15))) (by kernel_rfl) rfl rfl rfl (by kernel_rfl) (by kernel_rfl) (by kernel_rfl) (src_op (f := (intF 1)) 0 (by kernel_rfl) (by kernel_rfl) rfl) (storeI_zero _))
    refine steps_snoc (k := 1) ?_ (s_alloc (i := 1) (d := 6) hP 2 _ (isOp_of (by kernel_rfl) : IsOp rpw_o3 1 none (.alloc 27)) (by kernel_rfl) rfl rfl rfl (by kernel_rfl) (by kernel_rfl) (by kernel_rfl) (by kernel_rfl) rfl allocI_run allocI_old)
    refine steps_snoc (k := 0) ?_ (s_call1 (i := 0) hP (g := none) (isOp_of (by kernel_rfl) : IsOp rpw_o3 0 none (.call { callee := .value (.func 42), args := #[.const (.int .i64 1)], argTypes := #[2] })) (by kernel_rfl) (by kernel_rfl) (grd_none) (src_const _) rpwpl_quadrature_quadratureref01_Of (fun w v0 hb h0 => kROf 1 (by omega) (by omega) h0) rfl)
    exact steps_nil
  · intro m a w hI hm
    exact ⟨(low_fact hst 0 rfl (by kernel_rfl) hI), (low_fact hst 1 rfl (by kernel_rfl) hI), (low_fact hst 2 rfl (by kernel_rfl) hI), (low_fact hst 3 rfl (by kernel_rfl) hI), trivial⟩
set_option maxRecDepth 100000 in
theorem rpw_r4 {Q : Exit → Act → World → Prop} {Wb W0 : World} {a0 : Act} {z : Int} {c n : Nat} (_hs : Sm z c) (_hn : n ≤ 256) (_hb : c * n + 1 ≤ 1000) (_hb2 : c ≤ 1000)  (hst : St Wb 25 [(0, (intF z)), (1, (eqF (.int .i64 n))), (5, (eqF (.int .i64 0))), (13, (eqF (.bool false)))] [(2, (boxIF z)), (4, zeroIF), (6, (boxIF 1))] a0 W0)
    (fin : ∀ a w, St Wb 25 [(0, (intF z)), (1, (eqF (.int .i64 n))), (5, (eqF (.int .i64 0))), (7, (eqF (.int .i64 0))), (13, (eqF (.bool false)))] [(2, (boxIF z)), (4, zeroIF), (6, (boxIF 1))] a w → Q .normal a w) : (Code.region 4 rpw_o4 false).wp Tryd.prog Q a0 W0 := by
  have hP : Plan rpw_o4 25 ([⟨2, none, none, (boxIF z), (boxIF z)⟩, ⟨4, none, none, zeroIF, zeroIF⟩, ⟨6, none, none, (boxIF 1), (boxIF 1)⟩] : List BoxS) [] := ⟨by kernel_rfl, by kernel_rfl, by kernel_rfl, by kernel_rfl, by kernel_rfl, by kernel_rfl⟩
  refine region_st (F := [(eqF (.int .i64 0))]) hP hst rfl rfl ?_ ?_ fin
  · show Steps rpw_o4 25 Wb W0 a0 _ _ _ 1
    refine steps_snoc (k := 0) ?_ (s_assign (i := 0) hP (g := none) (isOp_of (by kernel_rfl) : IsOp rpw_o4 0 none (.assign (.const (.int .i64 0)))) (by kernel_rfl) (by kernel_rfl) (grd_none) (src_const _) rfl)
    exact steps_nil
  · intro m a w hI hm
    exact ⟨(low_fact hst 0 rfl (by kernel_rfl) hI), (low_fact hst 1 rfl (by kernel_rfl) hI), (low_fact hst 2 rfl (by kernel_rfl) hI), (out_op hI hm 0 7 _ (by kernel_rfl) rfl), (low_fact hst 3 rfl (by kernel_rfl) hI), trivial⟩
set_option maxRecDepth 100000 in
theorem rpw_r5 {Q : Exit → Act → World → Prop} {Wb W0 : World} {a0 : Act} {z : Int} {c n : Nat} (_hs : Sm z c) (_hn : n ≤ 256) (_hb : c * n + 1 ≤ 1000) (_hb2 : c ≤ 1000) {k : Nat} (_hck : c * k + 1 ≤ 1000) (hlt : k < n) (hst : St Wb 25 [(0, (intF z)), (1, (eqF (.int .i64 n))), (5, (eqF (.int .i64 0))), (7, (eqF (.int .i64 (k : Int)))), (13, (eqF (.bool false)))] [(2, (boxIF z)), (4, zeroIF), (6, (boxIF (z ^ k)))] a0 W0)
    (fin : ∀ a w, St Wb 25 [(0, (intF z)), (1, (eqF (.int .i64 n))), (5, (eqF (.int .i64 0))), (7, (eqF (.int .i64 (k : Int)))), (13, (eqF (.bool false))), (18, (eqF (.bool true)))] [(2, (boxIF z)), (4, zeroIF), (6, (boxIF (z ^ k)))] a w → Q .normal a w) : (Code.region 5 rpw_o5 false).wp Tryd.prog Q a0 W0 := by
  have hP : Plan rpw_o5 25 ([⟨2, none, none, (boxIF z), (boxIF z)⟩, ⟨4, none, none, zeroIF, zeroIF⟩, ⟨6, none, none, (boxIF (z ^ k)), (boxIF (z ^ k))⟩] : List BoxS) [] := ⟨by kernel_rfl, by kernel_rfl, by kernel_rfl, by kernel_rfl, by kernel_rfl, by kernel_rfl⟩
  refine region_st (F := [(eqF (.int .i64 (k : Int))), (eqF (.int .i64 n)), (eqF (.bool true))]) hP hst rfl rfl ?_ ?_ fin
  · show Steps rpw_o5 25 Wb W0 a0 _ _ _ 3
    refine steps_snoc (k := 2) ?_ (s_op2 (i := 2) hP (g := none) (isOp_of (by kernel_rfl) : IsOp rpw_o5 2 none (.binOp .lss 3 (.tmp 16) (.tmp 17) 3)) (by kernel_rfl) (by kernel_rfl) (grd_none) (src_op (f := (eqF (.int .i64 (k : Int)))) 0 (by kernel_rfl) (by kernel_rfl) rfl) (src_op (f := (eqF (.int .i64 n))) 1 (by kernel_rfl) (by kernel_rfl) rfl) (fun ρ w hx hy => h_lss (r := true) (by simp; omega) hx hy) rfl)
    refine steps_snoc (k := 1) ?_ (s_move (i := 1) hP (g := none) (isOp_of (by kernel_rfl) : IsOp rpw_o5 1 none (.move (.tmp 1))) (by kernel_rfl) (by kernel_rfl) (grd_none) (src_low hst 1 rfl (by kernel_rfl)) rfl)
    refine steps_snoc (k := 0) ?_ (s_move (i := 0) hP (g := none) (isOp_of (by kernel_rfl) : IsOp rpw_o5 0 none (.move (.tmp 7))) (by kernel_rfl) (by kernel_rfl) (grd_none) (src_low hst 3 rfl (by kernel_rfl)) rfl)
    exact steps_nil
  · intro m a w hI hm
    exact ⟨(low_fact hst 0 rfl (by kernel_rfl) hI), (low_fact hst 1 rfl (by kernel_rfl) hI), (low_fact hst 2 rfl (by kernel_rfl) hI), (low_fact hst 3 rfl (by kernel_rfl) hI), (low_fact hst 4 rfl (by kernel_rfl) hI), (out_op hI hm 2 18 _ (by kernel_rfl) rfl), trivial⟩
set_option maxRecDepth 100000 in
theorem rpw_r7 {Q : Exit → Act → World → Prop} {Wb W0 : World} {a0 : Act} {z : Int} {c n : Nat} (hs : Sm z c) (_hn : n ≤ 256) (_hb : c * n + 1 ≤ 1000) (hb2 : c ≤ 1000) {k : Nat} (hck : c * k + 1 ≤ 1000) (_hlt : k < n) (hst : St Wb 25 [(0, (intF z)), (1, (eqF (.int .i64 n))), (5, (eqF (.int .i64 0))), (7, (eqF (.int .i64 (k : Int)))), (13, (eqF (.bool false))), (18, (eqF (.bool true)))] [(2, (boxIF z)), (4, zeroIF), (6, (boxIF (z ^ k)))] a0 W0)
    (fin : ∀ a w, St Wb 25 [(0, (intF z)), (1, (eqF (.int .i64 n))), (5, (eqF (.int .i64 0))), (7, (eqF (.int .i64 (k : Int)))), (13, (eqF (.bool false))), (18, (eqF (.bool true)))] [(2, (boxIF z)), (4, zeroIF), (6, (boxIF ((z ^ k) * z)))] a w → Q .normal a w) : (Code.region 7 rpw_o7 false).wp Tryd.prog Q a0 W0 := by
  have hP : Plan rpw_o7 25 ([⟨2, none, none, (boxIF z), (boxIF z)⟩, ⟨4, none, none, zeroIF, zeroIF⟩, ⟨6, none, some 3, (boxIF (z ^ k)), (boxIF ((z ^ k) * z))⟩] : List BoxS) [] := ⟨by kernel_rfl, by kernel_rfl, by kernel_rfl, by kernel_rfl, by kernel_rfl, by kernel_rfl⟩
  refine region_st (F := [(intF (z ^ k)), (intF z), (intF ((z ^ k) * z)), anyF]) hP hst rfl rfl ?_ ?_ fin
  · show Steps rpw_o7 25 Wb W0 a0 _ _ _ 4
    refine steps_snoc (k := 3) ?_ (s_store (i := 3) 2 _ (isOp_of (by kernel_rfl) : IsOp rpw_o7 3 none (.store 27 (.tmp 6) (.tmp 23))) (by kernel_rfl) rfl rfl rfl (by kernel_rfl) (by kernel_rfl) (by kernel_rfl) (src_op (f := (intF ((z ^ k) * z))) 2 (by kernel_rfl) (by kernel_rfl) rfl) (storeI_box _ _))
    refine steps_snoc (k := 2) ?_ (s_call2 (i := 2) hP (g := none) (isOp_of (by kernel_rfl) : IsOp rpw_o7 2 none (.call { callee := .value (.func 24), args := #[.tmp 21, .tmp 22], argTypes := #[27, 27] })) (by kernel_rfl) (by kernel_rfl) (grd_none) (src_op (f := (intF (z ^ k))) 0 (by kernel_rfl) (by kernel_rfl) rfl) (src_op (f := (intF z)) 1 (by kernel_rfl) (by kernel_rfl) rfl) rpwpl_quadrature_quadratureref01_Mul (fun w v0 v1 hb h0 h1 => kRMul h0 h1 (hs.pow k) hs (by first | decide | assumption | omega) (by first | decide | assumption | omega)) rfl)
    refine steps_snoc (k := 1) ?_ (s_load (i := 1) hP (g := none) (isOp_of (by kernel_rfl) : IsOp rpw_o7 1 none (.load 27 (.tmp 2))) (by kernel_rfl) (by kernel_rfl) (grd_none) (bsrc_old 0 _ rfl rfl rfl (by kernel_rfl) (by kernel_rfl)) (fun w q h => loadI_int w q h) rfl)
    refine steps_snoc (k := 0) ?_ (s_load (i := 0) hP (g := none) (isOp_of (by kernel_rfl) : IsOp rpw_o7 0 none (.load 27 (.tmp 6))) (by kernel_rfl) (by kernel_rfl) (grd_none) (bsrc_old 2 _ rfl rfl rfl (by kernel_rfl) (by kernel_rfl)) (fun w q h => loadI_int w q h) rfl)
    exact steps_nil
  · intro m a w hI hm
    exact ⟨(low_fact hst 0 rfl (by kernel_rfl) hI), (low_fact hst 1 rfl (by kernel_rfl) hI), (low_fact hst 2 rfl (by kernel_rfl) hI), (low_fact hst 3 rfl (by kernel_rfl) hI), (low_fact hst 4 rfl (by kernel_rfl) hI), (low_fact hst 5 rfl (by kernel_rfl) hI), trivial⟩
set_option maxRecDepth 100000 in
theorem rpw_r6 {Q : Exit → Act → World → Prop} {Wb W0 : World} {a0 : Act} {z : Int} {c n : Nat} (_hs : Sm z c) (hn : n ≤ 256) (_hb : c * n + 1 ≤ 1000) (_hb2 : c ≤ 1000) {k : Nat} (_hck : c * k + 1 ≤ 1000) (hlt : k < n) (hst : St Wb 25 [(0, (intF z)), (1, (eqF (.int .i64 n))), (5, (eqF (.int .i64 0))), (7, (eqF (.int .i64 (k : Int)))), (13, (eqF (.bool false))), (18, (eqF (.bool true)))] [(2, (boxIF z)), (4, zeroIF), (6, (boxIF ((z ^ k) * z)))] a0 W0)
    (fin : ∀ a w, St Wb 25 [(0, (intF z)), (1, (eqF (.int .i64 n))), (5, (eqF (.int .i64 0))), (7, (eqF (.int .i64 ((k + 1 : Nat) : Int)))), (13, (eqF (.bool false))), (18, (eqF (.bool true)))] [(2, (boxIF z)), (4, zeroIF), (6, (boxIF ((z ^ k) * z)))] a w → Q .normal a w) : (Code.region 6 rpw_o6 false).wp Tryd.prog Q a0 W0 := by
  have hP : Plan rpw_o6 25 ([⟨2, none, none, (boxIF z), (boxIF z)⟩, ⟨4, none, none, zeroIF, zeroIF⟩, ⟨6, none, none, (boxIF ((z ^ k) * z)), (boxIF ((z ^ k) * z))⟩] : List BoxS) [] := ⟨by kernel_rfl, by kernel_rfl, by kernel_rfl, by kernel_rfl, by kernel_rfl, by kernel_rfl⟩
  refine region_st (F := [(eqF (.int .i64 (k : Int))), (eqF (.int .i64 ((k + 1 : Nat) : Int))), (eqF (.int .i64 ((k + 1 : Nat) : Int)))]) hP hst rfl rfl ?_ ?_ fin
  · show Steps rpw_o6 25 Wb W0 a0 _ _ _ 3
    refine steps_snoc (k := 2) ?_ (s_assign (i := 2) hP (g := none) (isOp_of (by kernel_rfl) : IsOp rpw_o6 2 none (.assign (.tmp 20))) (by kernel_rfl) (by kernel_rfl) (grd_none) (src_op (f := (eqF (.int .i64 ((k + 1 : Nat) : Int)))) 1 (by kernel_rfl) (by kernel_rfl) rfl) rfl)
    refine steps_snoc (k := 1) ?_ (s_op2 (i := 1) hP (g := none) (isOp_of (by kernel_rfl) : IsOp rpw_o6 1 none (.binOp .add 3 (.tmp 19) (.const (.int .i64 1)) 3)) (by kernel_rfl) (by kernel_rfl) (grd_none) (src_op (f := (eqF (.int .i64 (k : Int)))) 0 (by kernel_rfl) (by kernel_rfl) rfl) (src_const _) (fun ρ w hx hy => h_add (z := ((k + 1 : Nat) : Int)) (by rw [IntKind.wrap_i64]; omega) hx hy) rfl)
    refine steps_snoc (k := 0) ?_ (s_move (i := 0) hP (g := none) (isOp_of (by kernel_rfl) : IsOp rpw_o6 0 none (.move (.tmp 7))) (by kernel_rfl) (by kernel_rfl) (grd_none) (src_low hst 3 rfl (by kernel_rfl)) rfl)
    exact steps_nil
  · intro m a w hI hm
    exact ⟨(low_fact hst 0 rfl (by kernel_rfl) hI), (low_fact hst 1 rfl (by kernel_rfl) hI), (low_fact hst 2 rfl (by kernel_rfl) hI), (out_op hI hm 2 7 _ (by kernel_rfl) rfl), (low_fact hst 4 rfl (by kernel_rfl) hI), (low_fact hst 5 rfl (by kernel_rfl) hI), trivial⟩
set_option maxRecDepth 100000 in
theorem rpw_r5b {Q : Exit → Act → World → Prop} {Wb W0 : World} {a0 : Act} {z : Int} {c n : Nat} (_hs : Sm z c) (_hn : n ≤ 256) (_hb : c * n + 1 ≤ 1000) (_hb2 : c ≤ 1000) {k : Nat} (_hck : c * k + 1 ≤ 1000) (hlt : ¬ k < n) (hst : St Wb 25 [(0, (intF z)), (1, (eqF (.int .i64 n))), (5, (eqF (.int .i64 0))), (7, (eqF (.int .i64 (k : Int)))), (13, (eqF (.bool false)))] [(2, (boxIF z)), (4, zeroIF), (6, (boxIF (z ^ k)))] a0 W0)
    (fin : ∀ a w, St Wb 25 [(0, (intF z)), (1, (eqF (.int .i64 n))), (5, (eqF (.int .i64 0))), (7, (eqF (.int .i64 (k : Int)))), (13, (eqF (.bool false))), (18, (eqF (.bool false)))] [(2, (boxIF z)), (4, zeroIF), (6, (boxIF (z ^ k)))] a w → Q .normal a w) : (Code.region 5 rpw_o5 false).wp Tryd.prog Q a0 W0 := by
  have hP : Plan rpw_o5 25 ([⟨2, none, none, (boxIF z), (boxIF z)⟩, ⟨4, none, none, zeroIF, zeroIF⟩, ⟨6, none, none, (boxIF (z ^ k)), (boxIF (z ^ k))⟩] : List BoxS) [] := ⟨by kernel_rfl, by kernel_rfl, by kernel_rfl, by kernel_rfl, by kernel_rfl, by kernel_rfl⟩
  refine region_st (F := [(eqF (.int .i64 (k : Int))), (eqF (.int .i64 n)), (eqF (.bool false))]) hP hst rfl rfl ?_ ?_ fin
  · show Steps rpw_o5 25 Wb W0 a0 _ _ _ 3
    refine steps_snoc (k := 2) ?_ (s_op2 (i := 2) hP (g := none) (isOp_of (by kernel_rfl) : IsOp rpw_o5 2 none (.binOp .lss 3 (.tmp 16) (.tmp 17) 3)) (by kernel_rfl) (by kernel_rfl) (grd_none) (src_op (f := (eqF (.int .i64 (k : Int)))) 0 (by kernel_rfl) (by kernel_rfl) rfl) (src_op (f := (eqF (.int .i64 n))) 1 (by kernel_rfl) (by kernel_rfl) rfl) (fun ρ w hx hy => h_lss (r := false) (by simp; omega) hx hy) rfl)
    refine steps_snoc (k := 1) ?_ (s_move (i := 1) hP (g := none) (isOp_of (by kernel_rfl) : IsOp rpw_o5 1 none (.move (.tmp 1))) (by kernel_rfl) (by kernel_rfl) (grd_none) (src_low hst 1 rfl (by kernel_rfl)) rfl)
    refine steps_snoc (k := 0) ?_ (s_move (i := 0) hP (g := none) (isOp_of (by kernel_rfl) : IsOp rpw_o5 0 none (.move (.tmp 7))) (by kernel_rfl) (by kernel_rfl) (grd_none) (src_low hst 3 rfl (by kernel_rfl)) rfl)
    exact steps_nil
  · intro m a w hI hm
    exact ⟨(low_fact hst 0 rfl (by kernel_rfl) hI), (low_fact hst 1 rfl (by kernel_rfl) hI), (low_fact hst 2 rfl (by kernel_rfl) hI), (low_fact hst 3 rfl (by kernel_rfl) hI), (low_fact hst 4 rfl (by kernel_rfl) hI), (out_op hI hm 2 18 _ (by kernel_rfl) rfl), trivial⟩
set_option maxRecDepth 100000 in
theorem rpw_r8 {Q : Exit → Act → World → Prop} {Wb W0 : World} {a0 : Act} {z : Int} {c n : Nat} (_hs : Sm z c) (_hn : n ≤ 256) (_hb : c * n + 1 ≤ 1000) (_hb2 : c ≤ 1000)  (hst : St Wb 25 [(0, (intF z)), (1, (eqF (.int .i64 n))), (5, (eqF (.int .i64 0))), (7, (eqF (.int .i64 (n : Int)))), (13, (eqF (.bool false))), (18, (eqF (.bool false)))] [(2, (boxIF z)), (4, zeroIF), (6, (boxIF (z ^ n)))] a0 W0)
    (fin : ∀ a w, St Wb 25 [(0, (intF z)), (1, (eqF (.int .i64 n))), (5, (eqF (.int .i64 0))), (7, (eqF (.int .i64 (n : Int)))), (13, (eqF (.bool false))), (18, (eqF (.bool false)))] [(2, (boxIF z)), (4, (boxIF (z ^ n))), (6, (boxIF (z ^ n)))] a w → Q .normal a w) : (Code.region 8 rpw_o8 false).wp Tryd.prog Q a0 W0 := by
  have hP : Plan rpw_o8 25 ([⟨2, none, none, (boxIF z), (boxIF z)⟩, ⟨4, none, some 1, zeroIF, (boxIF (z ^ n))⟩, ⟨6, none, none, (boxIF (z ^ n)), (boxIF (z ^ n))⟩] : List BoxS) [] := ⟨by kernel_rfl, by kernel_rfl, by kernel_rfl, by kernel_rfl, by kernel_rfl, by kernel_rfl⟩
  refine region_st (F := [(intF (z ^ n)), anyF, (eqF (.int .i64 0))]) hP hst rfl rfl ?_ ?_ fin
  · show Steps rpw_o8 25 Wb W0 a0 _ _ _ 3
    refine steps_snoc (k := 2) ?_ (s_assign (i := 2) hP (g := none) (isOp_of (by kernel_rfl) : IsOp rpw_o8 2 none (.assign (.const (.int .i64 0)))) (by kernel_rfl) (by kernel_rfl) (grd_none) (src_const _) rfl)
    refine steps_snoc (k := 1) ?_ (s_store (i := 1) 1 _ (isOp_of (by kernel_rfl) : IsOp rpw_o8 1 none (.store 27 (.tmp 4) (.tmp 24))) (by kernel_rfl) rfl rfl rfl (by kernel_rfl) (by kernel_rfl) (by kernel_rfl) (src_op (f := (intF (z ^ n))) 0 (by kernel_rfl) (by kernel_rfl) rfl) (storeI_zero _))
    refine steps_snoc (k := 0) ?_ (s_load (i := 0) hP (g := none) (isOp_of (by kernel_rfl) : IsOp rpw_o8 0 none (.load 27 (.tmp 6))) (by kernel_rfl) (by kernel_rfl) (grd_none) (bsrc_old 2 _ rfl rfl rfl (by kernel_rfl) (by kernel_rfl)) (fun w q h => loadI_int w q h) rfl)
    exact steps_nil
  · intro m a w hI hm
    exact ⟨(low_fact hst 0 rfl (by kernel_rfl) hI), (low_fact hst 1 rfl (by kernel_rfl) hI), (out_op hI hm 2 5 _ (by kernel_rfl) rfl), (low_fact hst 3 rfl (by kernel_rfl) hI), (low_fact hst 4 rfl (by kernel_rfl) hI), (low_fact hst 5 rfl (by kernel_rfl) hI), trivial⟩
set_option maxRecDepth 100000 in
theorem RPow_any (va : Value) (z : Int) (c n : Nat) (W : World) (ha : IntAt W va z) (hs : Sm z c) (hn : n ≤ 256) (hb : c * n + 1 ≤ 1000) (hb2 : c ≤ 1000) :
    Calls Tryd.prog 37 #[va, .int .i64 (n : Int)] W (GivesP (tup2F (intF (z ^ n)) (eqF (.int .i64 0))) W) := by
  refine calls_stW (S := [(0, (intF z)), (1, (eqF (.int .i64 n)))]) Tryd.func37 (by kernel_rfl) Tryd.ntmps37 (by simp) (fun x hx => ?_) fun a w hst => ?_
  · simp only [List.mem_cons, List.not_mem_nil, or_false] at hx
    rcases hx with rfl | rfl
    · exact ⟨_, rfl, ha⟩
    · exact ⟨_, rfl, rfl⟩
  show Code.wp _ rpw_n0 _ a w
  rw [rpw_e0]
  refine wp_seq ?_
  rw [rpw_e1]
  refine rpw_r0 hs hn hb hb2 hst ?_
  clear hst
  intro a w hst
  show Code.wp _ rpw_n2 _ a w
  rw [rpw_e2]
  refine wp_seq ?_
  rw [rpw_e3]
  refine wp_seq ?_
  rw [rpw_e5]
  refine rpw_r1 hs hn hb hb2 hst ?_
  clear hst
  intro a w hst
  show Code.wp _ rpw_n6 _ a w
  rw [rpw_e6]
  refine wp_cond_false (st_bool hst 3 rfl) ?_
  show Code.wp _ rpw_n8 _ a w
  rw [rpw_e8]
  refine wp_skip ?_
  show Code.wp _ rpw_n4 _ a w
  rw [rpw_e4]
  refine wp_seq ?_
  rw [rpw_e11]
  refine rpw_r3 hs hn hb hb2 hst ?_
  clear hst
  intro a w hst
  show Code.wp _ rpw_n12 _ a w
  rw [rpw_e12]
  refine wp_seq ?_
  rw [rpw_e13]
  refine wp_seq ?_
  rw [rpw_e15]
  refine rpw_r4 hs hn hb hb2 hst ?_
  clear hst
  intro a w hst
  show Code.wp _ rpw_n16 _ a w
  rw [rpw_e16]
  refine wp_block ?_
  show Code.wp _ rpw_n17 _ a w
  rw [rpw_e17]
  refine loop_ghost (fun (k : Nat) a w => St W 25 [(0, (intF z)), (1, (eqF (.int .i64 n))), (5, (eqF (.int .i64 0))), (7, (eqF (.int .i64 (k : Int)))), (13, (eqF (.bool false)))] [(2, (boxIF z)), (4, zeroIF), (6, (boxIF (z ^ k)))] a w ∧ k ≤ n) (fun k => n - k) ?_ (0 : Nat) ⟨by rw [show z ^ 0 = 1 from Int.pow_zero z]; exact hst, Nat.zero_le _⟩
  intro k a w ⟨hst, hk⟩
  have hck : c * k + 1 ≤ 1000 := Nat.le_trans (Nat.succ_le_succ (Nat.mul_le_mul_left c hk)) hb
  show Code.wp _ rpw_n18 _ a w
  by_cases hlt : k < n
  · rw [rpw_e18]
    refine wp_seq ?_
    rw [rpw_e19]
    refine wp_seq ?_
    rw [rpw_e21]
    refine rpw_r5 hs hn hb hb2 hck hlt hst ?_
    clear hst
    intro a w hst
    show Code.wp _ rpw_n22 _ a w
    rw [rpw_e22]
    refine wp_cond_true (st_bool hst 5 rfl) ?_
    show Code.wp _ rpw_n23 _ a w
    rw [rpw_e23]
    refine wp_skip ?_
    show Code.wp _ rpw_n20 _ a w
    rw [rpw_e20]
    refine wp_seq ?_
    rw [rpw_e25]
    refine wp_block ?_
    show Code.wp _ rpw_n27 _ a w
    rw [rpw_e27]
    refine rpw_r7 hs hn hb hb2 hck hlt hst ?_
    clear hst
    intro a w hst
    show Code.wp _ rpw_n26 _ a w
    rw [rpw_e26]
    refine rpw_r6 hs hn hb hb2 hck hlt hst ?_
    clear hst
    intro a w hst
    have e : z ^ k * z = z ^ (k + 1) := (Int.pow_succ z k).symm
    rw [e] at hst
    exact ⟨k + 1, ⟨(hst.to ⟨hst.slots.get (k := 0) rfl, hst.slots.get (k := 1) rfl, hst.slots.get (k := 2) rfl, hst.slots.get (k := 3) rfl, hst.slots.get (k := 4) rfl, trivial⟩), by omega⟩, by omega⟩
  · rw [rpw_e18]
    refine wp_seq ?_
    rw [rpw_e19]
    refine wp_seq ?_
    rw [rpw_e21]
    refine rpw_r5b hs hn hb hb2 hck hlt hst ?_
    clear hst
    intro a w hst
    show Code.wp _ rpw_n22 _ a w
    rw [rpw_e22]
    refine wp_cond_false (st_bool hst 5 rfl) ?_
    show Code.wp _ rpw_n24 _ a w
    rw [rpw_e24]
    refine wp_exit ?_
    have e : k = n := by omega
    rw [e] at hst
    show Code.wp _ rpw_n14 _ a w
    rw [rpw_e14]
    refine wp_seq ?_
    rw [rpw_e28]
    refine rpw_r8 hs hn hb hb2 hst ?_
    clear hst
    intro a w hst
    show Code.wp _ rpw_n29 _ a w
    rw [rpw_e29]
    refine wp_ret ?_
    exact ret_boxI_tmp hst rfl 1 rfl 2 rfl
end Go.Proofs.YtjajmonhcnmidaaDoor
