/- The reference's DivMod (written by wip/tools/gen_rdivmod.py). -/
import Derived.Test.YtjajmonhcnmidaaDoorqRDivide
namespace Go.Proofs.YtjajmonhcnmidaaDoor
open Go.RowKit

theorem kRDivide {x y i j : Nat} {va vb : Value} {w : World} (ha : (natF x).p va w) (hb : (natF y).p vb w) (sx : Sm ((x : Nat) : Int) i) (sy : Sm ((y : Nat) : Int) j) (hi : i ≤ 400) (hj : j ≤ 400) (hy0 : 0 < y) :
    Calls Tryd.prog 56 #[va, vb] w (GivesP (tup2F (intF ((x / y : Nat) : Int)) (intF ((x % y : Nat) : Int))) w) := by
  have hb : NatAt w vb y := hb
  obtain ⟨B, c, rfl, H⟩ := hb.open_
  have hl : len y ≠ 0 := fun h => by have := len_eq_zero.1 h; omega
  have hb2 : len y ≤ j := len_le_pow sy
  obtain ⟨bd, rfl, _, hc⟩ := H.out.mem.2.2.at_ (show len y - 1 < (limbs y).length by rw [len_limbs]; omega)
  have gq := getD_of_lt (show len y - 1 < (limbs y).length by rw [len_limbs]; omega)
  have ht := (limbs_32 y).get (show len y - 1 < (limbs y).length by rw [len_limbs]; omega)
  have ht0 := limbs_last hy0
  generalize (limbs y)[len y - 1]'(by rw [len_limbs]; omega) = t at *
  refine RDivide_any va x y i j (len y) c t bd w ha sx sy hi hj H.out hc (by omega) (by omega) (by omega) ht hy0 fun h => ?_
  rw [h] at gq
  obtain ⟨lo, e, hlo⟩ := top_split (y := y) (n := 0) h gq
  omega
theorem rdmpl_quadrature_quadratureref01_Add : Plainly 22 := fun _ _ => by simp [go_sem]
theorem rdmpl_quadrature_quadratureref01_Made : Plainly 32 := fun _ _ => by simp [go_sem]
theorem rdmpl_quadrature_quadratureref01_Neg : Plainly 25 := fun _ _ => by simp [go_sem]
theorem rdmpl_quadrature_quadratureref01_Of : Plainly 42 := fun _ _ => by simp [go_sem]
theorem rdmpl_quadrature_quadratureref01_Sign : Plainly 29 := fun _ _ => by simp [go_sem]
theorem rdmpl_quadrature_quadratureref01_Sub : Plainly 23 := fun _ _ => by simp [go_sem]
theorem rdmpl_quadrature_quadratureref01_divide : Plainly 56 := fun _ _ => by simp [go_sem]
noncomputable def rdm_n0 : Code := bodyOf Tryd.f35
noncomputable def rdm_n1 : Code := cl rdm_n0
noncomputable def rdm_n2 : Code := cr rdm_n0
theorem rdm_e0 : rdm_n0 = .seq rdm_n1 rdm_n2 := by kernel_rfl
noncomputable def rdm_o0 : Array Oper := opsOf rdm_n1
theorem rdm_e1 : rdm_n1 = .region 0 rdm_o0 false := by kernel_rfl
noncomputable def rdm_n3 : Code := cl rdm_n2
noncomputable def rdm_n4 : Code := cr rdm_n2
theorem rdm_e2 : rdm_n2 = .seq rdm_n3 rdm_n4 := by kernel_rfl
noncomputable def rdm_o1 : Array Oper := opsOf rdm_n3
theorem rdm_e3 : rdm_n3 = .region 1 rdm_o1 true := by kernel_rfl
noncomputable def rdm_n5 : Code := cl rdm_n4
noncomputable def rdm_n6 : Code := cr rdm_n4
theorem rdm_e4 : rdm_n4 = .seq rdm_n5 rdm_n6 := by kernel_rfl
noncomputable def rdm_n7 : Code := cl rdm_n5
noncomputable def rdm_n8 : Code := cr rdm_n5
theorem rdm_e5 : rdm_n5 = .seq rdm_n7 rdm_n8 := by kernel_rfl
noncomputable def rdm_o2 : Array Oper := opsOf rdm_n7
theorem rdm_e7 : rdm_n7 = .region 2 rdm_o2 false := by kernel_rfl
noncomputable def rdm_n9 : Code := cl rdm_n8
noncomputable def rdm_n10 : Code := cr rdm_n8
theorem rdm_e8 : rdm_n8 = .cond (.tmp 21) rdm_n9 rdm_n10 := by kernel_rfl
noncomputable def rdm_n11 : Code := cl rdm_n9
noncomputable def rdm_n12 : Code := cr rdm_n9
theorem rdm_e9 : rdm_n9 = .seq rdm_n11 rdm_n12 := by kernel_rfl
noncomputable def rdm_o3 : Array Oper := opsOf rdm_n11
theorem rdm_e11 : rdm_n11 = .region 3 rdm_o3 false := by kernel_rfl
theorem rdm_e12 : rdm_n12 = .ret := by kernel_rfl
theorem rdm_e10 : rdm_n10 = .skip := by kernel_rfl
noncomputable def rdm_n13 : Code := cl rdm_n6
noncomputable def rdm_n14 : Code := cr rdm_n6
theorem rdm_e6 : rdm_n6 = .seq rdm_n13 rdm_n14 := by kernel_rfl
noncomputable def rdm_o4 : Array Oper := opsOf rdm_n13
theorem rdm_e13 : rdm_n13 = .region 4 rdm_o4 false := by kernel_rfl
noncomputable def rdm_n15 : Code := cl rdm_n14
noncomputable def rdm_n16 : Code := cr rdm_n14
theorem rdm_e14 : rdm_n14 = .seq rdm_n15 rdm_n16 := by kernel_rfl
noncomputable def rdm_n17 : Code := cl rdm_n15
noncomputable def rdm_n18 : Code := cr rdm_n15
theorem rdm_e15 : rdm_n15 = .seq rdm_n17 rdm_n18 := by kernel_rfl
noncomputable def rdm_o5 : Array Oper := opsOf rdm_n17
theorem rdm_e17 : rdm_n17 = .region 5 rdm_o5 false := by kernel_rfl
noncomputable def rdm_n19 : Code := cl rdm_n18
noncomputable def rdm_n20 : Code := cr rdm_n18
theorem rdm_e18 : rdm_n18 = .cond (.tmp 38) rdm_n19 rdm_n20 := by kernel_rfl
noncomputable def rdm_n21 : Code := cl rdm_n19
noncomputable def rdm_n22 : Code := cr rdm_n19
theorem rdm_e19 : rdm_n19 = .seq rdm_n21 rdm_n22 := by kernel_rfl
noncomputable def rdm_o6 : Array Oper := opsOf rdm_n21
theorem rdm_e21 : rdm_n21 = .region 6 rdm_o6 true := by kernel_rfl
noncomputable def rdm_o7 : Array Oper := opsOf rdm_n22
theorem rdm_e22 : rdm_n22 = .region 7 rdm_o7 true := by kernel_rfl
theorem rdm_e20 : rdm_n20 = .skip := by kernel_rfl
noncomputable def rdm_n23 : Code := cl rdm_n16
noncomputable def rdm_n24 : Code := cr rdm_n16
theorem rdm_e16 : rdm_n16 = .seq rdm_n23 rdm_n24 := by kernel_rfl
noncomputable def rdm_n25 : Code := cl rdm_n23
noncomputable def rdm_n26 : Code := cr rdm_n23
theorem rdm_e23 : rdm_n23 = .seq rdm_n25 rdm_n26 := by kernel_rfl
noncomputable def rdm_o8 : Array Oper := opsOf rdm_n25
theorem rdm_e25 : rdm_n25 = .region 8 rdm_o8 false := by kernel_rfl
noncomputable def rdm_n27 : Code := cl rdm_n26
noncomputable def rdm_n28 : Code := cr rdm_n26
theorem rdm_e26 : rdm_n26 = .cond (.tmp 51) rdm_n27 rdm_n28 := by kernel_rfl
noncomputable def rdm_o9 : Array Oper := opsOf rdm_n27
theorem rdm_e27 : rdm_n27 = .region 9 rdm_o9 false := by kernel_rfl
theorem rdm_e28 : rdm_n28 = .skip := by kernel_rfl
noncomputable def rdm_n29 : Code := cl rdm_n24
noncomputable def rdm_n30 : Code := cr rdm_n24
theorem rdm_e24 : rdm_n24 = .seq rdm_n29 rdm_n30 := by kernel_rfl
noncomputable def rdm_o10 : Array Oper := opsOf rdm_n29
theorem rdm_e29 : rdm_n29 = .region 10 rdm_o10 true := by kernel_rfl
theorem rdm_e30 : rdm_n30 = .ret := by kernel_rfl
set_option maxRecDepth 100000 in
theorem rdm_r0 {Q : Exit → Act → World → Prop} {Wb W0 : World} {a0 : Act} {x y : Int} {i j : Nat} (_sx : Sm x i) (_sy : Sm y j) (_hi : i ≤ 400) (_hj : j ≤ 400)  (hst : St Wb 56 [(0, (intF x)), (1, (intF y))] [] a0 W0)
    (fin : ∀ a w, St Wb 56 [(0, (intF x)), (1, (intF y)), (6, (eqF (.int .i64 0)))] [(2, (boxIF x)), (3, (boxIF y)), (4, zeroIF), (5, zeroIF)] a w → Q .normal a w) : (Code.region 0 rdm_o0 false).wp Tryd.prog Q a0 W0 := by
  have hP : Plan rdm_o0 56 ([⟨2, some 0, none, (boxIF x), (boxIF x)⟩, ⟨3, some 1, none, (boxIF y), (boxIF y)⟩, ⟨4, some 2, none, zeroIF, zeroIF⟩, ⟨5, some 3, none, zeroIF, zeroIF⟩] : List BoxS) [] := ⟨by kernel_rfl, by kernel_rfl, by kernel_rfl, by kernel_rfl, by kernel_rfl, by kernel_rfl⟩
  refine region_st (F := [anyF, anyF, anyF, anyF, (eqF (.int .i64 0))]) hP hst rfl rfl ?_ ?_ fin
  · show Steps rdm_o0 56 Wb W0 a0 _ _ _ 5
    refine steps_snoc (k := 4) ?_ (s_assign (i := 4) hP (g := none) (isOp_of (by kernel_rfl) : IsOp rdm_o0 4 none (.assign (.const (.int .i64 0)))) (by kernel_rfl) (by kernel_rfl) (grd_none) (src_const _) rfl)
    refine steps_snoc (k := 3) ?_ (s_alloc (i := 3) (d := 5) hP 3 _ (isOp_of (by kernel_rfl) : IsOp rdm_o0 3 none (.alloc 27)) (by kernel_rfl) rfl rfl rfl (by kernel_rfl) (by kernel_rfl) (by kernel_rfl) (by kernel_rfl) rfl allocI_run allocI_old)
    refine steps_snoc (k := 2) ?_ (s_alloc (i := 2) (d := 4) hP 2 _ (isOp_of (by kernel_rfl) : IsOp rdm_o0 2 none (.alloc 27)) (by kernel_rfl) rfl rfl rfl (by kernel_rfl) (by kernel_rfl) (by kernel_rfl) (by kernel_rfl) rfl allocI_run allocI_old)
    refine steps_snoc (k := 1) ?_ (s_box (i := 1) (d := 3) hP 1 _ (isOp_of (by kernel_rfl) : IsOp rdm_o0 1 none (.box 27 (.tmp 1))) (by kernel_rfl) rfl rfl rfl (by kernel_rfl) (by kernel_rfl) (by kernel_rfl) (by kernel_rfl) rfl (src_low hst 1 rfl (by kernel_rfl)) (fun w v h => boxI_run w v h))
    refine steps_snoc (k := 0) ?_ (s_box (i := 0) (d := 2) hP 0 _ (isOp_of (by kernel_rfl) : IsOp rdm_o0 0 none (.box 27 (.tmp 0))) (by kernel_rfl) rfl rfl rfl (by kernel_rfl) (by kernel_rfl) (by kernel_rfl) (by kernel_rfl) rfl (src_low hst 0 rfl (by kernel_rfl)) (fun w v h => boxI_run w v h))
    exact steps_nil
  · intro m a w hI hm
    exact ⟨(low_fact hst 0 rfl (by kernel_rfl) hI), (low_fact hst 1 rfl (by kernel_rfl) hI), (out_op hI hm 4 6 _ (by kernel_rfl) rfl), trivial⟩
set_option maxRecDepth 100000 in
theorem rdm_r1 {Q : Exit → Act → World → Prop} {Wb W0 : World} {a0 : Act} {x y : Int} {i j : Nat} (sx : Sm x i) (sy : Sm y j) (_hi : i ≤ 400) (_hj : j ≤ 400)  (hst : St Wb 56 [(0, (intF x)), (1, (intF y)), (6, (eqF (.int .i64 0)))] [(2, (boxIF x)), (3, (boxIF y)), (4, zeroIF), (5, zeroIF)] a0 W0)
    (fin : ∀ a w, St Wb 56 [(0, (intF x)), (1, (intF y)), (6, (eqF (.int .i64 0)))] [(2, (boxIF x)), (3, (boxIF y)), (4, zeroIF), (5, zeroIF)] a w → Q .normal a w) : (Code.region 1 rdm_o1 true).wp Tryd.prog Q a0 W0 := by
  have hP : Plan rdm_o1 56 ([⟨2, none, some 10, (boxIF x), (boxIF x)⟩, ⟨3, none, some 11, (boxIF y), (boxIF y)⟩, ⟨4, none, none, zeroIF, zeroIF⟩, ⟨5, none, none, zeroIF, zeroIF⟩] : List BoxS) [(0, 2, 1), (2, 2, 0), (5, 3, 1), (7, 3, 0)] := ⟨by kernel_rfl, by kernel_rfl, by kernel_rfl, by kernel_rfl, by kernel_rfl, by kernel_rfl⟩
  refine region_st (F := [anyF, (natF x.natAbs), anyF, (eqF (.bool (decide (x < 0)))), (intF x), anyF, (natF y.natAbs), anyF, (eqF (.bool (decide (y < 0)))), (intF y), anyF, anyF]) hP hst rfl rfl ?_ ?_ fin
  · show Steps rdm_o1 56 Wb W0 a0 _ _ _ 12
    refine steps_snoc (k := 11) ?_ (s_store (i := 11) 1 _ (isOp_of (by kernel_rfl) : IsOp rdm_o1 11 none (.store 27 (.tmp 3) (.tmp 18))) (by kernel_rfl) rfl rfl rfl (by kernel_rfl) (by kernel_rfl) (by kernel_rfl) (src_op (f := (intF y)) 9 (by kernel_rfl) (by kernel_rfl) rfl) (storeI_box _ _))
    refine steps_snoc (k := 10) ?_ (s_store (i := 10) 0 _ (isOp_of (by kernel_rfl) : IsOp rdm_o1 10 none (.store 27 (.tmp 2) (.tmp 13))) (by kernel_rfl) rfl rfl rfl (by kernel_rfl) (by kernel_rfl) (by kernel_rfl) (src_op (f := (intF x)) 4 (by kernel_rfl) (by kernel_rfl) rfl) (storeI_box _ _))
    refine steps_snoc (k := 9) ?_ (s_call2 (i := 9) hP (g := none) (isOp_of (by kernel_rfl) : IsOp rdm_o1 9 none (.call { callee := .value (.func 32), args := #[.tmp 15, .tmp 17], argTypes := #[22, 4] })) (by kernel_rfl) (by kernel_rfl) (grd_none) (src_op (f := (natF y.natAbs)) 6 (by kernel_rfl) (by kernel_rfl) rfl) (src_op (f := (eqF (.bool (decide (y < 0))))) 8 (by kernel_rfl) (by kernel_rfl) rfl) rdmpl_quadrature_quadratureref01_Made (fun w v0 v1 hb h0 h1 => kRMadeS h0 h1 (Nat.le_trans (len_le_pow sy) (by omega))) rfl)
    refine steps_snoc (k := 8) ?_ (s_load (i := 8) hP (g := none) (isOp_of (by kernel_rfl) : IsOp rdm_o1 8 none (.load 4 (.tmp 16))) (by kernel_rfl) (by kernel_rfl) (grd_none) (bsrc_at 7 (bsrc_old 1 _ rfl rfl rfl (by kernel_rfl) (by kernel_rfl)) (by kernel_rfl) (by kernel_rfl) (by kernel_rfl)) (fun w q h => loadI_neg rfl w q h) rfl)
    refine steps_snoc (k := 7) ?_ (step_addr (i := 7) (d := 16) (g := none) hP (isOp_of (by kernel_rfl) : IsOp rdm_o1 7 none (.fieldAddr 27 (.tmp 3) 0)) (by kernel_rfl) (by kernel_rfl) 0 rfl rfl _ 1 rfl rfl (by kernel_rfl) (grd_none) fldI0)
    refine steps_snoc (k := 6) ?_ (s_load (i := 6) hP (g := none) (isOp_of (by kernel_rfl) : IsOp rdm_o1 6 none (.load 22 (.tmp 14))) (by kernel_rfl) (by kernel_rfl) (grd_none) (bsrc_at 5 (bsrc_old 1 _ rfl rfl rfl (by kernel_rfl) (by kernel_rfl)) (by kernel_rfl) (by kernel_rfl) (by kernel_rfl)) (fun w q h => loadI_mag w q h) rfl)
    refine steps_snoc (k := 5) ?_ (step_addr (i := 5) (d := 14) (g := none) hP (isOp_of (by kernel_rfl) : IsOp rdm_o1 5 none (.fieldAddr 27 (.tmp 3) 1)) (by kernel_rfl) (by kernel_rfl) 1 rfl rfl _ 1 rfl rfl (by kernel_rfl) (grd_none) fldI1)
    refine steps_snoc (k := 4) ?_ (s_call2 (i := 4) hP (g := none) (isOp_of (by kernel_rfl) : IsOp rdm_o1 4 none (.call { callee := .value (.func 32), args := #[.tmp 10, .tmp 12], argTypes := #[22, 4] })) (by kernel_rfl) (by kernel_rfl) (grd_none) (src_op (f := (natF x.natAbs)) 1 (by kernel_rfl) (by kernel_rfl) rfl) (src_op (f := (eqF (.bool (decide (x < 0))))) 3 (by kernel_rfl) (by kernel_rfl) rfl) rdmpl_quadrature_quadratureref01_Made (fun w v0 v1 hb h0 h1 => kRMadeS h0 h1 (Nat.le_trans (len_le_pow sx) (by omega))) rfl)
    refine steps_snoc (k := 3) ?_ (s_load (i := 3) hP (g := none) (isOp_of (by kernel_rfl) : IsOp rdm_o1 3 none (.load 4 (.tmp 11))) (by kernel_rfl) (by kernel_rfl) (grd_none) (bsrc_at 2 (bsrc_old 0 _ rfl rfl rfl (by kernel_rfl) (by kernel_rfl)) (by kernel_rfl) (by kernel_rfl) (by kernel_rfl)) (fun w q h => loadI_neg rfl w q h) rfl)
    refine steps_snoc (k := 2) ?_ (step_addr (i := 2) (d := 11) (g := none) hP (isOp_of (by kernel_rfl) : IsOp rdm_o1 2 none (.fieldAddr 27 (.tmp 2) 0)) (by kernel_rfl) (by kernel_rfl) 0 rfl rfl _ 0 rfl rfl (by kernel_rfl) (grd_none) fldI0)
    refine steps_snoc (k := 1) ?_ (s_load (i := 1) hP (g := none) (isOp_of (by kernel_rfl) : IsOp rdm_o1 1 none (.load 22 (.tmp 9))) (by kernel_rfl) (by kernel_rfl) (grd_none) (bsrc_at 0 (bsrc_old 0 _ rfl rfl rfl (by kernel_rfl) (by kernel_rfl)) (by kernel_rfl) (by kernel_rfl) (by kernel_rfl)) (fun w q h => loadI_mag w q h) rfl)
    refine steps_snoc (k := 0) ?_ (step_addr (i := 0) (d := 9) (g := none) hP (isOp_of (by kernel_rfl) : IsOp rdm_o1 0 none (.fieldAddr 27 (.tmp 2) 1)) (by kernel_rfl) (by kernel_rfl) 1 rfl rfl _ 0 rfl rfl (by kernel_rfl) (grd_none) fldI1)
    exact steps_nil
  · intro m a w hI hm
    exact ⟨(low_fact hst 0 rfl (by kernel_rfl) hI), (low_fact hst 1 rfl (by kernel_rfl) hI), (low_fact hst 2 rfl (by kernel_rfl) hI), trivial⟩
set_option maxRecDepth 100000 in
theorem rdm_r2 {Q : Exit → Act → World → Prop} {Wb W0 : World} {a0 : Act} {x y : Int} {i j : Nat} (_sx : Sm x i) (sy : Sm y j) (_hi : i ≤ 400) (_hj : j ≤ 400) (ny : y ≠ 0) (hst : St Wb 56 [(0, (intF x)), (1, (intF y)), (6, (eqF (.int .i64 0)))] [(2, (boxIF x)), (3, (boxIF y)), (4, zeroIF), (5, zeroIF)] a0 W0)
    (fin : ∀ a w, St Wb 56 [(0, (intF x)), (1, (intF y)), (6, (eqF (.int .i64 0))), (21, (eqF (.bool false)))] [(2, (boxIF x)), (3, (boxIF y)), (4, zeroIF), (5, zeroIF)] a w → Q .normal a w) : (Code.region 2 rdm_o2 false).wp Tryd.prog Q a0 W0 := by
  have hP : Plan rdm_o2 56 ([⟨2, none, none, (boxIF x), (boxIF x)⟩, ⟨3, none, none, (boxIF y), (boxIF y)⟩, ⟨4, none, none, zeroIF, zeroIF⟩, ⟨5, none, none, zeroIF, zeroIF⟩] : List BoxS) [] := ⟨by kernel_rfl, by kernel_rfl, by kernel_rfl, by kernel_rfl, by kernel_rfl, by kernel_rfl⟩
  refine region_st (F := [(intF y), (eqF (.int .i64 (Int.sign y))), (eqF (.bool false))]) hP hst rfl rfl ?_ ?_ fin
  · show Steps rdm_o2 56 Wb W0 a0 _ _ _ 3
    refine steps_snoc (k := 2) ?_ (s_op2 (i := 2) hP (g := none) (isOp_of (by kernel_rfl) : IsOp rdm_o2 2 none (.binOp .eql 3 (.tmp 20) (.const (.int .i64 0)) 3)) (by kernel_rfl) (by kernel_rfl) (grd_none) (src_op (f := (eqF (.int .i64 (Int.sign y)))) 1 (by kernel_rfl) (by kernel_rfl) rfl) (src_const _) (fun ρ w hx hy => h_eqlI (r := false) (by simp [Int.sign_eq_zero_iff_zero, ny]) hx hy) rfl)
    refine steps_snoc (k := 1) ?_ (s_call1 (i := 1) hP (g := none) (isOp_of (by kernel_rfl) : IsOp rdm_o2 1 none (.call { callee := .value (.func 29), args := #[.tmp 19], argTypes := #[27] })) (by kernel_rfl) (by kernel_rfl) (grd_none) (src_op (f := (intF y)) 0 (by kernel_rfl) (by kernel_rfl) rfl) rdmpl_quadrature_quadratureref01_Sign (fun w v0 hb h0 => kRSign h0 sy (by first | decide | assumption | omega)) rfl)
    refine steps_snoc (k := 0) ?_ (s_load (i := 0) hP (g := none) (isOp_of (by kernel_rfl) : IsOp rdm_o2 0 none (.load 27 (.tmp 3))) (by kernel_rfl) (by kernel_rfl) (grd_none) (bsrc_old 1 _ rfl rfl rfl (by kernel_rfl) (by kernel_rfl)) (fun w q h => loadI_int w q h) rfl)
    exact steps_nil
  · intro m a w hI hm
    exact ⟨(low_fact hst 0 rfl (by kernel_rfl) hI), (low_fact hst 1 rfl (by kernel_rfl) hI), (low_fact hst 2 rfl (by kernel_rfl) hI), (out_op hI hm 2 21 _ (by kernel_rfl) rfl), trivial⟩
set_option maxRecDepth 100000 in
theorem rdm_r4 {Q : Exit → Act → World → Prop} {Wb W0 : World} {a0 : Act} {x y : Int} {i j : Nat} (sx : Sm x i) (sy : Sm y j) (hi : i ≤ 400) (hj : j ≤ 400) (_ny : y ≠ 0) (hst : St Wb 56 [(0, (intF x)), (1, (intF y)), (6, (eqF (.int .i64 0))), (21, (eqF (.bool false)))] [(2, (boxIF x)), (3, (boxIF y)), (4, zeroIF), (5, zeroIF)] a0 W0)
    (fin : ∀ a w, St Wb 56 [(0, (intF x)), (1, (intF y)), (6, (eqF (.int .i64 0))), (21, (eqF (.bool false)))] [(2, (boxIF x)), (3, (boxIF y)), (4, zeroIF), (5, zeroIF), (7, (boxIF ((x.natAbs / y.natAbs : Nat) : Int))), (8, (boxIF ((x.natAbs % y.natAbs : Nat) : Int)))] a w → Q .normal a w) : (Code.region 4 rdm_o4 false).wp Tryd.prog Q a0 W0 := by
  have hP : Plan rdm_o4 56 ([⟨2, none, none, (boxIF x), (boxIF x)⟩, ⟨3, none, none, (boxIF y), (boxIF y)⟩, ⟨4, none, none, zeroIF, zeroIF⟩, ⟨5, none, none, zeroIF, zeroIF⟩, ⟨7, some 8, some 10, zeroIF, (boxIF ((x.natAbs / y.natAbs : Nat) : Int))⟩, ⟨8, some 9, some 11, zeroIF, (boxIF ((x.natAbs % y.natAbs : Nat) : Int))⟩] : List BoxS) [(0, 2, 1), (2, 3, 1)] := ⟨by kernel_rfl, by kernel_rfl, by kernel_rfl, by kernel_rfl, by kernel_rfl, by kernel_rfl⟩
  refine region_st (F := [anyF, (natF x.natAbs), anyF, (natF y.natAbs), (tup2F (intF ((x.natAbs / y.natAbs : Nat) : Int)) (intF ((x.natAbs % y.natAbs : Nat) : Int))), (tup2F (intF ((x.natAbs / y.natAbs : Nat) : Int)) (intF ((x.natAbs % y.natAbs : Nat) : Int))), (intF ((x.natAbs / y.natAbs : Nat) : Int)), (intF ((x.natAbs % y.natAbs : Nat) : Int)), anyF, anyF, anyF, anyF]) hP hst rfl rfl ?_ ?_ fin
  · show Steps rdm_o4 56 Wb W0 a0 _ _ _ 12
    refine steps_snoc (k := 11) ?_ (s_store (i := 11) 5 _ (isOp_of (by kernel_rfl) : IsOp rdm_o4 11 none (.store 27 (.tmp 8) (.tmp 31))) (by kernel_rfl) rfl rfl rfl (by kernel_rfl) (by kernel_rfl) (by kernel_rfl) (src_op (f := (intF ((x.natAbs % y.natAbs : Nat) : Int))) 7 (by kernel_rfl) (by kernel_rfl) rfl) (storeI_zero _))
    refine steps_snoc (k := 10) ?_ (s_store (i := 10) 4 _ (isOp_of (by kernel_rfl) : IsOp rdm_o4 10 none (.store 27 (.tmp 7) (.tmp 30))) (by kernel_rfl) rfl rfl rfl (by kernel_rfl) (by kernel_rfl) (by kernel_rfl) (src_op (f := (intF ((x.natAbs / y.natAbs : Nat) : Int))) 6 (by kernel_rfl) (by kernel_rfl) rfl) (storeI_zero _))
    refine steps_snoc (k := 9) ?_ (s_alloc (i := 9) (d := 8) hP 5 _ (isOp_of (by kernel_rfl) : IsOp rdm_o4 9 none (.alloc 27)) (by kernel_rfl) rfl rfl rfl (by kernel_rfl) (by kernel_rfl) (by kernel_rfl) (by kernel_rfl) rfl allocI_run allocI_old)
    refine steps_snoc (k := 8) ?_ (s_alloc (i := 8) (d := 7) hP 4 _ (isOp_of (by kernel_rfl) : IsOp rdm_o4 8 none (.alloc 27)) (by kernel_rfl) rfl rfl rfl (by kernel_rfl) (by kernel_rfl) (by kernel_rfl) (by kernel_rfl) rfl allocI_run allocI_old)
    refine steps_snoc (k := 7) ?_ (s_op1 (i := 7) hP (g := none) (isOp_of (by kernel_rfl) : IsOp rdm_o4 7 none (.extract (.tmp 24) 1)) (by kernel_rfl) (by kernel_rfl) (grd_none) (src_op (f := (tup2F (intF ((x.natAbs / y.natAbs : Nat) : Int)) (intF ((x.natAbs % y.natAbs : Nat) : Int)))) 5 (by kernel_rfl) (by kernel_rfl) rfl) (fun ρ w hx => h_ext2_1 hx) rfl)
    refine steps_snoc (k := 6) ?_ (s_op1 (i := 6) hP (g := none) (isOp_of (by kernel_rfl) : IsOp rdm_o4 6 none (.extract (.tmp 24) 0)) (by kernel_rfl) (by kernel_rfl) (grd_none) (src_op (f := (tup2F (intF ((x.natAbs / y.natAbs : Nat) : Int)) (intF ((x.natAbs % y.natAbs : Nat) : Int)))) 5 (by kernel_rfl) (by kernel_rfl) rfl) (fun ρ w hx => h_ext2_0 hx) rfl)
    refine steps_snoc (k := 5) ?_ (s_move (i := 5) hP (g := none) (isOp_of (by kernel_rfl) : IsOp rdm_o4 5 none (.move (.tmp 29))) (by kernel_rfl) (by kernel_rfl) (grd_none) (src_op (f := (tup2F (intF ((x.natAbs / y.natAbs : Nat) : Int)) (intF ((x.natAbs % y.natAbs : Nat) : Int)))) 4 (by kernel_rfl) (by kernel_rfl) rfl) rfl)
    refine steps_snoc (k := 4) ?_ (s_call2 (i := 4) hP (g := none) (isOp_of (by kernel_rfl) : IsOp rdm_o4 4 none (.call { callee := .value (.func 56), args := #[.tmp 26, .tmp 28], argTypes := #[22, 22] })) (by kernel_rfl) (by kernel_rfl) (grd_none) (src_op (f := (natF x.natAbs)) 1 (by kernel_rfl) (by kernel_rfl) rfl) (src_op (f := (natF y.natAbs)) 3 (by kernel_rfl) (by kernel_rfl) rfl) rdmpl_quadrature_quadratureref01_divide (fun w v0 v1 hb h0 h1 => kRDivide h0 h1 sx.abs sy.abs hi hj (by omega)) rfl)
    refine steps_snoc (k := 3) ?_ (s_load (i := 3) hP (g := none) (isOp_of (by kernel_rfl) : IsOp rdm_o4 3 none (.load 22 (.tmp 27))) (by kernel_rfl) (by kernel_rfl) (grd_none) (bsrc_at 2 (bsrc_old 1 _ rfl rfl rfl (by kernel_rfl) (by kernel_rfl)) (by kernel_rfl) (by kernel_rfl) (by kernel_rfl)) (fun w q h => loadI_mag w q h) rfl)
    refine steps_snoc (k := 2) ?_ (step_addr (i := 2) (d := 27) (g := none) hP (isOp_of (by kernel_rfl) : IsOp rdm_o4 2 none (.fieldAddr 27 (.tmp 3) 1)) (by kernel_rfl) (by kernel_rfl) 1 rfl rfl _ 1 rfl rfl (by kernel_rfl) (grd_none) fldI1)
    refine steps_snoc (k := 1) ?_ (s_load (i := 1) hP (g := none) (isOp_of (by kernel_rfl) : IsOp rdm_o4 1 none (.load 22 (.tmp 25))) (by kernel_rfl) (by kernel_rfl) (grd_none) (bsrc_at 0 (bsrc_old 0 _ rfl rfl rfl (by kernel_rfl) (by kernel_rfl)) (by kernel_rfl) (by kernel_rfl) (by kernel_rfl)) (fun w q h => loadI_mag w q h) rfl)
    refine steps_snoc (k := 0) ?_ (step_addr (i := 0) (d := 25) (g := none) hP (isOp_of (by kernel_rfl) : IsOp rdm_o4 0 none (.fieldAddr 27 (.tmp 2) 1)) (by kernel_rfl) (by kernel_rfl) 1 rfl rfl _ 0 rfl rfl (by kernel_rfl) (grd_none) fldI1)
    exact steps_nil
  · intro m a w hI hm
    exact ⟨(low_fact hst 0 rfl (by kernel_rfl) hI), (low_fact hst 1 rfl (by kernel_rfl) hI), (low_fact hst 2 rfl (by kernel_rfl) hI), (low_fact hst 3 rfl (by kernel_rfl) hI), trivial⟩
set_option maxRecDepth 100000 in
theorem rdm_r5 {Q : Exit → Act → World → Prop} {Wb W0 : World} {a0 : Act} {x y : Int} {i j : Nat} (sx : Sm x i) (_sy : Sm y j) (_hi : i ≤ 400) (_hj : j ≤ 400) (_ny : y ≠ 0) (_nx : x < 0) (hr : 0 < ((x.natAbs % y.natAbs : Nat) : Int)) (_hs : 0 < y) (hst : St Wb 56 [(0, (intF x)), (1, (intF y)), (6, (eqF (.int .i64 0))), (21, (eqF (.bool false)))] [(2, (boxIF x)), (3, (boxIF y)), (4, zeroIF), (5, zeroIF), (7, (boxIF ((x.natAbs / y.natAbs : Nat) : Int))), (8, (boxIF ((x.natAbs % y.natAbs : Nat) : Int)))] a0 W0)
    (fin : ∀ a w, St Wb 56 [(0, (intF x)), (1, (intF y)), (6, (eqF (.int .i64 0))), (21, (eqF (.bool false))), (38, (eqF (.bool true)))] [(2, (boxIF x)), (3, (boxIF y)), (4, zeroIF), (5, zeroIF), (7, (boxIF ((x.natAbs / y.natAbs : Nat) : Int))), (8, (boxIF ((x.natAbs % y.natAbs : Nat) : Int)))] a w → Q .normal a w) : (Code.region 5 rdm_o5 false).wp Tryd.prog Q a0 W0 := by
  have hP : Plan rdm_o5 56 ([⟨2, none, none, (boxIF x), (boxIF x)⟩, ⟨3, none, none, (boxIF y), (boxIF y)⟩, ⟨4, none, none, zeroIF, zeroIF⟩, ⟨5, none, none, zeroIF, zeroIF⟩, ⟨7, none, none, (boxIF ((x.natAbs / y.natAbs : Nat) : Int)), (boxIF ((x.natAbs / y.natAbs : Nat) : Int))⟩, ⟨8, none, none, (boxIF ((x.natAbs % y.natAbs : Nat) : Int)), (boxIF ((x.natAbs % y.natAbs : Nat) : Int))⟩] : List BoxS) [(0, 2, 0)] := ⟨by kernel_rfl, by kernel_rfl, by kernel_rfl, by kernel_rfl, by kernel_rfl, by kernel_rfl⟩
  refine region_st (F := [anyF, (eqF (.bool true)), (eqF (.bool true)), (intF ((x.natAbs % y.natAbs : Nat) : Int)), (eqF (.int .i64 (Int.sign ((x.natAbs % y.natAbs : Nat) : Int)))), (eqF (.bool true)), (eqF (.bool true))]) hP hst rfl rfl ?_ ?_ fin
  · show Steps rdm_o5 56 Wb W0 a0 _ _ _ 7
    refine steps_snoc (k := 6) ?_ (s_pickT (i := 6) hP (g := none) (isOp_of (by kernel_rfl) : IsOp rdm_o5 6 none (.pick (.tmp 34) (.tmp 37) (.const (.bool false)))) (by kernel_rfl) (by kernel_rfl) (grd_none) (src_op (f := (eqF (.bool true))) 2 (by kernel_rfl) (by kernel_rfl) rfl) (src_op (f := (eqF (.bool true))) 5 (by kernel_rfl) (by kernel_rfl) rfl) rfl)
    refine steps_snoc (k := 5) ?_ (s_op2 (i := 5) hP (g := (some (2, true))) (isOp_of (by kernel_rfl) : IsOp rdm_o5 5 (some (2, true)) (.binOp .gtr 3 (.tmp 36) (.const (.int .i64 0)) 3)) (by kernel_rfl) (by kernel_rfl) (grd_op (d := 34) (by kernel_rfl) (by kernel_rfl) rfl rfl) (src_op (f := (eqF (.int .i64 (Int.sign ((x.natAbs % y.natAbs : Nat) : Int))))) 4 (by kernel_rfl) (by kernel_rfl) rfl) (src_const _) (fun ρ w hx hy => h_gtr (r := true) (by rw [Int.sign_eq_one_of_pos hr]; decide) hx hy) rfl)
    refine steps_snoc (k := 4) ?_ (s_call1 (i := 4) hP (g := (some (2, true))) (isOp_of (by kernel_rfl) : IsOp rdm_o5 4 (some (2, true)) (.call { callee := .value (.func 29), args := #[.tmp 35], argTypes := #[27] })) (by kernel_rfl) (by kernel_rfl) (grd_op (d := 34) (by kernel_rfl) (by kernel_rfl) rfl rfl) (src_op (f := (intF ((x.natAbs % y.natAbs : Nat) : Int))) 3 (by kernel_rfl) (by kernel_rfl) rfl) rdmpl_quadrature_quadratureref01_Sign (fun w v0 hb h0 => kRSign h0 (sm_le sx.abs (Nat.mod_le _ _)) (by first | decide | assumption | omega)) rfl)
    refine steps_snoc (k := 3) ?_ (s_load (i := 3) hP (g := (some (2, true))) (isOp_of (by kernel_rfl) : IsOp rdm_o5 3 (some (2, true)) (.load 27 (.tmp 8))) (by kernel_rfl) (by kernel_rfl) (grd_op (d := 34) (by kernel_rfl) (by kernel_rfl) rfl rfl) (bsrc_old 5 _ rfl rfl rfl (by kernel_rfl) (by kernel_rfl)) (fun w q h => loadI_int w q h) rfl)
    refine steps_snoc (k := 2) ?_ (s_move (i := 2) hP (g := none) (isOp_of (by kernel_rfl) : IsOp rdm_o5 2 none (.move (.tmp 33))) (by kernel_rfl) (by kernel_rfl) (grd_none) (src_op (f := (eqF (.bool true))) 1 (by kernel_rfl) (by kernel_rfl) rfl) rfl)
    refine steps_snoc (k := 1) ?_ (s_load (i := 1) hP (g := none) (isOp_of (by kernel_rfl) : IsOp rdm_o5 1 none (.load 4 (.tmp 32))) (by kernel_rfl) (by kernel_rfl) (grd_none) (bsrc_at 0 (bsrc_old 0 _ rfl rfl rfl (by kernel_rfl) (by kernel_rfl)) (by kernel_rfl) (by kernel_rfl) (by kernel_rfl)) (fun w q h => loadI_neg (by simp; omega) w q h) rfl)
    refine steps_snoc (k := 0) ?_ (step_addr (i := 0) (d := 32) (g := none) hP (isOp_of (by kernel_rfl) : IsOp rdm_o5 0 none (.fieldAddr 27 (.tmp 2) 0)) (by kernel_rfl) (by kernel_rfl) 0 rfl rfl _ 0 rfl rfl (by kernel_rfl) (grd_none) fldI0)
    exact steps_nil
  · intro m a w hI hm
    exact ⟨(low_fact hst 0 rfl (by kernel_rfl) hI), (low_fact hst 1 rfl (by kernel_rfl) hI), (low_fact hst 2 rfl (by kernel_rfl) hI), (low_fact hst 3 rfl (by kernel_rfl) hI), (out_op hI hm 6 38 _ (by kernel_rfl) rfl), trivial⟩
set_option maxRecDepth 100000 in
theorem rdm_r6 {Q : Exit → Act → World → Prop} {Wb W0 : World} {a0 : Act} {x y : Int} {i j : Nat} (sx : Sm x i) (_sy : Sm y j) (_hi : i ≤ 400) (_hj : j ≤ 400)  (hst : St Wb 56 [(0, (intF x)), (1, (intF y)), (6, (eqF (.int .i64 0))), (21, (eqF (.bool false))), (38, (eqF (.bool true)))] [(2, (boxIF x)), (3, (boxIF y)), (4, zeroIF), (5, zeroIF), (7, (boxIF ((x.natAbs / y.natAbs : Nat) : Int))), (8, (boxIF ((x.natAbs % y.natAbs : Nat) : Int)))] a0 W0)
    (fin : ∀ a w, St Wb 56 [(0, (intF x)), (1, (intF y)), (6, (eqF (.int .i64 0))), (21, (eqF (.bool false))), (38, (eqF (.bool true)))] [(2, (boxIF x)), (3, (boxIF y)), (4, zeroIF), (5, zeroIF), (7, (boxIF (((x.natAbs / y.natAbs : Nat) : Int) + 1))), (8, (boxIF ((x.natAbs % y.natAbs : Nat) : Int)))] a w → Q .normal a w) : (Code.region 6 rdm_o6 true).wp Tryd.prog Q a0 W0 := by
  have hP : Plan rdm_o6 56 ([⟨2, none, none, (boxIF x), (boxIF x)⟩, ⟨3, none, none, (boxIF y), (boxIF y)⟩, ⟨4, none, none, zeroIF, zeroIF⟩, ⟨5, none, none, zeroIF, zeroIF⟩, ⟨7, none, some 3, (boxIF ((x.natAbs / y.natAbs : Nat) : Int)), (boxIF (((x.natAbs / y.natAbs : Nat) : Int) + 1))⟩, ⟨8, none, none, (boxIF ((x.natAbs % y.natAbs : Nat) : Int)), (boxIF ((x.natAbs % y.natAbs : Nat) : Int))⟩] : List BoxS) [] := ⟨by kernel_rfl, by kernel_rfl, by kernel_rfl, by kernel_rfl, by kernel_rfl, by kernel_rfl⟩
  refine region_st (F := [(intF ((x.natAbs / y.natAbs : Nat) : Int)), (intF 1), (intF (((x.natAbs / y.natAbs : Nat) : Int) + 1)), anyF]) hP hst rfl rfl ?_ ?_ fin
  · show Steps rdm_o6 56 Wb W0 a0 _ _ _ 4
    refine steps_snoc (k := 3) ?_ (s_store (i := 3) 4 _ (isOp_of (by kernel_rfl) : IsOp rdm_o6 3 none (.store 27 (.tmp 7) (.tmp 41))) (by kernel_rfl) rfl rfl rfl (by kernel_rfl) (by kernel_rfl) (by kernel_rfl) (src_op (f := (intF (((x.natAbs / y.natAbs : Nat) : Int) + 1))) 2 (by kernel_rfl) (by kernel_rfl) rfl) (storeI_box _ _))
    refine steps_snoc (k := 2) ?_ (s_call2 (i := 2) hP (g := none) (isOp_of (by kernel_rfl) : IsOp rdm_o6 2 none (.call { callee := .value (.func 22), args := #[.tmp 39, .tmp 40], argTypes := #[27, 27] })) (by kernel_rfl) (by kernel_rfl) (grd_none) (src_op (f := (intF ((x.natAbs / y.natAbs : Nat) : Int))) 0 (by kernel_rfl) (by kernel_rfl) rfl) (src_op (f := (intF 1)) 1 (by kernel_rfl) (by kernel_rfl) rfl) rdmpl_quadrature_quadratureref01_Add (fun w v0 v1 hb h0 h1 => kRAdd h0 h1 (sm_le sx.abs (Nat.div_le_self _ _)) (Sm.of 1 (by decide)) (by first | decide | assumption | omega) (by first | decide | assumption | omega)) rfl)
    refine steps_snoc (k := 1) ?_ (s_call1 (i := 1) hP (g := none) (isOp_of (by kernel_rfl) : IsOp rdm_o6 1 none (.call { callee := .value (.func 42), args := #[.const (.int .i64 1)], argTypes := #[2] })) (by kernel_rfl) (by kernel_rfl) (grd_none) (src_const _) rdmpl_quadrature_quadratureref01_Of (fun w v0 hb h0 => kROf 1 (by omega) (by omega) h0) rfl)
    refine steps_snoc (k := 0) ?_ (s_load (i := 0) hP (g := none) (isOp_of (by kernel_rfl) : IsOp rdm_o6 0 none (.load 27 (.tmp 7))) (by kernel_rfl) (by kernel_rfl) (grd_none) (bsrc_old 4 _ rfl rfl rfl (by kernel_rfl) (by kernel_rfl)) (fun w q h => loadI_int w q h) rfl)
    exact steps_nil
  · intro m a w hI hm
    exact ⟨(low_fact hst 0 rfl (by kernel_rfl) hI), (low_fact hst 1 rfl (by kernel_rfl) hI), (low_fact hst 2 rfl (by kernel_rfl) hI), (low_fact hst 3 rfl (by kernel_rfl) hI), (low_fact hst 4 rfl (by kernel_rfl) hI), trivial⟩
set_option maxRecDepth 100000 in
theorem rdm_r7 {Q : Exit → Act → World → Prop} {Wb W0 : World} {a0 : Act} {x y : Int} {i j : Nat} (sx : Sm x i) (sy : Sm y j) (_hi : i ≤ 400) (_hj : j ≤ 400)  (hst : St Wb 56 [(0, (intF x)), (1, (intF y)), (6, (eqF (.int .i64 0))), (21, (eqF (.bool false))), (38, (eqF (.bool true)))] [(2, (boxIF x)), (3, (boxIF y)), (4, zeroIF), (5, zeroIF), (7, (boxIF (((x.natAbs / y.natAbs : Nat) : Int) + 1))), (8, (boxIF ((x.natAbs % y.natAbs : Nat) : Int)))] a0 W0)
    (fin : ∀ a w, St Wb 56 [(0, (intF x)), (1, (intF y)), (6, (eqF (.int .i64 0))), (21, (eqF (.bool false))), (38, (eqF (.bool true)))] [(2, (boxIF x)), (3, (boxIF y)), (4, zeroIF), (5, zeroIF), (7, (boxIF (((x.natAbs / y.natAbs : Nat) : Int) + 1))), (8, (boxIF (((y.natAbs : Nat) : Int) - ((x.natAbs % y.natAbs : Nat) : Int))))] a w → Q .normal a w) : (Code.region 7 rdm_o7 true).wp Tryd.prog Q a0 W0 := by
  have hP : Plan rdm_o7 56 ([⟨2, none, none, (boxIF x), (boxIF x)⟩, ⟨3, none, none, (boxIF y), (boxIF y)⟩, ⟨4, none, none, zeroIF, zeroIF⟩, ⟨5, none, none, zeroIF, zeroIF⟩, ⟨7, none, none, (boxIF (((x.natAbs / y.natAbs : Nat) : Int) + 1)), (boxIF (((x.natAbs / y.natAbs : Nat) : Int) + 1))⟩, ⟨8, none, some 5, (boxIF ((x.natAbs % y.natAbs : Nat) : Int)), (boxIF (((y.natAbs : Nat) : Int) - ((x.natAbs % y.natAbs : Nat) : Int)))⟩] : List BoxS) [(0, 3, 1)] := ⟨by kernel_rfl, by kernel_rfl, by kernel_rfl, by kernel_rfl, by kernel_rfl, by kernel_rfl⟩
  refine region_st (F := [anyF, (natF y.natAbs), (intF ((y.natAbs : Nat) : Int)), (intF ((x.natAbs % y.natAbs : Nat) : Int)), (intF (((y.natAbs : Nat) : Int) - ((x.natAbs % y.natAbs : Nat) : Int))), anyF]) hP hst rfl rfl ?_ ?_ fin
  · show Steps rdm_o7 56 Wb W0 a0 _ _ _ 6
    refine steps_snoc (k := 5) ?_ (s_store (i := 5) 5 _ (isOp_of (by kernel_rfl) : IsOp rdm_o7 5 none (.store 27 (.tmp 8) (.tmp 46))) (by kernel_rfl) rfl rfl rfl (by kernel_rfl) (by kernel_rfl) (by kernel_rfl) (src_op (f := (intF (((y.natAbs : Nat) : Int) - ((x.natAbs % y.natAbs : Nat) : Int)))) 4 (by kernel_rfl) (by kernel_rfl) rfl) (storeI_box _ _))
    refine steps_snoc (k := 4) ?_ (s_call2 (i := 4) hP (g := none) (isOp_of (by kernel_rfl) : IsOp rdm_o7 4 none (.call { callee := .value (.func 23), args := #[.tmp 44, .tmp 45], argTypes := #[27, 27] })) (by kernel_rfl) (by kernel_rfl) (grd_none) (src_op (f := (intF ((y.natAbs : Nat) : Int))) 2 (by kernel_rfl) (by kernel_rfl) rfl) (src_op (f := (intF ((x.natAbs % y.natAbs : Nat) : Int))) 3 (by kernel_rfl) (by kernel_rfl) rfl) rdmpl_quadrature_quadratureref01_Sub (fun w v0 v1 hb h0 h1 => kRSub h0 h1 sy.abs (sm_le sx.abs (Nat.mod_le _ _)) (by first | decide | assumption | omega) (by first | decide | assumption | omega)) rfl)
    refine steps_snoc (k := 3) ?_ (s_load (i := 3) hP (g := none) (isOp_of (by kernel_rfl) : IsOp rdm_o7 3 none (.load 27 (.tmp 8))) (by kernel_rfl) (by kernel_rfl) (grd_none) (bsrc_old 5 _ rfl rfl rfl (by kernel_rfl) (by kernel_rfl)) (fun w q h => loadI_int w q h) rfl)
    refine steps_snoc (k := 2) ?_ (s_call2 (i := 2) hP (g := none) (isOp_of (by kernel_rfl) : IsOp rdm_o7 2 none (.call { callee := .value (.func 32), args := #[.tmp 43, .const (.bool false)], argTypes := #[22, 4] })) (by kernel_rfl) (by kernel_rfl) (grd_none) (src_op (f := (natF y.natAbs)) 1 (by kernel_rfl) (by kernel_rfl) rfl) (src_const _) rdmpl_quadrature_quadratureref01_Made (fun w v0 v1 hb h0 h1 => kRMadeN h0 h1 (Nat.le_trans (len_le_pow sy) (by omega))) rfl)
    refine steps_snoc (k := 1) ?_ (s_load (i := 1) hP (g := none) (isOp_of (by kernel_rfl) : IsOp rdm_o7 1 none (.load 22 (.tmp 42))) (by kernel_rfl) (by kernel_rfl) (grd_none) (bsrc_at 0 (bsrc_old 1 _ rfl rfl rfl (by kernel_rfl) (by kernel_rfl)) (by kernel_rfl) (by kernel_rfl) (by kernel_rfl)) (fun w q h => loadI_mag w q h) rfl)
    refine steps_snoc (k := 0) ?_ (step_addr (i := 0) (d := 42) (g := none) hP (isOp_of (by kernel_rfl) : IsOp rdm_o7 0 none (.fieldAddr 27 (.tmp 3) 1)) (by kernel_rfl) (by kernel_rfl) 1 rfl rfl _ 1 rfl rfl (by kernel_rfl) (grd_none) fldI1)
    exact steps_nil
  · intro m a w hI hm
    exact ⟨(low_fact hst 0 rfl (by kernel_rfl) hI), (low_fact hst 1 rfl (by kernel_rfl) hI), (low_fact hst 2 rfl (by kernel_rfl) hI), (low_fact hst 3 rfl (by kernel_rfl) hI), (low_fact hst 4 rfl (by kernel_rfl) hI), trivial⟩
set_option maxRecDepth 100000 in
theorem rdm_r8 {Q : Exit → Act → World → Prop} {Wb W0 : World} {a0 : Act} {x y : Int} {i j : Nat} (_sx : Sm x i) (_sy : Sm y j) (_hi : i ≤ 400) (_hj : j ≤ 400) (_ny : y ≠ 0) (_nx : x < 0) (_hr : 0 < ((x.natAbs % y.natAbs : Nat) : Int)) (_hs : 0 < y) (hst : St Wb 56 [(0, (intF x)), (1, (intF y)), (6, (eqF (.int .i64 0))), (21, (eqF (.bool false))), (38, (eqF (.bool true)))] [(2, (boxIF x)), (3, (boxIF y)), (4, zeroIF), (5, zeroIF), (7, (boxIF (((x.natAbs / y.natAbs : Nat) : Int) + 1))), (8, (boxIF (((y.natAbs : Nat) : Int) - ((x.natAbs % y.natAbs : Nat) : Int))))] a0 W0)
    (fin : ∀ a w, St Wb 56 [(0, (intF x)), (1, (intF y)), (6, (eqF (.int .i64 0))), (21, (eqF (.bool false))), (38, (eqF (.bool true))), (51, (eqF (.bool true)))] [(2, (boxIF x)), (3, (boxIF y)), (4, zeroIF), (5, zeroIF), (7, (boxIF (((x.natAbs / y.natAbs : Nat) : Int) + 1))), (8, (boxIF (((y.natAbs : Nat) : Int) - ((x.natAbs % y.natAbs : Nat) : Int))))] a w → Q .normal a w) : (Code.region 8 rdm_o8 false).wp Tryd.prog Q a0 W0 := by
  have hP : Plan rdm_o8 56 ([⟨2, none, none, (boxIF x), (boxIF x)⟩, ⟨3, none, none, (boxIF y), (boxIF y)⟩, ⟨4, none, none, zeroIF, zeroIF⟩, ⟨5, none, none, zeroIF, zeroIF⟩, ⟨7, none, none, (boxIF (((x.natAbs / y.natAbs : Nat) : Int) + 1)), (boxIF (((x.natAbs / y.natAbs : Nat) : Int) + 1))⟩, ⟨8, none, none, (boxIF (((y.natAbs : Nat) : Int) - ((x.natAbs % y.natAbs : Nat) : Int))), (boxIF (((y.natAbs : Nat) : Int) - ((x.natAbs % y.natAbs : Nat) : Int)))⟩] : List BoxS) [(0, 2, 0), (2, 3, 0)] := ⟨by kernel_rfl, by kernel_rfl, by kernel_rfl, by kernel_rfl, by kernel_rfl, by kernel_rfl⟩
  refine region_st (F := [anyF, (eqF (.bool true)), anyF, (eqF (.bool false)), (eqF (.bool true))]) hP hst rfl rfl ?_ ?_ fin
  · show Steps rdm_o8 56 Wb W0 a0 _ _ _ 5
    refine steps_snoc (k := 4) ?_ (s_op2 (i := 4) hP (g := none) (isOp_of (by kernel_rfl) : IsOp rdm_o8 4 none (.binOp .neq 4 (.tmp 48) (.tmp 50) 4)) (by kernel_rfl) (by kernel_rfl) (grd_none) (src_op (f := (eqF (.bool true))) 1 (by kernel_rfl) (by kernel_rfl) rfl) (src_op (f := (eqF (.bool false))) 3 (by kernel_rfl) (by kernel_rfl) rfl) (fun ρ w hx hy => h_neqB rfl hx hy) rfl)
    refine steps_snoc (k := 3) ?_ (s_load (i := 3) hP (g := none) (isOp_of (by kernel_rfl) : IsOp rdm_o8 3 none (.load 4 (.tmp 49))) (by kernel_rfl) (by kernel_rfl) (grd_none) (bsrc_at 2 (bsrc_old 1 _ rfl rfl rfl (by kernel_rfl) (by kernel_rfl)) (by kernel_rfl) (by kernel_rfl) (by kernel_rfl)) (fun w q h => loadI_neg (by simp; omega) w q h) rfl)
    refine steps_snoc (k := 2) ?_ (step_addr (i := 2) (d := 49) (g := none) hP (isOp_of (by kernel_rfl) : IsOp rdm_o8 2 none (.fieldAddr 27 (.tmp 3) 0)) (by kernel_rfl) (by kernel_rfl) 0 rfl rfl _ 1 rfl rfl (by kernel_rfl) (grd_none) fldI0)
    refine steps_snoc (k := 1) ?_ (s_load (i := 1) hP (g := none) (isOp_of (by kernel_rfl) : IsOp rdm_o8 1 none (.load 4 (.tmp 47))) (by kernel_rfl) (by kernel_rfl) (grd_none) (bsrc_at 0 (bsrc_old 0 _ rfl rfl rfl (by kernel_rfl) (by kernel_rfl)) (by kernel_rfl) (by kernel_rfl) (by kernel_rfl)) (fun w q h => loadI_neg (by simp; omega) w q h) rfl)
    refine steps_snoc (k := 0) ?_ (step_addr (i := 0) (d := 47) (g := none) hP (isOp_of (by kernel_rfl) : IsOp rdm_o8 0 none (.fieldAddr 27 (.tmp 2) 0)) (by kernel_rfl) (by kernel_rfl) 0 rfl rfl _ 0 rfl rfl (by kernel_rfl) (grd_none) fldI0)
    exact steps_nil
  · intro m a w hI hm
    exact ⟨(low_fact hst 0 rfl (by kernel_rfl) hI), (low_fact hst 1 rfl (by kernel_rfl) hI), (low_fact hst 2 rfl (by kernel_rfl) hI), (low_fact hst 3 rfl (by kernel_rfl) hI), (low_fact hst 4 rfl (by kernel_rfl) hI), (out_op hI hm 4 51 _ (by kernel_rfl) rfl), trivial⟩
set_option maxRecDepth 100000 in
theorem rdm_r9 {Q : Exit → Act → World → Prop} {Wb W0 : World} {a0 : Act} {x y : Int} {i j : Nat} (sx : Sm x i) (_sy : Sm y j) (_hi : i ≤ 400) (_hj : j ≤ 400)  (hst : St Wb 56 [(0, (intF x)), (1, (intF y)), (6, (eqF (.int .i64 0))), (21, (eqF (.bool false))), (38, (eqF (.bool true))), (51, (eqF (.bool true)))] [(2, (boxIF x)), (3, (boxIF y)), (4, zeroIF), (5, zeroIF), (7, (boxIF (((x.natAbs / y.natAbs : Nat) : Int) + 1))), (8, (boxIF (((y.natAbs : Nat) : Int) - ((x.natAbs % y.natAbs : Nat) : Int))))] a0 W0)
    (fin : ∀ a w, St Wb 56 [(0, (intF x)), (1, (intF y)), (6, (eqF (.int .i64 0))), (21, (eqF (.bool false))), (38, (eqF (.bool true))), (51, (eqF (.bool true)))] [(2, (boxIF x)), (3, (boxIF y)), (4, zeroIF), (5, zeroIF), (7, (boxIF (-(((x.natAbs / y.natAbs : Nat) : Int) + 1)))), (8, (boxIF (((y.natAbs : Nat) : Int) - ((x.natAbs % y.natAbs : Nat) : Int))))] a w → Q .normal a w) : (Code.region 9 rdm_o9 false).wp Tryd.prog Q a0 W0 := by
  have hP : Plan rdm_o9 56 ([⟨2, none, none, (boxIF x), (boxIF x)⟩, ⟨3, none, none, (boxIF y), (boxIF y)⟩, ⟨4, none, none, zeroIF, zeroIF⟩, ⟨5, none, none, zeroIF, zeroIF⟩, ⟨7, none, some 2, (boxIF (((x.natAbs / y.natAbs : Nat) : Int) + 1)), (boxIF (-(((x.natAbs / y.natAbs : Nat) : Int) + 1)))⟩, ⟨8, none, none, (boxIF (((y.natAbs : Nat) : Int) - ((x.natAbs % y.natAbs : Nat) : Int))), (boxIF (((y.natAbs : Nat) : Int) - ((x.natAbs % y.natAbs : Nat) : Int)))⟩] : List BoxS) [] := ⟨by kernel_rfl, by kernel_rfl, by kernel_rfl, by kernel_rfl, by kernel_rfl, by kernel_rfl⟩
  refine region_st (F := [(intF (((x.natAbs / y.natAbs : Nat) : Int) + 1)), (intF (-(((x.natAbs / y.natAbs : Nat) : Int) + 1))), anyF]) hP hst rfl rfl ?_ ?_ fin
  · show Steps rdm_o9 56 Wb W0 a0 _ _ _ 3
    refine steps_snoc (k := 2) ?_ (s_store (i := 2) 4 _ (isOp_of (by kernel_rfl) : IsOp rdm_o9 2 none (.store 27 (.tmp 7) (.tmp 53))) (by kernel_rfl) rfl rfl rfl (by kernel_rfl) (by kernel_rfl) (by kernel_rfl) (src_op (f := (intF (-(((x.natAbs / y.natAbs : Nat) : Int) + 1)))) 1 (by kernel_rfl) (by kernel_rfl) rfl) (storeI_box _ _))
    refine steps_snoc (k := 1) ?_ (s_call1 (i := 1) hP (g := none) (isOp_of (by kernel_rfl) : IsOp rdm_o9 1 none (.call { callee := .value (.func 25), args := #[.tmp 52], argTypes := #[27] })) (by kernel_rfl) (by kernel_rfl) (grd_none) (src_op (f := (intF (((x.natAbs / y.natAbs : Nat) : Int) + 1))) 0 (by kernel_rfl) (by kernel_rfl) rfl) rdmpl_quadrature_quadratureref01_Neg (fun w v0 hb h0 => kRNeg h0 ((sm_le sx.abs (Nat.div_le_self _ _)).add (Sm.of 1 (by decide))) (by first | decide | assumption | omega)) rfl)
    refine steps_snoc (k := 0) ?_ (s_load (i := 0) hP (g := none) (isOp_of (by kernel_rfl) : IsOp rdm_o9 0 none (.load 27 (.tmp 7))) (by kernel_rfl) (by kernel_rfl) (grd_none) (bsrc_old 4 _ rfl rfl rfl (by kernel_rfl) (by kernel_rfl)) (fun w q h => loadI_int w q h) rfl)
    exact steps_nil
  · intro m a w hI hm
    exact ⟨(low_fact hst 0 rfl (by kernel_rfl) hI), (low_fact hst 1 rfl (by kernel_rfl) hI), (low_fact hst 2 rfl (by kernel_rfl) hI), (low_fact hst 3 rfl (by kernel_rfl) hI), (low_fact hst 4 rfl (by kernel_rfl) hI), (low_fact hst 5 rfl (by kernel_rfl) hI), trivial⟩
set_option maxRecDepth 100000 in
theorem rdm_r10 {Q : Exit → Act → World → Prop} {Wb W0 : World} {a0 : Act} {x y : Int} {i j : Nat} (_sx : Sm x i) (_sy : Sm y j) (_hi : i ≤ 400) (_hj : j ≤ 400)  (hst : St Wb 56 [(0, (intF x)), (1, (intF y)), (6, (eqF (.int .i64 0))), (21, (eqF (.bool false))), (38, (eqF (.bool true))), (51, (eqF (.bool true)))] [(2, (boxIF x)), (3, (boxIF y)), (4, zeroIF), (5, zeroIF), (7, (boxIF (-(((x.natAbs / y.natAbs : Nat) : Int) + 1)))), (8, (boxIF (((y.natAbs : Nat) : Int) - ((x.natAbs % y.natAbs : Nat) : Int))))] a0 W0)
    (fin : ∀ a w, St Wb 56 [(0, (intF x)), (1, (intF y)), (6, (eqF (.int .i64 0))), (21, (eqF (.bool false))), (38, (eqF (.bool true))), (51, (eqF (.bool true)))] [(2, (boxIF x)), (3, (boxIF y)), (4, (boxIF (-(((x.natAbs / y.natAbs : Nat) : Int) + 1)))), (5, (boxIF (((y.natAbs : Nat) : Int) - ((x.natAbs % y.natAbs : Nat) : Int)))), (7, (boxIF (-(((x.natAbs / y.natAbs : Nat) : Int) + 1)))), (8, (boxIF (((y.natAbs : Nat) : Int) - ((x.natAbs % y.natAbs : Nat) : Int))))] a w → Q .normal a w) : (Code.region 10 rdm_o10 true).wp Tryd.prog Q a0 W0 := by
  have hP : Plan rdm_o10 56 ([⟨2, none, none, (boxIF x), (boxIF x)⟩, ⟨3, none, none, (boxIF y), (boxIF y)⟩, ⟨4, none, some 2, zeroIF, (boxIF (-(((x.natAbs / y.natAbs : Nat) : Int) + 1)))⟩, ⟨5, none, some 3, zeroIF, (boxIF (((y.natAbs : Nat) : Int) - ((x.natAbs % y.natAbs : Nat) : Int)))⟩, ⟨7, none, none, (boxIF (-(((x.natAbs / y.natAbs : Nat) : Int) + 1))), (boxIF (-(((x.natAbs / y.natAbs : Nat) : Int) + 1)))⟩, ⟨8, none, none, (boxIF (((y.natAbs : Nat) : Int) - ((x.natAbs % y.natAbs : Nat) : Int))), (boxIF (((y.natAbs : Nat) : Int) - ((x.natAbs % y.natAbs : Nat) : Int)))⟩] : List BoxS) [] := ⟨by kernel_rfl, by kernel_rfl, by kernel_rfl, by kernel_rfl, by kernel_rfl, by kernel_rfl⟩
  refine region_st (F := [(intF (-(((x.natAbs / y.natAbs : Nat) : Int) + 1))), (intF (((y.natAbs : Nat) : Int) - ((x.natAbs % y.natAbs : Nat) : Int))), anyF, anyF, (eqF (.int .i64 0))]) hP hst rfl rfl ?_ ?_ fin
  · show Steps rdm_o10 56 Wb W0 a0 _ _ _ 5
    refine steps_snoc (k := 4) ?_ (s_assign (i := 4) hP (g := none) (isOp_of (by kernel_rfl) : IsOp rdm_o10 4 none (.assign (.const (.int .i64 0)))) (by kernel_rfl) (by kernel_rfl) (grd_none) (src_const _) rfl)
    refine steps_snoc (k := 3) ?_ (s_store (i := 3) 3 _ (isOp_of (by kernel_rfl) : IsOp rdm_o10 3 none (.store 27 (.tmp 5) (.tmp 55))) (by kernel_rfl) rfl rfl rfl (by kernel_rfl) (by kernel_rfl) (by kernel_rfl) (src_op (f := (intF (((y.natAbs : Nat) : Int) - ((x.natAbs % y.natAbs : Nat) : Int)))) 1 (by kernel_rfl) (by kernel_rfl) rfl) (storeI_zero _))
    refine steps_snoc (k := 2) ?_ (s_store (i := 2) 2 _ (isOp_of (by kernel_rfl) : IsOp rdm_o10 2 none (.store 27 (.tmp 4) (.tmp 54))) (by kernel_rfl) rfl rfl rfl (by kernel_rfl) (by kernel_rfl) (by kernel_rfl) (src_op (f := (intF (-(((x.natAbs / y.natAbs : Nat) : Int) + 1)))) 0 (by kernel_rfl) (by kernel_rfl) rfl) (storeI_zero _))
    refine steps_snoc (k := 1) ?_ (s_load (i := 1) hP (g := none) (isOp_of (by kernel_rfl) : IsOp rdm_o10 1 none (.load 27 (.tmp 8))) (by kernel_rfl) (by kernel_rfl) (grd_none) (bsrc_old 5 _ rfl rfl rfl (by kernel_rfl) (by kernel_rfl)) (fun w q h => loadI_int w q h) rfl)
    refine steps_snoc (k := 0) ?_ (s_load (i := 0) hP (g := none) (isOp_of (by kernel_rfl) : IsOp rdm_o10 0 none (.load 27 (.tmp 7))) (by kernel_rfl) (by kernel_rfl) (grd_none) (bsrc_old 4 _ rfl rfl rfl (by kernel_rfl) (by kernel_rfl)) (fun w q h => loadI_int w q h) rfl)
    exact steps_nil
  · intro m a w hI hm
    exact ⟨(low_fact hst 0 rfl (by kernel_rfl) hI), (low_fact hst 1 rfl (by kernel_rfl) hI), (out_op hI hm 4 6 _ (by kernel_rfl) rfl), (low_fact hst 3 rfl (by kernel_rfl) hI), (low_fact hst 4 rfl (by kernel_rfl) hI), (low_fact hst 5 rfl (by kernel_rfl) hI), trivial⟩
set_option maxRecDepth 100000 in
theorem rdm_r5b {Q : Exit → Act → World → Prop} {Wb W0 : World} {a0 : Act} {x y : Int} {i j : Nat} (sx : Sm x i) (_sy : Sm y j) (_hi : i ≤ 400) (_hj : j ≤ 400) (_ny : y ≠ 0) (_nx : x < 0) (hr : 0 < ((x.natAbs % y.natAbs : Nat) : Int)) (_hs : y < 0) (hst : St Wb 56 [(0, (intF x)), (1, (intF y)), (6, (eqF (.int .i64 0))), (21, (eqF (.bool false)))] [(2, (boxIF x)), (3, (boxIF y)), (4, zeroIF), (5, zeroIF), (7, (boxIF ((x.natAbs / y.natAbs : Nat) : Int))), (8, (boxIF ((x.natAbs % y.natAbs : Nat) : Int)))] a0 W0)
    (fin : ∀ a w, St Wb 56 [(0, (intF x)), (1, (intF y)), (6, (eqF (.int .i64 0))), (21, (eqF (.bool false))), (38, (eqF (.bool true)))] [(2, (boxIF x)), (3, (boxIF y)), (4, zeroIF), (5, zeroIF), (7, (boxIF ((x.natAbs / y.natAbs : Nat) : Int))), (8, (boxIF ((x.natAbs % y.natAbs : Nat) : Int)))] a w → Q .normal a w) : (Code.region 5 rdm_o5 false).wp Tryd.prog Q a0 W0 := by
  have hP : Plan rdm_o5 56 ([⟨2, none, none, (boxIF x), (boxIF x)⟩, ⟨3, none, none, (boxIF y), (boxIF y)⟩, ⟨4, none, none, zeroIF, zeroIF⟩, ⟨5, none, none, zeroIF, zeroIF⟩, ⟨7, none, none, (boxIF ((x.natAbs / y.natAbs : Nat) : Int)), (boxIF ((x.natAbs / y.natAbs : Nat) : Int))⟩, ⟨8, none, none, (boxIF ((x.natAbs % y.natAbs : Nat) : Int)), (boxIF ((x.natAbs % y.natAbs : Nat) : Int))⟩] : List BoxS) [(0, 2, 0)] := ⟨by kernel_rfl, by kernel_rfl, by kernel_rfl, by kernel_rfl, by kernel_rfl, by kernel_rfl⟩
  refine region_st (F := [anyF, (eqF (.bool true)), (eqF (.bool true)), (intF ((x.natAbs % y.natAbs : Nat) : Int)), (eqF (.int .i64 (Int.sign ((x.natAbs % y.natAbs : Nat) : Int)))), (eqF (.bool true)), (eqF (.bool true))]) hP hst rfl rfl ?_ ?_ fin
  · show Steps rdm_o5 56 Wb W0 a0 _ _ _ 7
    refine steps_snoc (k := 6) ?_ (s_pickT (i := 6) hP (g := none) (isOp_of (by kernel_rfl) : IsOp rdm_o5 6 none (.pick (.tmp 34) (.tmp 37) (.const (.bool false)))) (by kernel_rfl) (by kernel_rfl) (grd_none) (src_op (f := (eqF (.bool true))) 2 (by kernel_rfl) (by kernel_rfl) rfl) (src_op (f := (eqF (.bool true))) 5 (by kernel_rfl) (by kernel_rfl) rfl) rfl)
    refine steps_snoc (k := 5) ?_ (s_op2 (i := 5) hP (g := (some (2, true))) (isOp_of (by kernel_rfl) : IsOp rdm_o5 5 (some (2, true)) (.binOp .gtr 3 (.tmp 36) (.const (.int .i64 0)) 3)) (by kernel_rfl) (by kernel_rfl) (grd_op (d := 34) (by kernel_rfl) (by kernel_rfl) rfl rfl) (src_op (f := (eqF (.int .i64 (Int.sign ((x.natAbs % y.natAbs : Nat) : Int))))) 4 (by kernel_rfl) (by kernel_rfl) rfl) (src_const _) (fun ρ w hx hy => h_gtr (r := true) (by rw [Int.sign_eq_one_of_pos hr]; decide) hx hy) rfl)
    refine steps_snoc (k := 4) ?_ (s_call1 (i := 4) hP (g := (some (2, true))) (isOp_of (by kernel_rfl) : IsOp rdm_o5 4 (some (2, true)) (.call { callee := .value (.func 29), args := #[.tmp 35], argTypes := #[27] })) (by kernel_rfl) (by kernel_rfl) (grd_op (d := 34) (by kernel_rfl) (by kernel_rfl) rfl rfl) (src_op (f := (intF ((x.natAbs % y.natAbs : Nat) : Int))) 3 (by kernel_rfl) (by kernel_rfl) rfl) rdmpl_quadrature_quadratureref01_Sign (fun w v0 hb h0 => kRSign h0 (sm_le sx.abs (Nat.mod_le _ _)) (by first | decide | assumption | omega)) rfl)
    refine steps_snoc (k := 3) ?_ (s_load (i := 3) hP (g := (some (2, true))) (isOp_of (by kernel_rfl) : IsOp rdm_o5 3 (some (2, true)) (.load 27 (.tmp 8))) (by kernel_rfl) (by kernel_rfl) (grd_op (d := 34) (by kernel_rfl) (by kernel_rfl) rfl rfl) (bsrc_old 5 _ rfl rfl rfl (by kernel_rfl) (by kernel_rfl)) (fun w q h => loadI_int w q h) rfl)
    refine steps_snoc (k := 2) ?_ (s_move (i := 2) hP (g := none) (isOp_of (by kernel_rfl) : IsOp rdm_o5 2 none (.move (.tmp 33))) (by kernel_rfl) (by kernel_rfl) (grd_none) (src_op (f := (eqF (.bool true))) 1 (by kernel_rfl) (by kernel_rfl) rfl) rfl)
    refine steps_snoc (k := 1) ?_ (s_load (i := 1) hP (g := none) (isOp_of (by kernel_rfl) : IsOp rdm_o5 1 none (.load 4 (.tmp 32))) (by kernel_rfl) (by kernel_rfl) (grd_none) (bsrc_at 0 (bsrc_old 0 _ rfl rfl rfl (by kernel_rfl) (by kernel_rfl)) (by kernel_rfl) (by kernel_rfl) (by kernel_rfl)) (fun w q h => loadI_neg (by simp; omega) w q h) rfl)
    refine steps_snoc (k := 0) ?_ (step_addr (i := 0) (d := 32) (g := none) hP (isOp_of (by kernel_rfl) : IsOp rdm_o5 0 none (.fieldAddr 27 (.tmp 2) 0)) (by kernel_rfl) (by kernel_rfl) 0 rfl rfl _ 0 rfl rfl (by kernel_rfl) (grd_none) fldI0)
    exact steps_nil
  · intro m a w hI hm
    exact ⟨(low_fact hst 0 rfl (by kernel_rfl) hI), (low_fact hst 1 rfl (by kernel_rfl) hI), (low_fact hst 2 rfl (by kernel_rfl) hI), (low_fact hst 3 rfl (by kernel_rfl) hI), (out_op hI hm 6 38 _ (by kernel_rfl) rfl), trivial⟩
set_option maxRecDepth 100000 in
theorem rdm_r8b {Q : Exit → Act → World → Prop} {Wb W0 : World} {a0 : Act} {x y : Int} {i j : Nat} (_sx : Sm x i) (_sy : Sm y j) (_hi : i ≤ 400) (_hj : j ≤ 400) (_ny : y ≠ 0) (_nx : x < 0) (_hr : 0 < ((x.natAbs % y.natAbs : Nat) : Int)) (_hs : y < 0) (hst : St Wb 56 [(0, (intF x)), (1, (intF y)), (6, (eqF (.int .i64 0))), (21, (eqF (.bool false))), (38, (eqF (.bool true)))] [(2, (boxIF x)), (3, (boxIF y)), (4, zeroIF), (5, zeroIF), (7, (boxIF (((x.natAbs / y.natAbs : Nat) : Int) + 1))), (8, (boxIF (((y.natAbs : Nat) : Int) - ((x.natAbs % y.natAbs : Nat) : Int))))] a0 W0)
    (fin : ∀ a w, St Wb 56 [(0, (intF x)), (1, (intF y)), (6, (eqF (.int .i64 0))), (21, (eqF (.bool false))), (38, (eqF (.bool true))), (51, (eqF (.bool false)))] [(2, (boxIF x)), (3, (boxIF y)), (4, zeroIF), (5, zeroIF), (7, (boxIF (((x.natAbs / y.natAbs : Nat) : Int) + 1))), (8, (boxIF (((y.natAbs : Nat) : Int) - ((x.natAbs % y.natAbs : Nat) : Int))))] a w → Q .normal a w) : (Code.region 8 rdm_o8 false).wp Tryd.prog Q a0 W0 := by
  have hP : Plan rdm_o8 56 ([⟨2, none, none, (boxIF x), (boxIF x)⟩, ⟨3, none, none, (boxIF y), (boxIF y)⟩, ⟨4, none, none, zeroIF, zeroIF⟩, ⟨5, none, none, zeroIF, zeroIF⟩, ⟨7, none, none, (boxIF (((x.natAbs / y.natAbs : Nat) : Int) + 1)), (boxIF (((x.natAbs / y.natAbs : Nat) : Int) + 1))⟩, ⟨8, none, none, (boxIF (((y.natAbs : Nat) : Int) - ((x.natAbs % y.natAbs : Nat) : Int))), (boxIF (((y.natAbs : Nat) : Int) - ((x.natAbs % y.natAbs : Nat) : Int)))⟩] : List BoxS) [(0, 2, 0), (2, 3, 0)] := ⟨by kernel_rfl, by kernel_rfl, by kernel_rfl, by kernel_rfl, by kernel_rfl, by kernel_rfl⟩
  refine region_st (F := [anyF, (eqF (.bool true)), anyF, (eqF (.bool true)), (eqF (.bool false))]) hP hst rfl rfl ?_ ?_ fin
  · show Steps rdm_o8 56 Wb W0 a0 _ _ _ 5
    refine steps_snoc (k := 4) ?_ (s_op2 (i := 4) hP (g := none) (isOp_of (by kernel_rfl) : IsOp rdm_o8 4 none (.binOp .neq 4 (.tmp 48) (.tmp 50) 4)) (by kernel_rfl) (by kernel_rfl) (grd_none) (src_op (f := (eqF (.bool true))) 1 (by kernel_rfl) (by kernel_rfl) rfl) (src_op (f := (eqF (.bool true))) 3 (by kernel_rfl) (by kernel_rfl) rfl) (fun ρ w hx hy => h_neqB rfl hx hy) rfl)
    refine steps_snoc (k := 3) ?_ (s_load (i := 3) hP (g := none) (isOp_of (by kernel_rfl) : IsOp rdm_o8 3 none (.load 4 (.tmp 49))) (by kernel_rfl) (by kernel_rfl) (grd_none) (bsrc_at 2 (bsrc_old 1 _ rfl rfl rfl (by kernel_rfl) (by kernel_rfl)) (by kernel_rfl) (by kernel_rfl) (by kernel_rfl)) (fun w q h => loadI_neg (by simp; omega) w q h) rfl)
    refine steps_snoc (k := 2) ?_ (step_addr (i := 2) (d := 49) (g := none) hP (isOp_of (by kernel_rfl) : IsOp rdm_o8 2 none (.fieldAddr 27 (.tmp 3) 0)) (by kernel_rfl) (by kernel_rfl) 0 rfl rfl _ 1 rfl rfl (by kernel_rfl) (grd_none) fldI0)
    refine steps_snoc (k := 1) ?_ (s_load (i := 1) hP (g := none) (isOp_of (by kernel_rfl) : IsOp rdm_o8 1 none (.load 4 (.tmp 47))) (by kernel_rfl) (by kernel_rfl) (grd_none) (bsrc_at 0 (bsrc_old 0 _ rfl rfl rfl (by kernel_rfl) (by kernel_rfl)) (by kernel_rfl) (by kernel_rfl) (by kernel_rfl)) (fun w q h => loadI_neg (by simp; omega) w q h) rfl)
    refine steps_snoc (k := 0) ?_ (step_addr (i := 0) (d := 47) (g := none) hP (isOp_of (by kernel_rfl) : IsOp rdm_o8 0 none (.fieldAddr 27 (.tmp 2) 0)) (by kernel_rfl) (by kernel_rfl) 0 rfl rfl _ 0 rfl rfl (by kernel_rfl) (grd_none) fldI0)
    exact steps_nil
  · intro m a w hI hm
    exact ⟨(low_fact hst 0 rfl (by kernel_rfl) hI), (low_fact hst 1 rfl (by kernel_rfl) hI), (low_fact hst 2 rfl (by kernel_rfl) hI), (low_fact hst 3 rfl (by kernel_rfl) hI), (low_fact hst 4 rfl (by kernel_rfl) hI), (out_op hI hm 4 51 _ (by kernel_rfl) rfl), trivial⟩
set_option maxRecDepth 100000 in
theorem rdm_r10b {Q : Exit → Act → World → Prop} {Wb W0 : World} {a0 : Act} {x y : Int} {i j : Nat} (_sx : Sm x i) (_sy : Sm y j) (_hi : i ≤ 400) (_hj : j ≤ 400)  (hst : St Wb 56 [(0, (intF x)), (1, (intF y)), (6, (eqF (.int .i64 0))), (21, (eqF (.bool false))), (38, (eqF (.bool true))), (51, (eqF (.bool false)))] [(2, (boxIF x)), (3, (boxIF y)), (4, zeroIF), (5, zeroIF), (7, (boxIF (((x.natAbs / y.natAbs : Nat) : Int) + 1))), (8, (boxIF (((y.natAbs : Nat) : Int) - ((x.natAbs % y.natAbs : Nat) : Int))))] a0 W0)
    (fin : ∀ a w, St Wb 56 [(0, (intF x)), (1, (intF y)), (6, (eqF (.int .i64 0))), (21, (eqF (.bool false))), (38, (eqF (.bool true))), (51, (eqF (.bool false)))] [(2, (boxIF x)), (3, (boxIF y)), (4, (boxIF (((x.natAbs / y.natAbs : Nat) : Int) + 1))), (5, (boxIF (((y.natAbs : Nat) : Int) - ((x.natAbs % y.natAbs : Nat) : Int)))), (7, (boxIF (((x.natAbs / y.natAbs : Nat) : Int) + 1))), (8, (boxIF (((y.natAbs : Nat) : Int) - ((x.natAbs % y.natAbs : Nat) : Int))))] a w → Q .normal a w) : (Code.region 10 rdm_o10 true).wp Tryd.prog Q a0 W0 := by
  have hP : Plan rdm_o10 56 ([⟨2, none, none, (boxIF x), (boxIF x)⟩, ⟨3, none, none, (boxIF y), (boxIF y)⟩, ⟨4, none, some 2, zeroIF, (boxIF (((x.natAbs / y.natAbs : Nat) : Int) + 1))⟩, ⟨5, none, some 3, zeroIF, (boxIF (((y.natAbs : Nat) : Int) - ((x.natAbs % y.natAbs : Nat) : Int)))⟩, ⟨7, none, none, (boxIF (((x.natAbs / y.natAbs : Nat) : Int) + 1)), (boxIF (((x.natAbs / y.natAbs : Nat) : Int) + 1))⟩, ⟨8, none, none, (boxIF (((y.natAbs : Nat) : Int) - ((x.natAbs % y.natAbs : Nat) : Int))), (boxIF (((y.natAbs : Nat) : Int) - ((x.natAbs % y.natAbs : Nat) : Int)))⟩] : List BoxS) [] := ⟨by kernel_rfl, by kernel_rfl, by kernel_rfl, by kernel_rfl, by kernel_rfl, by kernel_rfl⟩
  refine region_st (F := [(intF (((x.natAbs / y.natAbs : Nat) : Int) + 1)), (intF (((y.natAbs : Nat) : Int) - ((x.natAbs % y.natAbs : Nat) : Int))), anyF, anyF, (eqF (.int .i64 0))]) hP hst rfl rfl ?_ ?_ fin
  · show Steps rdm_o10 56 Wb W0 a0 _ _ _ 5
    refine steps_snoc (k := 4) ?_ (s_assign (i := 4) hP (g := none) (isOp_of (by kernel_rfl) : IsOp rdm_o10 4 none (.assign (.const (.int .i64 0)))) (by kernel_rfl) (by kernel_rfl) (grd_none) (src_const _) rfl)
    refine steps_snoc (k := 3) ?_ (s_store (i := 3) 3 _ (isOp_of (by kernel_rfl) : IsOp rdm_o10 3 none (.store 27 (.tmp 5) (.tmp 55))) (by kernel_rfl) rfl rfl rfl (by kernel_rfl) (by kernel_rfl) (by kernel_rfl) (src_op (f := (intF (((y.natAbs : Nat) : Int) - ((x.natAbs % y.natAbs : Nat) : Int)))) 1 (by kernel_rfl) (by kernel_rfl) rfl) (storeI_zero _))
    refine steps_snoc (k := 2) ?_ (s_store (i := 2) 2 _ (isOp_of (by kernel_rfl) : IsOp rdm_o10 2 none (.store 27 (.tmp 4) (.tmp 54))) (by kernel_rfl) rfl rfl rfl (by kernel_rfl) (by kernel_rfl) (by kernel_rfl) (src_op (f := (intF (((x.natAbs / y.natAbs : Nat) : Int) + 1))) 0 (by kernel_rfl) (by kernel_rfl) rfl) (storeI_zero _))
    refine steps_snoc (k := 1) ?_ (s_load (i := 1) hP (g := none) (isOp_of (by kernel_rfl) : IsOp rdm_o10 1 none (.load 27 (.tmp 8))) (by kernel_rfl) (by kernel_rfl) (grd_none) (bsrc_old 5 _ rfl rfl rfl (by kernel_rfl) (by kernel_rfl)) (fun w q h => loadI_int w q h) rfl)
    refine steps_snoc (k := 0) ?_ (s_load (i := 0) hP (g := none) (isOp_of (by kernel_rfl) : IsOp rdm_o10 0 none (.load 27 (.tmp 7))) (by kernel_rfl) (by kernel_rfl) (grd_none) (bsrc_old 4 _ rfl rfl rfl (by kernel_rfl) (by kernel_rfl)) (fun w q h => loadI_int w q h) rfl)
    exact steps_nil
  · intro m a w hI hm
    exact ⟨(low_fact hst 0 rfl (by kernel_rfl) hI), (low_fact hst 1 rfl (by kernel_rfl) hI), (out_op hI hm 4 6 _ (by kernel_rfl) rfl), (low_fact hst 3 rfl (by kernel_rfl) hI), (low_fact hst 4 rfl (by kernel_rfl) hI), (low_fact hst 5 rfl (by kernel_rfl) hI), trivial⟩
set_option maxRecDepth 100000 in
theorem rdm_r5c {Q : Exit → Act → World → Prop} {Wb W0 : World} {a0 : Act} {x y : Int} {i j : Nat} (sx : Sm x i) (_sy : Sm y j) (_hi : i ≤ 400) (_hj : j ≤ 400) (_ny : y ≠ 0) (_nx : x < 0) (hr : ((x.natAbs % y.natAbs : Nat) : Int) = 0) (_hs : 0 < y) (hst : St Wb 56 [(0, (intF x)), (1, (intF y)), (6, (eqF (.int .i64 0))), (21, (eqF (.bool false)))] [(2, (boxIF x)), (3, (boxIF y)), (4, zeroIF), (5, zeroIF), (7, (boxIF ((x.natAbs / y.natAbs : Nat) : Int))), (8, (boxIF ((x.natAbs % y.natAbs : Nat) : Int)))] a0 W0)
    (fin : ∀ a w, St Wb 56 [(0, (intF x)), (1, (intF y)), (6, (eqF (.int .i64 0))), (21, (eqF (.bool false))), (38, (eqF (.bool false)))] [(2, (boxIF x)), (3, (boxIF y)), (4, zeroIF), (5, zeroIF), (7, (boxIF ((x.natAbs / y.natAbs : Nat) : Int))), (8, (boxIF ((x.natAbs % y.natAbs : Nat) : Int)))] a w → Q .normal a w) : (Code.region 5 rdm_o5 false).wp Tryd.prog Q a0 W0 := by
  have hP : Plan rdm_o5 56 ([⟨2, none, none, (boxIF x), (boxIF x)⟩, ⟨3, none, none, (boxIF y), (boxIF y)⟩, ⟨4, none, none, zeroIF, zeroIF⟩, ⟨5, none, none, zeroIF, zeroIF⟩, ⟨7, none, none, (boxIF ((x.natAbs / y.natAbs : Nat) : Int)), (boxIF ((x.natAbs / y.natAbs : Nat) : Int))⟩, ⟨8, none, none, (boxIF ((x.natAbs % y.natAbs : Nat) : Int)), (boxIF ((x.natAbs % y.natAbs : Nat) : Int))⟩] : List BoxS) [(0, 2, 0)] := ⟨by kernel_rfl, by kernel_rfl, by kernel_rfl, by kernel_rfl, by kernel_rfl, by kernel_rfl⟩
  refine region_st (F := [anyF, (eqF (.bool true)), (eqF (.bool true)), (intF ((x.natAbs % y.natAbs : Nat) : Int)), (eqF (.int .i64 (Int.sign ((x.natAbs % y.natAbs : Nat) : Int)))), (eqF (.bool false)), (eqF (.bool false))]) hP hst rfl rfl ?_ ?_ fin
  · show Steps rdm_o5 56 Wb W0 a0 _ _ _ 7
    refine steps_snoc (k := 6) ?_ (s_pickT (i := 6) hP (g := none) (isOp_of (by kernel_rfl) : IsOp rdm_o5 6 none (.pick (.tmp 34) (.tmp 37) (.const (.bool false)))) (by kernel_rfl) (by kernel_rfl) (grd_none) (src_op (f := (eqF (.bool true))) 2 (by kernel_rfl) (by kernel_rfl) rfl) (src_op (f := (eqF (.bool false))) 5 (by kernel_rfl) (by kernel_rfl) rfl) rfl)
    refine steps_snoc (k := 5) ?_ (s_op2 (i := 5) hP (g := (some (2, true))) (isOp_of (by kernel_rfl) : IsOp rdm_o5 5 (some (2, true)) (.binOp .gtr 3 (.tmp 36) (.const (.int .i64 0)) 3)) (by kernel_rfl) (by kernel_rfl) (grd_op (d := 34) (by kernel_rfl) (by kernel_rfl) rfl rfl) (src_op (f := (eqF (.int .i64 (Int.sign ((x.natAbs % y.natAbs : Nat) : Int))))) 4 (by kernel_rfl) (by kernel_rfl) rfl) (src_const _) (fun ρ w hx hy => h_gtr (r := false) (by rw [hr]; decide) hx hy) rfl)
    refine steps_snoc (k := 4) ?_ (s_call1 (i := 4) hP (g := (some (2, true))) (isOp_of (by kernel_rfl) : IsOp rdm_o5 4 (some (2, true)) (.call { callee := .value (.func 29), args := #[.tmp 35], argTypes := #[27] })) (by kernel_rfl) (by kernel_rfl) (grd_op (d := 34) (by kernel_rfl) (by kernel_rfl) rfl rfl) (src_op (f := (intF ((x.natAbs % y.natAbs : Nat) : Int))) 3 (by kernel_rfl) (by kernel_rfl) rfl) rdmpl_quadrature_quadratureref01_Sign (fun w v0 hb h0 => kRSign h0 (sm_le sx.abs (Nat.mod_le _ _)) (by first | decide | assumption | omega)) rfl)
    refine steps_snoc (k := 3) ?_ (s_load (i := 3) hP (g := (some (2, true))) (isOp_of (by kernel_rfl) : IsOp rdm_o5 3 (some (2, true)) (.load 27 (.tmp 8))) (by kernel_rfl) (by kernel_rfl) (grd_op (d := 34) (by kernel_rfl) (by kernel_rfl) rfl rfl) (bsrc_old 5 _ rfl rfl rfl (by kernel_rfl) (by kernel_rfl)) (fun w q h => loadI_int w q h) rfl)
    refine steps_snoc (k := 2) ?_ (s_move (i := 2) hP (g := none) (isOp_of (by kernel_rfl) : IsOp rdm_o5 2 none (.move (.tmp 33))) (by kernel_rfl) (by kernel_rfl) (grd_none) (src_op (f := (eqF (.bool true))) 1 (by kernel_rfl) (by kernel_rfl) rfl) rfl)
    refine steps_snoc (k := 1) ?_ (s_load (i := 1) hP (g := none) (isOp_of (by kernel_rfl) : IsOp rdm_o5 1 none (.load 4 (.tmp 32))) (by kernel_rfl) (by kernel_rfl) (grd_none) (bsrc_at 0 (bsrc_old 0 _ rfl rfl rfl (by kernel_rfl) (by kernel_rfl)) (by kernel_rfl) (by kernel_rfl) (by kernel_rfl)) (fun w q h => loadI_neg (by simp; omega) w q h) rfl)
    refine steps_snoc (k := 0) ?_ (step_addr (i := 0) (d := 32) (g := none) hP (isOp_of (by kernel_rfl) : IsOp rdm_o5 0 none (.fieldAddr 27 (.tmp 2) 0)) (by kernel_rfl) (by kernel_rfl) 0 rfl rfl _ 0 rfl rfl (by kernel_rfl) (grd_none) fldI0)
    exact steps_nil
  · intro m a w hI hm
    exact ⟨(low_fact hst 0 rfl (by kernel_rfl) hI), (low_fact hst 1 rfl (by kernel_rfl) hI), (low_fact hst 2 rfl (by kernel_rfl) hI), (low_fact hst 3 rfl (by kernel_rfl) hI), (out_op hI hm 6 38 _ (by kernel_rfl) rfl), trivial⟩
set_option maxRecDepth 100000 in
theorem rdm_r8c {Q : Exit → Act → World → Prop} {Wb W0 : World} {a0 : Act} {x y : Int} {i j : Nat} (_sx : Sm x i) (_sy : Sm y j) (_hi : i ≤ 400) (_hj : j ≤ 400) (_ny : y ≠ 0) (_nx : x < 0) (_hr : ((x.natAbs % y.natAbs : Nat) : Int) = 0) (_hs : 0 < y) (hst : St Wb 56 [(0, (intF x)), (1, (intF y)), (6, (eqF (.int .i64 0))), (21, (eqF (.bool false))), (38, (eqF (.bool false)))] [(2, (boxIF x)), (3, (boxIF y)), (4, zeroIF), (5, zeroIF), (7, (boxIF ((x.natAbs / y.natAbs : Nat) : Int))), (8, (boxIF ((x.natAbs % y.natAbs : Nat) : Int)))] a0 W0)
    (fin : ∀ a w, St Wb 56 [(0, (intF x)), (1, (intF y)), (6, (eqF (.int .i64 0))), (21, (eqF (.bool false))), (38, (eqF (.bool false))), (51, (eqF (.bool true)))] [(2, (boxIF x)), (3, (boxIF y)), (4, zeroIF), (5, zeroIF), (7, (boxIF ((x.natAbs / y.natAbs : Nat) : Int))), (8, (boxIF ((x.natAbs % y.natAbs : Nat) : Int)))] a w → Q .normal a w) : (Code.region 8 rdm_o8 false).wp Tryd.prog Q a0 W0 := by
  have hP : Plan rdm_o8 56 ([⟨2, none, none, (boxIF x), (boxIF x)⟩, ⟨3, none, none, (boxIF y), (boxIF y)⟩, ⟨4, none, none, zeroIF, zeroIF⟩, ⟨5, none, none, zeroIF, zeroIF⟩, ⟨7, none, none, (boxIF ((x.natAbs / y.natAbs : Nat) : Int)), (boxIF ((x.natAbs / y.natAbs : Nat) : Int))⟩, ⟨8, none, none, (boxIF ((x.natAbs % y.natAbs : Nat) : Int)), (boxIF ((x.natAbs % y.natAbs : Nat) : Int))⟩] : List BoxS) [(0, 2, 0), (2, 3, 0)] := ⟨by kernel_rfl, by kernel_rfl, by kernel_rfl, by kernel_rfl, by kernel_rfl, by kernel_rfl⟩
  refine region_st (F := [anyF, (eqF (.bool true)), anyF, (eqF (.bool false)), (eqF (.bool true))]) hP hst rfl rfl ?_ ?_ fin
  · show Steps rdm_o8 56 Wb W0 a0 _ _ _ 5
    refine steps_snoc (k := 4) ?_ (s_op2 (i := 4) hP (g := none) (isOp_of (by kernel_rfl) : IsOp rdm_o8 4 none (.binOp .neq 4 (.tmp 48) (.tmp 50) 4)) (by kernel_rfl) (by kernel_rfl) (grd_none) (src_op (f := (eqF (.bool true))) 1 (by kernel_rfl) (by kernel_rfl) rfl) (src_op (f := (eqF (.bool false))) 3 (by kernel_rfl) (by kernel_rfl) rfl) (fun ρ w hx hy => h_neqB rfl hx hy) rfl)
    refine steps_snoc (k := 3) ?_ (s_load (i := 3) hP (g := none) (isOp_of (by kernel_rfl) : IsOp rdm_o8 3 none (.load 4 (.tmp 49))) (by kernel_rfl) (by kernel_rfl) (grd_none) (bsrc_at 2 (bsrc_old 1 _ rfl rfl rfl (by kernel_rfl) (by kernel_rfl)) (by kernel_rfl) (by kernel_rfl) (by kernel_rfl)) (fun w q h => loadI_neg (by simp; omega) w q h) rfl)
    refine steps_snoc (k := 2) ?_ (step_addr (i := 2) (d := 49) (g := none) hP (isOp_of (by kernel_rfl) : IsOp rdm_o8 2 none (.fieldAddr 27 (.tmp 3) 0)) (by kernel_rfl) (by kernel_rfl) 0 rfl rfl _ 1 rfl rfl (by kernel_rfl) (grd_none) fldI0)
    refine steps_snoc (k := 1) ?_ (s_load (i := 1) hP (g := none) (isOp_of (by kernel_rfl) : IsOp rdm_o8 1 none (.load 4 (.tmp 47))) (by kernel_rfl) (by kernel_rfl) (grd_none) (bsrc_at 0 (bsrc_old 0 _ rfl rfl rfl (by kernel_rfl) (by kernel_rfl)) (by kernel_rfl) (by kernel_rfl) (by kernel_rfl)) (fun w q h => loadI_neg (by simp; omega) w q h) rfl)
    refine steps_snoc (k := 0) ?_ (step_addr (i := 0) (d := 47) (g := none) hP (isOp_of (by kernel_rfl) : IsOp rdm_o8 0 none (.fieldAddr 27 (.tmp 2) 0)) (by kernel_rfl) (by kernel_rfl) 0 rfl rfl _ 0 rfl rfl (by kernel_rfl) (grd_none) fldI0)
    exact steps_nil
  · intro m a w hI hm
    exact ⟨(low_fact hst 0 rfl (by kernel_rfl) hI), (low_fact hst 1 rfl (by kernel_rfl) hI), (low_fact hst 2 rfl (by kernel_rfl) hI), (low_fact hst 3 rfl (by kernel_rfl) hI), (low_fact hst 4 rfl (by kernel_rfl) hI), (out_op hI hm 4 51 _ (by kernel_rfl) rfl), trivial⟩
set_option maxRecDepth 100000 in
theorem rdm_r9b {Q : Exit → Act → World → Prop} {Wb W0 : World} {a0 : Act} {x y : Int} {i j : Nat} (sx : Sm x i) (_sy : Sm y j) (_hi : i ≤ 400) (_hj : j ≤ 400)  (hst : St Wb 56 [(0, (intF x)), (1, (intF y)), (6, (eqF (.int .i64 0))), (21, (eqF (.bool false))), (38, (eqF (.bool false))), (51, (eqF (.bool true)))] [(2, (boxIF x)), (3, (boxIF y)), (4, zeroIF), (5, zeroIF), (7, (boxIF ((x.natAbs / y.natAbs : Nat) : Int))), (8, (boxIF ((x.natAbs % y.natAbs : Nat) : Int)))] a0 W0)
    (fin : ∀ a w, St Wb 56 [(0, (intF x)), (1, (intF y)), (6, (eqF (.int .i64 0))), (21, (eqF (.bool false))), (38, (eqF (.bool false))), (51, (eqF (.bool true)))] [(2, (boxIF x)), (3, (boxIF y)), (4, zeroIF), (5, zeroIF), (7, (boxIF (-((x.natAbs / y.natAbs : Nat) : Int)))), (8, (boxIF ((x.natAbs % y.natAbs : Nat) : Int)))] a w → Q .normal a w) : (Code.region 9 rdm_o9 false).wp Tryd.prog Q a0 W0 := by
  have hP : Plan rdm_o9 56 ([⟨2, none, none, (boxIF x), (boxIF x)⟩, ⟨3, none, none, (boxIF y), (boxIF y)⟩, ⟨4, none, none, zeroIF, zeroIF⟩, ⟨5, none, none, zeroIF, zeroIF⟩, ⟨7, none, some 2, (boxIF ((x.natAbs / y.natAbs : Nat) : Int)), (boxIF (-((x.natAbs / y.natAbs : Nat) : Int)))⟩, ⟨8, none, none, (boxIF ((x.natAbs % y.natAbs : Nat) : Int)), (boxIF ((x.natAbs % y.natAbs : Nat) : Int))⟩] : List BoxS) [] := ⟨by kernel_rfl, by kernel_rfl, by kernel_rfl, by kernel_rfl, by kernel_rfl, by kernel_rfl⟩
  refine region_st (F := [(intF ((x.natAbs / y.natAbs : Nat) : Int)), (intF (-((x.natAbs / y.natAbs : Nat) : Int))), anyF]) hP hst rfl rfl ?_ ?_ fin
  · show Steps rdm_o9 56 Wb W0 a0 _ _ _ 3
    refine steps_snoc (k := 2) ?_ (s_store (i := 2) 4 _ (isOp_of (by kernel_rfl) : IsOp rdm_o9 2 none (.store 27 (.tmp 7) (.tmp 53))) (by kernel_rfl) rfl rfl rfl (by kernel_rfl) (by kernel_rfl) (by kernel_rfl) (src_op (f := (intF (-((x.natAbs / y.natAbs : Nat) : Int)))) 1 (by kernel_rfl) (by kernel_rfl) rfl) (storeI_box _ _))
    refine steps_snoc (k := 1) ?_ (s_call1 (i := 1) hP (g := none) (isOp_of (by kernel_rfl) : IsOp rdm_o9 1 none (.call { callee := .value (.func 25), args := #[.tmp 52], argTypes := #[27] })) (by kernel_rfl) (by kernel_rfl) (grd_none) (src_op (f := (intF ((x.natAbs / y.natAbs : Nat) : Int))) 0 (by kernel_rfl) (by kernel_rfl) rfl) rdmpl_quadrature_quadratureref01_Neg (fun w v0 hb h0 => kRNeg h0 (sm_le sx.abs (Nat.div_le_self _ _)) (by first | decide | assumption | omega)) rfl)
    refine steps_snoc (k := 0) ?_ (s_load (i := 0) hP (g := none) (isOp_of (by kernel_rfl) : IsOp rdm_o9 0 none (.load 27 (.tmp 7))) (by kernel_rfl) (by kernel_rfl) (grd_none) (bsrc_old 4 _ rfl rfl rfl (by kernel_rfl) (by kernel_rfl)) (fun w q h => loadI_int w q h) rfl)
    exact steps_nil
  · intro m a w hI hm
    exact ⟨(low_fact hst 0 rfl (by kernel_rfl) hI), (low_fact hst 1 rfl (by kernel_rfl) hI), (low_fact hst 2 rfl (by kernel_rfl) hI), (low_fact hst 3 rfl (by kernel_rfl) hI), (low_fact hst 4 rfl (by kernel_rfl) hI), (low_fact hst 5 rfl (by kernel_rfl) hI), trivial⟩
set_option maxRecDepth 100000 in
theorem rdm_r10c {Q : Exit → Act → World → Prop} {Wb W0 : World} {a0 : Act} {x y : Int} {i j : Nat} (_sx : Sm x i) (_sy : Sm y j) (_hi : i ≤ 400) (_hj : j ≤ 400)  (hst : St Wb 56 [(0, (intF x)), (1, (intF y)), (6, (eqF (.int .i64 0))), (21, (eqF (.bool false))), (38, (eqF (.bool false))), (51, (eqF (.bool true)))] [(2, (boxIF x)), (3, (boxIF y)), (4, zeroIF), (5, zeroIF), (7, (boxIF (-((x.natAbs / y.natAbs : Nat) : Int)))), (8, (boxIF ((x.natAbs % y.natAbs : Nat) : Int)))] a0 W0)
    (fin : ∀ a w, St Wb 56 [(0, (intF x)), (1, (intF y)), (6, (eqF (.int .i64 0))), (21, (eqF (.bool false))), (38, (eqF (.bool false))), (51, (eqF (.bool true)))] [(2, (boxIF x)), (3, (boxIF y)), (4, (boxIF (-((x.natAbs / y.natAbs : Nat) : Int)))), (5, (boxIF ((x.natAbs % y.natAbs : Nat) : Int))), (7, (boxIF (-((x.natAbs / y.natAbs : Nat) : Int)))), (8, (boxIF ((x.natAbs % y.natAbs : Nat) : Int)))] a w → Q .normal a w) : (Code.region 10 rdm_o10 true).wp Tryd.prog Q a0 W0 := by
  have hP : Plan rdm_o10 56 ([⟨2, none, none, (boxIF x), (boxIF x)⟩, ⟨3, none, none, (boxIF y), (boxIF y)⟩, ⟨4, none, some 2, zeroIF, (boxIF (-((x.natAbs / y.natAbs : Nat) : Int)))⟩, ⟨5, none, some 3, zeroIF, (boxIF ((x.natAbs % y.natAbs : Nat) : Int))⟩, ⟨7, none, none, (boxIF (-((x.natAbs / y.natAbs : Nat) : Int))), (boxIF (-((x.natAbs / y.natAbs : Nat) : Int)))⟩, ⟨8, none, none, (boxIF ((x.natAbs % y.natAbs : Nat) : Int)), (boxIF ((x.natAbs % y.natAbs : Nat) : Int))⟩] : List BoxS) [] := ⟨by kernel_rfl, by kernel_rfl, by kernel_rfl, by kernel_rfl, by kernel_rfl, by kernel_rfl⟩
  refine region_st (F := [(intF (-((x.natAbs / y.natAbs : Nat) : Int))), (intF ((x.natAbs % y.natAbs : Nat) : Int)), anyF, anyF, (eqF (.int .i64 0))]) hP hst rfl rfl ?_ ?_ fin
  · show Steps rdm_o10 56 Wb W0 a0 _ _ _ 5
    refine steps_snoc (k := 4) ?_ (s_assign (i := 4) hP (g := none) (isOp_of (by kernel_rfl) : IsOp rdm_o10 4 none (.assign (.const (.int .i64 0)))) (by kernel_rfl) (by kernel_rfl) (grd_none) (src_const _) rfl)
    refine steps_snoc (k := 3) ?_ (s_store (i := 3) 3 _ (isOp_of (by kernel_rfl) : IsOp rdm_o10 3 none (.store 27 (.tmp 5) (.tmp 55))) (by kernel_rfl) rfl rfl rfl (by kernel_rfl) (by kernel_rfl) (by kernel_rfl) (src_op (f := (intF ((x.natAbs % y.natAbs : Nat) : Int))) 1 (by kernel_rfl) (by kernel_rfl) rfl) (storeI_zero _))
    refine steps_snoc (k := 2) ?_ (s_store (i := 2) 2 _ (isOp_of (by kernel_rfl) : IsOp rdm_o10 2 none (.store 27 (.tmp 4) (.tmp 54))) (by kernel_rfl) rfl rfl rfl (by kernel_rfl) (by kernel_rfl) (by kernel_rfl) (src_op (f := (intF (-((x.natAbs / y.natAbs : Nat) : Int)))) 0 (by kernel_rfl) (by kernel_rfl) rfl) (storeI_zero _))
    refine steps_snoc (k := 1) ?_ (s_load (i := 1) hP (g := none) (isOp_of (by kernel_rfl) : IsOp rdm_o10 1 none (.load 27 (.tmp 8))) (by kernel_rfl) (by kernel_rfl) (grd_none) (bsrc_old 5 _ rfl rfl rfl (by kernel_rfl) (by kernel_rfl)) (fun w q h => loadI_int w q h) rfl)
    refine steps_snoc (k := 0) ?_ (s_load (i := 0) hP (g := none) (isOp_of (by kernel_rfl) : IsOp rdm_o10 0 none (.load 27 (.tmp 7))) (by kernel_rfl) (by kernel_rfl) (grd_none) (bsrc_old 4 _ rfl rfl rfl (by kernel_rfl) (by kernel_rfl)) (fun w q h => loadI_int w q h) rfl)
    exact steps_nil
  · intro m a w hI hm
    exact ⟨(low_fact hst 0 rfl (by kernel_rfl) hI), (low_fact hst 1 rfl (by kernel_rfl) hI), (out_op hI hm 4 6 _ (by kernel_rfl) rfl), (low_fact hst 3 rfl (by kernel_rfl) hI), (low_fact hst 4 rfl (by kernel_rfl) hI), (low_fact hst 5 rfl (by kernel_rfl) hI), trivial⟩
set_option maxRecDepth 100000 in
theorem rdm_r5d {Q : Exit → Act → World → Prop} {Wb W0 : World} {a0 : Act} {x y : Int} {i j : Nat} (sx : Sm x i) (_sy : Sm y j) (_hi : i ≤ 400) (_hj : j ≤ 400) (_ny : y ≠ 0) (_nx : x < 0) (hr : ((x.natAbs % y.natAbs : Nat) : Int) = 0) (_hs : y < 0) (hst : St Wb 56 [(0, (intF x)), (1, (intF y)), (6, (eqF (.int .i64 0))), (21, (eqF (.bool false)))] [(2, (boxIF x)), (3, (boxIF y)), (4, zeroIF), (5, zeroIF), (7, (boxIF ((x.natAbs / y.natAbs : Nat) : Int))), (8, (boxIF ((x.natAbs % y.natAbs : Nat) : Int)))] a0 W0)
    (fin : ∀ a w, St Wb 56 [(0, (intF x)), (1, (intF y)), (6, (eqF (.int .i64 0))), (21, (eqF (.bool false))), (38, (eqF (.bool false)))] [(2, (boxIF x)), (3, (boxIF y)), (4, zeroIF), (5, zeroIF), (7, (boxIF ((x.natAbs / y.natAbs : Nat) : Int))), (8, (boxIF ((x.natAbs % y.natAbs : Nat) : Int)))] a w → Q .normal a w) : (Code.region 5 rdm_o5 false).wp Tryd.prog Q a0 W0 := by
  have hP : Plan rdm_o5 56 ([⟨2, none, none, (boxIF x), (boxIF x)⟩, ⟨3, none, none, (boxIF y), (boxIF y)⟩, ⟨4, none, none, zeroIF, zeroIF⟩, ⟨5, none, none, zeroIF, zeroIF⟩, ⟨7, none, none, (boxIF ((x.natAbs / y.natAbs : Nat) : Int)), (boxIF ((x.natAbs / y.natAbs : Nat) : Int))⟩, ⟨8, none, none, (boxIF ((x.natAbs % y.natAbs : Nat) : Int)), (boxIF ((x.natAbs % y.natAbs : Nat) : Int))⟩] : List BoxS) [(0, 2, 0)] := ⟨by kernel_rfl, by kernel_rfl, by kernel_rfl, by kernel_rfl, by kernel_rfl, by kernel_rfl⟩
  refine region_st (F := [anyF, (eqF (.bool true)), (eqF (.bool true)), (intF ((x.natAbs % y.natAbs : Nat) : Int)), (eqF (.int .i64 (Int.sign ((x.natAbs % y.natAbs : Nat) : Int)))), (eqF (.bool false)), (eqF (.bool false))]) hP hst rfl rfl ?_ ?_ fin
  · show Steps rdm_o5 56 Wb W0 a0 _ _ _ 7
    refine steps_snoc (k := 6) ?_ (s_pickT (i := 6) hP (g := none) (isOp_of (by kernel_rfl) : IsOp rdm_o5 6 none (.pick (.tmp 34) (.tmp 37) (.const (.bool false)))) (by kernel_rfl) (by kernel_rfl) (grd_none) (src_op (f := (eqF (.bool true))) 2 (by kernel_rfl) (by kernel_rfl) rfl) (src_op (f := (eqF (.bool false))) 5 (by kernel_rfl) (by kernel_rfl) rfl) rfl)
    refine steps_snoc (k := 5) ?_ (s_op2 (i := 5) hP (g := (some (2, true))) (isOp_of (by kernel_rfl) : IsOp rdm_o5 5 (some (2, true)) (.binOp .gtr 3 (.tmp 36) (.const (.int .i64 0)) 3)) (by kernel_rfl) (by kernel_rfl) (grd_op (d := 34) (by kernel_rfl) (by kernel_rfl) rfl rfl) (src_op (f := (eqF (.int .i64 (Int.sign ((x.natAbs % y.natAbs : Nat) : Int))))) 4 (by kernel_rfl) (by kernel_rfl) rfl) (src_const _) (fun ρ w hx hy => h_gtr (r := false) (by rw [hr]; decide) hx hy) rfl)
    refine steps_snoc (k := 4) ?_ (s_call1 (i := 4) hP (g := (some (2, true))) (isOp_of (by kernel_rfl) : IsOp rdm_o5 4 (some (2, true)) (.call { callee := .value (.func 29), args := #[.tmp 35], argTypes := #[27] })) (by kernel_rfl) (by kernel_rfl) (grd_op (d := 34) (by kernel_rfl) (by kernel_rfl) rfl rfl) (src_op (f := (intF ((x.natAbs % y.natAbs : Nat) : Int))) 3 (by kernel_rfl) (by kernel_rfl) rfl) rdmpl_quadrature_quadratureref01_Sign (fun w v0 hb h0 => kRSign h0 (sm_le sx.abs (Nat.mod_le _ _)) (by first | decide | assumption | omega)) rfl)
    refine steps_snoc (k := 3) ?_ (s_load (i := 3) hP (g := (some (2, true))) (isOp_of (by kernel_rfl) : IsOp rdm_o5 3 (some (2, true)) (.load 27 (.tmp 8))) (by kernel_rfl) (by kernel_rfl) (grd_op (d := 34) (by kernel_rfl) (by kernel_rfl) rfl rfl) (bsrc_old 5 _ rfl rfl rfl (by kernel_rfl) (by kernel_rfl)) (fun w q h => loadI_int w q h) rfl)
    refine steps_snoc (k := 2) ?_ (s_move (i := 2) hP (g := none) (isOp_of (by kernel_rfl) : IsOp rdm_o5 2 none (.move (.tmp 33))) (by kernel_rfl) (by kernel_rfl) (grd_none) (src_op (f := (eqF (.bool true))) 1 (by kernel_rfl) (by kernel_rfl) rfl) rfl)
    refine steps_snoc (k := 1) ?_ (s_load (i := 1) hP (g := none) (isOp_of (by kernel_rfl) : IsOp rdm_o5 1 none (.load 4 (.tmp 32))) (by kernel_rfl) (by kernel_rfl) (grd_none) (bsrc_at 0 (bsrc_old 0 _ rfl rfl rfl (by kernel_rfl) (by kernel_rfl)) (by kernel_rfl) (by kernel_rfl) (by kernel_rfl)) (fun w q h => loadI_neg (by simp; omega) w q h) rfl)
    refine steps_snoc (k := 0) ?_ (step_addr (i := 0) (d := 32) (g := none) hP (isOp_of (by kernel_rfl) : IsOp rdm_o5 0 none (.fieldAddr 27 (.tmp 2) 0)) (by kernel_rfl) (by kernel_rfl) 0 rfl rfl _ 0 rfl rfl (by kernel_rfl) (grd_none) fldI0)
    exact steps_nil
  · intro m a w hI hm
    exact ⟨(low_fact hst 0 rfl (by kernel_rfl) hI), (low_fact hst 1 rfl (by kernel_rfl) hI), (low_fact hst 2 rfl (by kernel_rfl) hI), (low_fact hst 3 rfl (by kernel_rfl) hI), (out_op hI hm 6 38 _ (by kernel_rfl) rfl), trivial⟩
set_option maxRecDepth 100000 in
theorem rdm_r8d {Q : Exit → Act → World → Prop} {Wb W0 : World} {a0 : Act} {x y : Int} {i j : Nat} (_sx : Sm x i) (_sy : Sm y j) (_hi : i ≤ 400) (_hj : j ≤ 400) (_ny : y ≠ 0) (_nx : x < 0) (_hr : ((x.natAbs % y.natAbs : Nat) : Int) = 0) (_hs : y < 0) (hst : St Wb 56 [(0, (intF x)), (1, (intF y)), (6, (eqF (.int .i64 0))), (21, (eqF (.bool false))), (38, (eqF (.bool false)))] [(2, (boxIF x)), (3, (boxIF y)), (4, zeroIF), (5, zeroIF), (7, (boxIF ((x.natAbs / y.natAbs : Nat) : Int))), (8, (boxIF ((x.natAbs % y.natAbs : Nat) : Int)))] a0 W0)
    (fin : ∀ a w, St Wb 56 [(0, (intF x)), (1, (intF y)), (6, (eqF (.int .i64 0))), (21, (eqF (.bool false))), (38, (eqF (.bool false))), (51, (eqF (.bool false)))] [(2, (boxIF x)), (3, (boxIF y)), (4, zeroIF), (5, zeroIF), (7, (boxIF ((x.natAbs / y.natAbs : Nat) : Int))), (8, (boxIF ((x.natAbs % y.natAbs : Nat) : Int)))] a w → Q .normal a w) : (Code.region 8 rdm_o8 false).wp Tryd.prog Q a0 W0 := by
  have hP : Plan rdm_o8 56 ([⟨2, none, none, (boxIF x), (boxIF x)⟩, ⟨3, none, none, (boxIF y), (boxIF y)⟩, ⟨4, none, none, zeroIF, zeroIF⟩, ⟨5, none, none, zeroIF, zeroIF⟩, ⟨7, none, none, (boxIF ((x.natAbs / y.natAbs : Nat) : Int)), (boxIF ((x.natAbs / y.natAbs : Nat) : Int))⟩, ⟨8, none, none, (boxIF ((x.natAbs % y.natAbs : Nat) : Int)), (boxIF ((x.natAbs % y.natAbs : Nat) : Int))⟩] : List BoxS) [(0, 2, 0), (2, 3, 0)] := ⟨by kernel_rfl, by kernel_rfl, by kernel_rfl, by kernel_rfl, by kernel_rfl, by kernel_rfl⟩
  refine region_st (F := [anyF, (eqF (.bool true)), anyF, (eqF (.bool true)), (eqF (.bool false))]) hP hst rfl rfl ?_ ?_ fin
  · show Steps rdm_o8 56 Wb W0 a0 _ _ _ 5
    refine steps_snoc (k := 4) ?_ (s_op2 (i := 4) hP (g := none) (isOp_of (by kernel_rfl) : IsOp rdm_o8 4 none (.binOp .neq 4 (.tmp 48) (.tmp 50) 4)) (by kernel_rfl) (by kernel_rfl) (grd_none) (src_op (f := (eqF (.bool true))) 1 (by kernel_rfl) (by kernel_rfl) rfl) (src_op (f := (eqF (.bool true))) 3 (by kernel_rfl) (by kernel_rfl) rfl) (fun ρ w hx hy => h_neqB rfl hx hy) rfl)
    refine steps_snoc (k := 3) ?_ (s_load (i := 3) hP (g := none) (isOp_of (by kernel_rfl) : IsOp rdm_o8 3 none (.load 4 (.tmp 49))) (by kernel_rfl) (by kernel_rfl) (grd_none) (bsrc_at 2 (bsrc_old 1 _ rfl rfl rfl (by kernel_rfl) (by kernel_rfl)) (by kernel_rfl) (by kernel_rfl) (by kernel_rfl)) (fun w q h => loadI_neg (by simp; omega) w q h) rfl)
    refine steps_snoc (k := 2) ?_ (step_addr (i := 2) (d := 49) (g := none) hP (isOp_of (by kernel_rfl) : IsOp rdm_o8 2 none (.fieldAddr 27 (.tmp 3) 0)) (by kernel_rfl) (by kernel_rfl) 0 rfl rfl _ 1 rfl rfl (by kernel_rfl) (grd_none) fldI0)
    refine steps_snoc (k := 1) ?_ (s_load (i := 1) hP (g := none) (isOp_of (by kernel_rfl) : IsOp rdm_o8 1 none (.load 4 (.tmp 47))) (by kernel_rfl) (by kernel_rfl) (grd_none) (bsrc_at 0 (bsrc_old 0 _ rfl rfl rfl (by kernel_rfl) (by kernel_rfl)) (by kernel_rfl) (by kernel_rfl) (by kernel_rfl)) (fun w q h => loadI_neg (by simp; omega) w q h) rfl)
    refine steps_snoc (k := 0) ?_ (step_addr (i := 0) (d := 47) (g := none) hP (isOp_of (by kernel_rfl) : IsOp rdm_o8 0 none (.fieldAddr 27 (.tmp 2) 0)) (by kernel_rfl) (by kernel_rfl) 0 rfl rfl _ 0 rfl rfl (by kernel_rfl) (grd_none) fldI0)
    exact steps_nil
  · intro m a w hI hm
    exact ⟨(low_fact hst 0 rfl (by kernel_rfl) hI), (low_fact hst 1 rfl (by kernel_rfl) hI), (low_fact hst 2 rfl (by kernel_rfl) hI), (low_fact hst 3 rfl (by kernel_rfl) hI), (low_fact hst 4 rfl (by kernel_rfl) hI), (out_op hI hm 4 51 _ (by kernel_rfl) rfl), trivial⟩
set_option maxRecDepth 100000 in
theorem rdm_r10d {Q : Exit → Act → World → Prop} {Wb W0 : World} {a0 : Act} {x y : Int} {i j : Nat} (_sx : Sm x i) (_sy : Sm y j) (_hi : i ≤ 400) (_hj : j ≤ 400)  (hst : St Wb 56 [(0, (intF x)), (1, (intF y)), (6, (eqF (.int .i64 0))), (21, (eqF (.bool false))), (38, (eqF (.bool false))), (51, (eqF (.bool false)))] [(2, (boxIF x)), (3, (boxIF y)), (4, zeroIF), (5, zeroIF), (7, (boxIF ((x.natAbs / y.natAbs : Nat) : Int))), (8, (boxIF ((x.natAbs % y.natAbs : Nat) : Int)))] a0 W0)
    (fin : ∀ a w, St Wb 56 [(0, (intF x)), (1, (intF y)), (6, (eqF (.int .i64 0))), (21, (eqF (.bool false))), (38, (eqF (.bool false))), (51, (eqF (.bool false)))] [(2, (boxIF x)), (3, (boxIF y)), (4, (boxIF ((x.natAbs / y.natAbs : Nat) : Int))), (5, (boxIF ((x.natAbs % y.natAbs : Nat) : Int))), (7, (boxIF ((x.natAbs / y.natAbs : Nat) : Int))), (8, (boxIF ((x.natAbs % y.natAbs : Nat) : Int)))] a w → Q .normal a w) : (Code.region 10 rdm_o10 true).wp Tryd.prog Q a0 W0 := by
  have hP : Plan rdm_o10 56 ([⟨2, none, none, (boxIF x), (boxIF x)⟩, ⟨3, none, none, (boxIF y), (boxIF y)⟩, ⟨4, none, some 2, zeroIF, (boxIF ((x.natAbs / y.natAbs : Nat) : Int))⟩, ⟨5, none, some 3, zeroIF, (boxIF ((x.natAbs % y.natAbs : Nat) : Int))⟩, ⟨7, none, none, (boxIF ((x.natAbs / y.natAbs : Nat) : Int)), (boxIF ((x.natAbs / y.natAbs : Nat) : Int))⟩, ⟨8, none, none, (boxIF ((x.natAbs % y.natAbs : Nat) : Int)), (boxIF ((x.natAbs % y.natAbs : Nat) : Int))⟩] : List BoxS) [] := ⟨by kernel_rfl, by kernel_rfl, by kernel_rfl, by kernel_rfl, by kernel_rfl, by kernel_rfl⟩
  refine region_st (F := [(intF ((x.natAbs / y.natAbs : Nat) : Int)), (intF ((x.natAbs % y.natAbs : Nat) : Int)), anyF, anyF, (eqF (.int .i64 0))]) hP hst rfl rfl ?_ ?_ fin
  · show Steps rdm_o10 56 Wb W0 a0 _ _ _ 5
    refine steps_snoc (k := 4) ?_ (s_assign (i := 4) hP (g := none) (isOp_of (by kernel_rfl) : IsOp rdm_o10 4 none (.assign (.const (.int .i64 0)))) (by kernel_rfl) (by kernel_rfl) (grd_none) (src_const _) rfl)
    refine steps_snoc (k := 3) ?_ (s_store (i := 3) 3 _ (isOp_of (by kernel_rfl) : IsOp rdm_o10 3 none (.store 27 (.tmp 5) (.tmp 55))) (by kernel_rfl) rfl rfl rfl (by kernel_rfl) (by kernel_rfl) (by kernel_rfl) (src_op (f := (intF ((x.natAbs % y.natAbs : Nat) : Int))) 1 (by kernel_rfl) (by kernel_rfl) rfl) (storeI_zero _))
    refine steps_snoc (k := 2) ?_ (s_store (i := 2) 2 _ (isOp_of (by kernel_rfl) : IsOp rdm_o10 2 none (.store 27 (.tmp 4) (.tmp 54))) (by kernel_rfl) rfl rfl rfl (by kernel_rfl) (by kernel_rfl) (by kernel_rfl) (src_op (f := (intF ((x.natAbs / y.natAbs : Nat) : Int))) 0 (by kernel_rfl) (by kernel_rfl) rfl) (storeI_zero _))
    refine steps_snoc (k := 1) ?_ (s_load (i := 1) hP (g := none) (isOp_of (by kernel_rfl) : IsOp rdm_o10 1 none (.load 27 (.tmp 8))) (by kernel_rfl) (by kernel_rfl) (grd_none) (bsrc_old 5 _ rfl rfl rfl (by kernel_rfl) (by kernel_rfl)) (fun w q h => loadI_int w q h) rfl)
    refine steps_snoc (k := 0) ?_ (s_load (i := 0) hP (g := none) (isOp_of (by kernel_rfl) : IsOp rdm_o10 0 none (.load 27 (.tmp 7))) (by kernel_rfl) (by kernel_rfl) (grd_none) (bsrc_old 4 _ rfl rfl rfl (by kernel_rfl) (by kernel_rfl)) (fun w q h => loadI_int w q h) rfl)
    exact steps_nil
  · intro m a w hI hm
    exact ⟨(low_fact hst 0 rfl (by kernel_rfl) hI), (low_fact hst 1 rfl (by kernel_rfl) hI), (out_op hI hm 4 6 _ (by kernel_rfl) rfl), (low_fact hst 3 rfl (by kernel_rfl) hI), (low_fact hst 4 rfl (by kernel_rfl) hI), (low_fact hst 5 rfl (by kernel_rfl) hI), trivial⟩
set_option maxRecDepth 100000 in
theorem rdm_r5e {Q : Exit → Act → World → Prop} {Wb W0 : World} {a0 : Act} {x y : Int} {i j : Nat} (_sx : Sm x i) (_sy : Sm y j) (_hi : i ≤ 400) (_hj : j ≤ 400) (_ny : y ≠ 0) (_nx : 0 ≤ x) (_hs : 0 < y) (hst : St Wb 56 [(0, (intF x)), (1, (intF y)), (6, (eqF (.int .i64 0))), (21, (eqF (.bool false)))] [(2, (boxIF x)), (3, (boxIF y)), (4, zeroIF), (5, zeroIF), (7, (boxIF ((x.natAbs / y.natAbs : Nat) : Int))), (8, (boxIF ((x.natAbs % y.natAbs : Nat) : Int)))] a0 W0)
    (fin : ∀ a w, St Wb 56 [(0, (intF x)), (1, (intF y)), (6, (eqF (.int .i64 0))), (21, (eqF (.bool false))), (38, (eqF (.bool false)))] [(2, (boxIF x)), (3, (boxIF y)), (4, zeroIF), (5, zeroIF), (7, (boxIF ((x.natAbs / y.natAbs : Nat) : Int))), (8, (boxIF ((x.natAbs % y.natAbs : Nat) : Int)))] a w → Q .normal a w) : (Code.region 5 rdm_o5 false).wp Tryd.prog Q a0 W0 := by
  have hP : Plan rdm_o5 56 ([⟨2, none, none, (boxIF x), (boxIF x)⟩, ⟨3, none, none, (boxIF y), (boxIF y)⟩, ⟨4, none, none, zeroIF, zeroIF⟩, ⟨5, none, none, zeroIF, zeroIF⟩, ⟨7, none, none, (boxIF ((x.natAbs / y.natAbs : Nat) : Int)), (boxIF ((x.natAbs / y.natAbs : Nat) : Int))⟩, ⟨8, none, none, (boxIF ((x.natAbs % y.natAbs : Nat) : Int)), (boxIF ((x.natAbs % y.natAbs : Nat) : Int))⟩] : List BoxS) [(0, 2, 0)] := ⟨by kernel_rfl, by kernel_rfl, by kernel_rfl, by kernel_rfl, by kernel_rfl, by kernel_rfl⟩
  refine region_st (F := [anyF, (eqF (.bool false)), (eqF (.bool false)), anyF, anyF, anyF, (eqF (.bool false))]) hP hst rfl rfl ?_ ?_ fin
  · show Steps rdm_o5 56 Wb W0 a0 _ _ _ 7
    refine steps_snoc (k := 6) ?_ (s_pickF (i := 6) hP (g := none) (isOp_of (by kernel_rfl) : IsOp rdm_o5 6 none (.pick (.tmp 34) (.tmp 37) (.const (.bool false)))) (by kernel_rfl) (by kernel_rfl) (grd_none) (src_op (f := (eqF (.bool false))) 2 (by kernel_rfl) (by kernel_rfl) rfl) (src_const _) rfl)
    refine steps_snoc (k := 5) ?_ (s_skip (i := 5) hP (g := (some (2, true))) (isOp_of (by kernel_rfl) : IsOp rdm_o5 5 (some (2, true)) (.binOp .gtr 3 (.tmp 36) (.const (.int .i64 0)) 3)) (by kernel_rfl) (by kernel_rfl) (grd_op (d := 34) (by kernel_rfl) (by kernel_rfl) rfl rfl) rfl)
    refine steps_snoc (k := 4) ?_ (s_skip (i := 4) hP (g := (some (2, true))) (isOp_of (by kernel_rfl) : IsOp rdm_o5 4 (some (2, true)) (.call { callee := .value (.func 29), args := #[.tmp 35], argTypes := #[27] })) (by kernel_rfl) (by kernel_rfl) (grd_op (d := 34) (by kernel_rfl) (by kernel_rfl) rfl rfl) rfl)
    refine steps_snoc (k := 3) ?_ (s_skip (i := 3) hP (g := (some (2, true))) (isOp_of (by kernel_rfl) : IsOp rdm_o5 3 (some (2, true)) (.load 27 (.tmp 8))) (by kernel_rfl) (by kernel_rfl) (grd_op (d := 34) (by kernel_rfl) (by kernel_rfl) rfl rfl) rfl)
    refine steps_snoc (k := 2) ?_ (s_move (i := 2) hP (g := none) (isOp_of (by kernel_rfl) : IsOp rdm_o5 2 none (.move (.tmp 33))) (by kernel_rfl) (by kernel_rfl) (grd_none) (src_op (f := (eqF (.bool false))) 1 (by kernel_rfl) (by kernel_rfl) rfl) rfl)
    refine steps_snoc (k := 1) ?_ (s_load (i := 1) hP (g := none) (isOp_of (by kernel_rfl) : IsOp rdm_o5 1 none (.load 4 (.tmp 32))) (by kernel_rfl) (by kernel_rfl) (grd_none) (bsrc_at 0 (bsrc_old 0 _ rfl rfl rfl (by kernel_rfl) (by kernel_rfl)) (by kernel_rfl) (by kernel_rfl) (by kernel_rfl)) (fun w q h => loadI_neg (by simp; omega) w q h) rfl)
    refine steps_snoc (k := 0) ?_ (step_addr (i := 0) (d := 32) (g := none) hP (isOp_of (by kernel_rfl) : IsOp rdm_o5 0 none (.fieldAddr 27 (.tmp 2) 0)) (by kernel_rfl) (by kernel_rfl) 0 rfl rfl _ 0 rfl rfl (by kernel_rfl) (grd_none) fldI0)
    exact steps_nil
  · intro m a w hI hm
    exact ⟨(low_fact hst 0 rfl (by kernel_rfl) hI), (low_fact hst 1 rfl (by kernel_rfl) hI), (low_fact hst 2 rfl (by kernel_rfl) hI), (low_fact hst 3 rfl (by kernel_rfl) hI), (out_op hI hm 6 38 _ (by kernel_rfl) rfl), trivial⟩
set_option maxRecDepth 100000 in
theorem rdm_r8e {Q : Exit → Act → World → Prop} {Wb W0 : World} {a0 : Act} {x y : Int} {i j : Nat} (_sx : Sm x i) (_sy : Sm y j) (_hi : i ≤ 400) (_hj : j ≤ 400) (_ny : y ≠ 0) (_nx : 0 ≤ x) (_hs : 0 < y) (hst : St Wb 56 [(0, (intF x)), (1, (intF y)), (6, (eqF (.int .i64 0))), (21, (eqF (.bool false))), (38, (eqF (.bool false)))] [(2, (boxIF x)), (3, (boxIF y)), (4, zeroIF), (5, zeroIF), (7, (boxIF ((x.natAbs / y.natAbs : Nat) : Int))), (8, (boxIF ((x.natAbs % y.natAbs : Nat) : Int)))] a0 W0)
    (fin : ∀ a w, St Wb 56 [(0, (intF x)), (1, (intF y)), (6, (eqF (.int .i64 0))), (21, (eqF (.bool false))), (38, (eqF (.bool false))), (51, (eqF (.bool false)))] [(2, (boxIF x)), (3, (boxIF y)), (4, zeroIF), (5, zeroIF), (7, (boxIF ((x.natAbs / y.natAbs : Nat) : Int))), (8, (boxIF ((x.natAbs % y.natAbs : Nat) : Int)))] a w → Q .normal a w) : (Code.region 8 rdm_o8 false).wp Tryd.prog Q a0 W0 := by
  have hP : Plan rdm_o8 56 ([⟨2, none, none, (boxIF x), (boxIF x)⟩, ⟨3, none, none, (boxIF y), (boxIF y)⟩, ⟨4, none, none, zeroIF, zeroIF⟩, ⟨5, none, none, zeroIF, zeroIF⟩, ⟨7, none, none, (boxIF ((x.natAbs / y.natAbs : Nat) : Int)), (boxIF ((x.natAbs / y.natAbs : Nat) : Int))⟩, ⟨8, none, none, (boxIF ((x.natAbs % y.natAbs : Nat) : Int)), (boxIF ((x.natAbs % y.natAbs : Nat) : Int))⟩] : List BoxS) [(0, 2, 0), (2, 3, 0)] := ⟨by kernel_rfl, by kernel_rfl, by kernel_rfl, by kernel_rfl, by kernel_rfl, by kernel_rfl⟩
  refine region_st (F := [anyF, (eqF (.bool false)), anyF, (eqF (.bool false)), (eqF (.bool false))]) hP hst rfl rfl ?_ ?_ fin
  · show Steps rdm_o8 56 Wb W0 a0 _ _ _ 5
    refine steps_snoc (k := 4) ?_ (s_op2 (i := 4) hP (g := none) (isOp_of (by kernel_rfl) : IsOp rdm_o8 4 none (.binOp .neq 4 (.tmp 48) (.tmp 50) 4)) (by kernel_rfl) (by kernel_rfl) (grd_none) (src_op (f := (eqF (.bool false))) 1 (by kernel_rfl) (by kernel_rfl) rfl) (src_op (f := (eqF (.bool false))) 3 (by kernel_rfl) (by kernel_rfl) rfl) (fun ρ w hx hy => h_neqB rfl hx hy) rfl)
    refine steps_snoc (k := 3) ?_ (s_load (i := 3) hP (g := none) (isOp_of (by kernel_rfl) : IsOp rdm_o8 3 none (.load 4 (.tmp 49))) (by kernel_rfl) (by kernel_rfl) (grd_none) (bsrc_at 2 (bsrc_old 1 _ rfl rfl rfl (by kernel_rfl) (by kernel_rfl)) (by kernel_rfl) (by kernel_rfl) (by kernel_rfl)) (fun w q h => loadI_neg (by simp; omega) w q h) rfl)
    refine steps_snoc (k := 2) ?_ (step_addr (i := 2) (d := 49) (g := none) hP (isOp_of (by kernel_rfl) : IsOp rdm_o8 2 none (.fieldAddr 27 (.tmp 3) 0)) (by kernel_rfl) (by kernel_rfl) 0 rfl rfl _ 1 rfl rfl (by kernel_rfl) (grd_none) fldI0)
    refine steps_snoc (k := 1) ?_ (s_load (i := 1) hP (g := none) (isOp_of (by kernel_rfl) : IsOp rdm_o8 1 none (.load 4 (.tmp 47))) (by kernel_rfl) (by kernel_rfl) (grd_none) (bsrc_at 0 (bsrc_old 0 _ rfl rfl rfl (by kernel_rfl) (by kernel_rfl)) (by kernel_rfl) (by kernel_rfl) (by kernel_rfl)) (fun w q h => loadI_neg (by simp; omega) w q h) rfl)
    refine steps_snoc (k := 0) ?_ (step_addr (i := 0) (d := 47) (g := none) hP (isOp_of (by kernel_rfl) : IsOp rdm_o8 0 none (.fieldAddr 27 (.tmp 2) 0)) (by kernel_rfl) (by kernel_rfl) 0 rfl rfl _ 0 rfl rfl (by kernel_rfl) (grd_none) fldI0)
    exact steps_nil
  · intro m a w hI hm
    exact ⟨(low_fact hst 0 rfl (by kernel_rfl) hI), (low_fact hst 1 rfl (by kernel_rfl) hI), (low_fact hst 2 rfl (by kernel_rfl) hI), (low_fact hst 3 rfl (by kernel_rfl) hI), (low_fact hst 4 rfl (by kernel_rfl) hI), (out_op hI hm 4 51 _ (by kernel_rfl) rfl), trivial⟩
set_option maxRecDepth 100000 in
theorem rdm_r5f {Q : Exit → Act → World → Prop} {Wb W0 : World} {a0 : Act} {x y : Int} {i j : Nat} (_sx : Sm x i) (_sy : Sm y j) (_hi : i ≤ 400) (_hj : j ≤ 400) (_ny : y ≠ 0) (_nx : 0 ≤ x) (_hs : y < 0) (hst : St Wb 56 [(0, (intF x)), (1, (intF y)), (6, (eqF (.int .i64 0))), (21, (eqF (.bool false)))] [(2, (boxIF x)), (3, (boxIF y)), (4, zeroIF), (5, zeroIF), (7, (boxIF ((x.natAbs / y.natAbs : Nat) : Int))), (8, (boxIF ((x.natAbs % y.natAbs : Nat) : Int)))] a0 W0)
    (fin : ∀ a w, St Wb 56 [(0, (intF x)), (1, (intF y)), (6, (eqF (.int .i64 0))), (21, (eqF (.bool false))), (38, (eqF (.bool false)))] [(2, (boxIF x)), (3, (boxIF y)), (4, zeroIF), (5, zeroIF), (7, (boxIF ((x.natAbs / y.natAbs : Nat) : Int))), (8, (boxIF ((x.natAbs % y.natAbs : Nat) : Int)))] a w → Q .normal a w) : (Code.region 5 rdm_o5 false).wp Tryd.prog Q a0 W0 := by
  have hP : Plan rdm_o5 56 ([⟨2, none, none, (boxIF x), (boxIF x)⟩, ⟨3, none, none, (boxIF y), (boxIF y)⟩, ⟨4, none, none, zeroIF, zeroIF⟩, ⟨5, none, none, zeroIF, zeroIF⟩, ⟨7, none, none, (boxIF ((x.natAbs / y.natAbs : Nat) : Int)), (boxIF ((x.natAbs / y.natAbs : Nat) : Int))⟩, ⟨8, none, none, (boxIF ((x.natAbs % y.natAbs : Nat) : Int)), (boxIF ((x.natAbs % y.natAbs : Nat) : Int))⟩] : List BoxS) [(0, 2, 0)] := ⟨by kernel_rfl, by kernel_rfl, by kernel_rfl, by kernel_rfl, by kernel_rfl, by kernel_rfl⟩
  refine region_st (F := [anyF, (eqF (.bool false)), (eqF (.bool false)), anyF, anyF, anyF, (eqF (.bool false))]) hP hst rfl rfl ?_ ?_ fin
  · show Steps rdm_o5 56 Wb W0 a0 _ _ _ 7
    refine steps_snoc (k := 6) ?_ (s_pickF (i := 6) hP (g := none) (isOp_of (by kernel_rfl) : IsOp rdm_o5 6 none (.pick (.tmp 34) (.tmp 37) (.const (.bool false)))) (by kernel_rfl) (by kernel_rfl) (grd_none) (src_op (f := (eqF (.bool false))) 2 (by kernel_rfl) (by kernel_rfl) rfl) (src_const _) rfl)
    refine steps_snoc (k := 5) ?_ (s_skip (i := 5) hP (g := (some (2, true))) (isOp_of (by kernel_rfl) : IsOp rdm_o5 5 (some (2, true)) (.binOp .gtr 3 (.tmp 36) (.const (.int .i64 0)) 3)) (by kernel_rfl) (by kernel_rfl) (grd_op (d := 34) (by kernel_rfl) (by kernel_rfl) rfl rfl) rfl)
    refine steps_snoc (k := 4) ?_ (s_skip (i := 4) hP (g := (some (2, true))) (isOp_of (by kernel_rfl) : IsOp rdm_o5 4 (some (2, true)) (.call { callee := .value (.func 29), args := #[.tmp 35], argTypes := #[27] })) (by kernel_rfl) (by kernel_rfl) (grd_op (d := 34) (by kernel_rfl) (by kernel_rfl) rfl rfl) rfl)
    refine steps_snoc (k := 3) ?_ (s_skip (i := 3) hP (g := (some (2, true))) (isOp_of (by kernel_rfl) : IsOp rdm_o5 3 (some (2, true)) (.load 27 (.tmp 8))) (by kernel_rfl) (by kernel_rfl) (grd_op (d := 34) (by kernel_rfl) (by kernel_rfl) rfl rfl) rfl)
    refine steps_snoc (k := 2) ?_ (s_move (i := 2) hP (g := none) (isOp_of (by kernel_rfl) : IsOp rdm_o5 2 none (.move (.tmp 33))) (by kernel_rfl) (by kernel_rfl) (grd_none) (src_op (f := (eqF (.bool false))) 1 (by kernel_rfl) (by kernel_rfl) rfl) rfl)
    refine steps_snoc (k := 1) ?_ (s_load (i := 1) hP (g := none) (isOp_of (by kernel_rfl) : IsOp rdm_o5 1 none (.load 4 (.tmp 32))) (by kernel_rfl) (by kernel_rfl) (grd_none) (bsrc_at 0 (bsrc_old 0 _ rfl rfl rfl (by kernel_rfl) (by kernel_rfl)) (by kernel_rfl) (by kernel_rfl) (by kernel_rfl)) (fun w q h => loadI_neg (by simp; omega) w q h) rfl)
    refine steps_snoc (k := 0) ?_ (step_addr (i := 0) (d := 32) (g := none) hP (isOp_of (by kernel_rfl) : IsOp rdm_o5 0 none (.fieldAddr 27 (.tmp 2) 0)) (by kernel_rfl) (by kernel_rfl) 0 rfl rfl _ 0 rfl rfl (by kernel_rfl) (grd_none) fldI0)
    exact steps_nil
  · intro m a w hI hm
    exact ⟨(low_fact hst 0 rfl (by kernel_rfl) hI), (low_fact hst 1 rfl (by kernel_rfl) hI), (low_fact hst 2 rfl (by kernel_rfl) hI), (low_fact hst 3 rfl (by kernel_rfl) hI), (out_op hI hm 6 38 _ (by kernel_rfl) rfl), trivial⟩
set_option maxRecDepth 100000 in
theorem rdm_r8f {Q : Exit → Act → World → Prop} {Wb W0 : World} {a0 : Act} {x y : Int} {i j : Nat} (_sx : Sm x i) (_sy : Sm y j) (_hi : i ≤ 400) (_hj : j ≤ 400) (_ny : y ≠ 0) (_nx : 0 ≤ x) (_hs : y < 0) (hst : St Wb 56 [(0, (intF x)), (1, (intF y)), (6, (eqF (.int .i64 0))), (21, (eqF (.bool false))), (38, (eqF (.bool false)))] [(2, (boxIF x)), (3, (boxIF y)), (4, zeroIF), (5, zeroIF), (7, (boxIF ((x.natAbs / y.natAbs : Nat) : Int))), (8, (boxIF ((x.natAbs % y.natAbs : Nat) : Int)))] a0 W0)
    (fin : ∀ a w, St Wb 56 [(0, (intF x)), (1, (intF y)), (6, (eqF (.int .i64 0))), (21, (eqF (.bool false))), (38, (eqF (.bool false))), (51, (eqF (.bool true)))] [(2, (boxIF x)), (3, (boxIF y)), (4, zeroIF), (5, zeroIF), (7, (boxIF ((x.natAbs / y.natAbs : Nat) : Int))), (8, (boxIF ((x.natAbs % y.natAbs : Nat) : Int)))] a w → Q .normal a w) : (Code.region 8 rdm_o8 false).wp Tryd.prog Q a0 W0 := by
  have hP : Plan rdm_o8 56 ([⟨2, none, none, (boxIF x), (boxIF x)⟩, ⟨3, none, none, (boxIF y), (boxIF y)⟩, ⟨4, none, none, zeroIF, zeroIF⟩, ⟨5, none, none, zeroIF, zeroIF⟩, ⟨7, none, none, (boxIF ((x.natAbs / y.natAbs : Nat) : Int)), (boxIF ((x.natAbs / y.natAbs : Nat) : Int))⟩, ⟨8, none, none, (boxIF ((x.natAbs % y.natAbs : Nat) : Int)), (boxIF ((x.natAbs % y.natAbs : Nat) : Int))⟩] : List BoxS) [(0, 2, 0), (2, 3, 0)] := ⟨by kernel_rfl, by kernel_rfl, by kernel_rfl, by kernel_rfl, by kernel_rfl, by kernel_rfl⟩
  refine region_st (F := [anyF, (eqF (.bool false)), anyF, (eqF (.bool true)), (eqF (.bool true))]) hP hst rfl rfl ?_ ?_ fin
  · show Steps rdm_o8 56 Wb W0 a0 _ _ _ 5
    refine steps_snoc (k := 4) ?_ (s_op2 (i := 4) hP (g := none) (isOp_of (by kernel_rfl) : IsOp rdm_o8 4 none (.binOp .neq 4 (.tmp 48) (.tmp 50) 4)) (by kernel_rfl) (by kernel_rfl) (grd_none) (src_op (f := (eqF (.bool false))) 1 (by kernel_rfl) (by kernel_rfl) rfl) (src_op (f := (eqF (.bool true))) 3 (by kernel_rfl) (by kernel_rfl) rfl) (fun ρ w hx hy => h_neqB rfl hx hy) rfl)
    refine steps_snoc (k := 3) ?_ (s_load (i := 3) hP (g := none) (isOp_of (by kernel_rfl) : IsOp rdm_o8 3 none (.load 4 (.tmp 49))) (by kernel_rfl) (by kernel_rfl) (grd_none) (bsrc_at 2 (bsrc_old 1 _ rfl rfl rfl (by kernel_rfl) (by kernel_rfl)) (by kernel_rfl) (by kernel_rfl) (by kernel_rfl)) (fun w q h => loadI_neg (by simp; omega) w q h) rfl)
    refine steps_snoc (k := 2) ?_ (step_addr (i := 2) (d := 49) (g := none) hP (isOp_of (by kernel_rfl) : IsOp rdm_o8 2 none (.fieldAddr 27 (.tmp 3) 0)) (by kernel_rfl) (by kernel_rfl) 0 rfl rfl _ 1 rfl rfl (by kernel_rfl) (grd_none) fldI0)
    refine steps_snoc (k := 1) ?_ (s_load (i := 1) hP (g := none) (isOp_of (by kernel_rfl) : IsOp rdm_o8 1 none (.load 4 (.tmp 47))) (by kernel_rfl) (by kernel_rfl) (grd_none) (bsrc_at 0 (bsrc_old 0 _ rfl rfl rfl (by kernel_rfl) (by kernel_rfl)) (by kernel_rfl) (by kernel_rfl) (by kernel_rfl)) (fun w q h => loadI_neg (by simp; omega) w q h) rfl)
    refine steps_snoc (k := 0) ?_ (step_addr (i := 0) (d := 47) (g := none) hP (isOp_of (by kernel_rfl) : IsOp rdm_o8 0 none (.fieldAddr 27 (.tmp 2) 0)) (by kernel_rfl) (by kernel_rfl) 0 rfl rfl _ 0 rfl rfl (by kernel_rfl) (grd_none) fldI0)
    exact steps_nil
  · intro m a w hI hm
    exact ⟨(low_fact hst 0 rfl (by kernel_rfl) hI), (low_fact hst 1 rfl (by kernel_rfl) hI), (low_fact hst 2 rfl (by kernel_rfl) hI), (low_fact hst 3 rfl (by kernel_rfl) hI), (low_fact hst 4 rfl (by kernel_rfl) hI), (out_op hI hm 4 51 _ (by kernel_rfl) rfl), trivial⟩
set_option maxRecDepth 100000 in
theorem RDivMod_any (va vb : Value) (x y : Int) (i j : Nat) (W : World) (ha : IntAt W va x) (hb : IntAt W vb y) (sx : Sm x i) (sy : Sm y j) (hi : i ≤ 400) (hj : j ≤ 400) (ny : y ≠ 0) :
    Calls Tryd.prog 35 #[va, vb] W (GivesP (tup3F (intF (x / y)) (intF (x % y)) (eqF (.int .i64 0))) W) := by
  refine calls_stW (S := [(0, (intF x)), (1, (intF y))]) Tryd.func35 (by kernel_rfl) Tryd.ntmps35 (by simp) (fun x hx => ?_) fun a w hst => ?_
  · simp only [List.mem_cons, List.not_mem_nil, or_false] at hx
    rcases hx with rfl | rfl
    · exact ⟨_, rfl, ha⟩
    · exact ⟨_, rfl, hb⟩
  show Code.wp _ rdm_n0 _ a w
  rcases Int.lt_or_le x 0 with nx | nx
  · rcases (show (0 : Int) < ((x.natAbs % y.natAbs : Nat) : Int) ∨ ((x.natAbs % y.natAbs : Nat) : Int) = 0 by omega) with hr | hr
    · rcases (show 0 < y ∨ y < 0 by omega) with hs | hs
      · rw [rdm_e0]
        refine wp_seq ?_
        rw [rdm_e1]
        refine rdm_r0 sx sy hi hj hst ?_
        clear hst
        intro a w hst
        show Code.wp _ rdm_n2 _ a w
        rw [rdm_e2]
        refine wp_seq ?_
        rw [rdm_e3]
        refine rdm_r1 sx sy hi hj hst ?_
        clear hst
        intro a w hst
        show Code.wp _ rdm_n4 _ a w
        rw [rdm_e4]
        refine wp_seq ?_
        rw [rdm_e5]
        refine wp_seq ?_
        rw [rdm_e7]
        refine rdm_r2 sx sy hi hj ny hst ?_
        clear hst
        intro a w hst
        show Code.wp _ rdm_n8 _ a w
        rw [rdm_e8]
        refine wp_cond_false (st_bool hst 3 rfl) ?_
        show Code.wp _ rdm_n10 _ a w
        rw [rdm_e10]
        refine wp_skip ?_
        show Code.wp _ rdm_n6 _ a w
        rw [rdm_e6]
        refine wp_seq ?_
        rw [rdm_e13]
        refine rdm_r4 sx sy hi hj ny hst ?_
        clear hst
        intro a w hst
        show Code.wp _ rdm_n14 _ a w
        rw [rdm_e14]
        refine wp_seq ?_
        rw [rdm_e15]
        refine wp_seq ?_
        rw [rdm_e17]
        refine rdm_r5 sx sy hi hj ny nx hr hs hst ?_
        clear hst
        intro a w hst
        show Code.wp _ rdm_n18 _ a w
        rw [rdm_e18]
        refine wp_cond_true (st_bool hst 4 rfl) ?_
        show Code.wp _ rdm_n19 _ a w
        rw [rdm_e19]
        refine wp_seq ?_
        rw [rdm_e21]
        refine rdm_r6 sx sy hi hj hst ?_
        clear hst
        intro a w hst
        show Code.wp _ rdm_n22 _ a w
        rw [rdm_e22]
        refine rdm_r7 sx sy hi hj hst ?_
        clear hst
        intro a w hst
        show Code.wp _ rdm_n16 _ a w
        rw [rdm_e16]
        refine wp_seq ?_
        rw [rdm_e23]
        refine wp_seq ?_
        rw [rdm_e25]
        refine rdm_r8 sx sy hi hj ny nx hr hs hst ?_
        clear hst
        intro a w hst
        show Code.wp _ rdm_n26 _ a w
        rw [rdm_e26]
        refine wp_cond_true (st_bool hst 5 rfl) ?_
        show Code.wp _ rdm_n27 _ a w
        rw [rdm_e27]
        refine rdm_r9 sx sy hi hj hst ?_
        clear hst
        intro a w hst
        show Code.wp _ rdm_n24 _ a w
        rw [rdm_e24]
        refine wp_seq ?_
        rw [rdm_e29]
        refine rdm_r10 sx sy hi hj hst ?_
        clear hst
        intro a w hst
        show Code.wp _ rdm_n30 _ a w
        rw [rdm_e30]
        refine wp_ret ?_
        obtain ⟨e1, e2⟩ : (-(((x.natAbs / y.natAbs : Nat) : Int) + 1)) = x / y ∧ (((y.natAbs : Nat) : Int) - ((x.natAbs % y.natAbs : Nat) : Int)) = x % y := by
          obtain ⟨Q, R, eQ, eR, k1, k2, k3⟩ := dm_abs x y ny
          rw [eQ, eR]
          rw [eR] at hr
          have ax : (x.natAbs : Int) = (-x) := by omega
          have ay : (y.natAbs : Int) = y := by omega
          rw [ax, ay] at k1
          rw [ay] at k3
          rw [ay]
          refine dm_pos hs ?_ (by omega) (by omega)
          have m1 : (-y) * Q = -(y * Q) := Int.neg_mul y Q
          have m2 : y * (-Q) = -(y * Q) := Int.mul_neg y Q
          have m3 : y * (Q + 1) = y * Q + y := by rw [Int.mul_add, Int.mul_one]
          have m4 : y * (-(Q + 1)) = -(y * Q) - y := by rw [Int.mul_neg, m3]; omega
          omega
        rw [e1, e2] at hst
        exact ret_boxI2_tmp hst rfl 2 rfl 3 rfl 2 rfl
      · rw [rdm_e0]
        refine wp_seq ?_
        rw [rdm_e1]
        refine rdm_r0 sx sy hi hj hst ?_
        clear hst
        intro a w hst
        show Code.wp _ rdm_n2 _ a w
        rw [rdm_e2]
        refine wp_seq ?_
        rw [rdm_e3]
        refine rdm_r1 sx sy hi hj hst ?_
        clear hst
        intro a w hst
        show Code.wp _ rdm_n4 _ a w
        rw [rdm_e4]
        refine wp_seq ?_
        rw [rdm_e5]
        refine wp_seq ?_
        rw [rdm_e7]
        refine rdm_r2 sx sy hi hj ny hst ?_
        clear hst
        intro a w hst
        show Code.wp _ rdm_n8 _ a w
        rw [rdm_e8]
        refine wp_cond_false (st_bool hst 3 rfl) ?_
        show Code.wp _ rdm_n10 _ a w
        rw [rdm_e10]
        refine wp_skip ?_
        show Code.wp _ rdm_n6 _ a w
        rw [rdm_e6]
        refine wp_seq ?_
        rw [rdm_e13]
        refine rdm_r4 sx sy hi hj ny hst ?_
        clear hst
        intro a w hst
        show Code.wp _ rdm_n14 _ a w
        rw [rdm_e14]
        refine wp_seq ?_
        rw [rdm_e15]
        refine wp_seq ?_
        rw [rdm_e17]
        refine rdm_r5b sx sy hi hj ny nx hr hs hst ?_
        clear hst
        intro a w hst
        show Code.wp _ rdm_n18 _ a w
        rw [rdm_e18]
        refine wp_cond_true (st_bool hst 4 rfl) ?_
        show Code.wp _ rdm_n19 _ a w
        rw [rdm_e19]
        refine wp_seq ?_
        rw [rdm_e21]
        refine rdm_r6 sx sy hi hj hst ?_
        clear hst
        intro a w hst
        show Code.wp _ rdm_n22 _ a w
        rw [rdm_e22]
        refine rdm_r7 sx sy hi hj hst ?_
        clear hst
        intro a w hst
        show Code.wp _ rdm_n16 _ a w
        rw [rdm_e16]
        refine wp_seq ?_
        rw [rdm_e23]
        refine wp_seq ?_
        rw [rdm_e25]
        refine rdm_r8b sx sy hi hj ny nx hr hs hst ?_
        clear hst
        intro a w hst
        show Code.wp _ rdm_n26 _ a w
        rw [rdm_e26]
        refine wp_cond_false (st_bool hst 5 rfl) ?_
        show Code.wp _ rdm_n28 _ a w
        rw [rdm_e28]
        refine wp_skip ?_
        show Code.wp _ rdm_n24 _ a w
        rw [rdm_e24]
        refine wp_seq ?_
        rw [rdm_e29]
        refine rdm_r10b sx sy hi hj hst ?_
        clear hst
        intro a w hst
        show Code.wp _ rdm_n30 _ a w
        rw [rdm_e30]
        refine wp_ret ?_
        obtain ⟨e1, e2⟩ : (((x.natAbs / y.natAbs : Nat) : Int) + 1) = x / y ∧ (((y.natAbs : Nat) : Int) - ((x.natAbs % y.natAbs : Nat) : Int)) = x % y := by
          obtain ⟨Q, R, eQ, eR, k1, k2, k3⟩ := dm_abs x y ny
          rw [eQ, eR]
          rw [eR] at hr
          have ax : (x.natAbs : Int) = (-x) := by omega
          have ay : (y.natAbs : Int) = (-y) := by omega
          rw [ax, ay] at k1
          rw [ay] at k3
          rw [ay]
          refine dm_neg hs ?_ (by omega) (by omega)
          have m1 : (-y) * Q = -(y * Q) := Int.neg_mul y Q
          have m2 : y * (-Q) = -(y * Q) := Int.mul_neg y Q
          have m3 : y * (Q + 1) = y * Q + y := by rw [Int.mul_add, Int.mul_one]
          have m4 : y * (-(Q + 1)) = -(y * Q) - y := by rw [Int.mul_neg, m3]; omega
          omega
        rw [e1, e2] at hst
        exact ret_boxI2_tmp hst rfl 2 rfl 3 rfl 2 rfl
    · rcases (show 0 < y ∨ y < 0 by omega) with hs | hs
      · rw [rdm_e0]
        refine wp_seq ?_
        rw [rdm_e1]
        refine rdm_r0 sx sy hi hj hst ?_
        clear hst
        intro a w hst
        show Code.wp _ rdm_n2 _ a w
        rw [rdm_e2]
        refine wp_seq ?_
        rw [rdm_e3]
        refine rdm_r1 sx sy hi hj hst ?_
        clear hst
        intro a w hst
        show Code.wp _ rdm_n4 _ a w
        rw [rdm_e4]
        refine wp_seq ?_
        rw [rdm_e5]
        refine wp_seq ?_
        rw [rdm_e7]
        refine rdm_r2 sx sy hi hj ny hst ?_
        clear hst
        intro a w hst
        show Code.wp _ rdm_n8 _ a w
        rw [rdm_e8]
        refine wp_cond_false (st_bool hst 3 rfl) ?_
        show Code.wp _ rdm_n10 _ a w
        rw [rdm_e10]
        refine wp_skip ?_
        show Code.wp _ rdm_n6 _ a w
        rw [rdm_e6]
        refine wp_seq ?_
        rw [rdm_e13]
        refine rdm_r4 sx sy hi hj ny hst ?_
        clear hst
        intro a w hst
        show Code.wp _ rdm_n14 _ a w
        rw [rdm_e14]
        refine wp_seq ?_
        rw [rdm_e15]
        refine wp_seq ?_
        rw [rdm_e17]
        refine rdm_r5c sx sy hi hj ny nx hr hs hst ?_
        clear hst
        intro a w hst
        show Code.wp _ rdm_n18 _ a w
        rw [rdm_e18]
        refine wp_cond_false (st_bool hst 4 rfl) ?_
        show Code.wp _ rdm_n20 _ a w
        rw [rdm_e20]
        refine wp_skip ?_
        show Code.wp _ rdm_n16 _ a w
        rw [rdm_e16]
        refine wp_seq ?_
        rw [rdm_e23]
        refine wp_seq ?_
        rw [rdm_e25]
        refine rdm_r8c sx sy hi hj ny nx hr hs hst ?_
        clear hst
        intro a w hst
        show Code.wp _ rdm_n26 _ a w
        rw [rdm_e26]
        refine wp_cond_true (st_bool hst 5 rfl) ?_
        show Code.wp _ rdm_n27 _ a w
        rw [rdm_e27]
        refine rdm_r9b sx sy hi hj hst ?_
        clear hst
        intro a w hst
        show Code.wp _ rdm_n24 _ a w
        rw [rdm_e24]
        refine wp_seq ?_
        rw [rdm_e29]
        refine rdm_r10c sx sy hi hj hst ?_
        clear hst
        intro a w hst
        show Code.wp _ rdm_n30 _ a w
        rw [rdm_e30]
        refine wp_ret ?_
        obtain ⟨e1, e2⟩ : (-((x.natAbs / y.natAbs : Nat) : Int)) = x / y ∧ ((x.natAbs % y.natAbs : Nat) : Int) = x % y := by
          obtain ⟨Q, R, eQ, eR, k1, k2, k3⟩ := dm_abs x y ny
          rw [eQ, eR]
          rw [eR] at hr
          have ax : (x.natAbs : Int) = (-x) := by omega
          have ay : (y.natAbs : Int) = y := by omega
          rw [ax, ay] at k1
          rw [ay] at k3
          refine dm_pos hs ?_ (by omega) (by omega)
          have m1 : (-y) * Q = -(y * Q) := Int.neg_mul y Q
          have m2 : y * (-Q) = -(y * Q) := Int.mul_neg y Q
          have m3 : y * (Q + 1) = y * Q + y := by rw [Int.mul_add, Int.mul_one]
          have m4 : y * (-(Q + 1)) = -(y * Q) - y := by rw [Int.mul_neg, m3]; omega
          omega
        rw [e1, e2] at hst
        exact ret_boxI2_tmp hst rfl 2 rfl 3 rfl 2 rfl
      · rw [rdm_e0]
        refine wp_seq ?_
        rw [rdm_e1]
        refine rdm_r0 sx sy hi hj hst ?_
        clear hst
        intro a w hst
        show Code.wp _ rdm_n2 _ a w
        rw [rdm_e2]
        refine wp_seq ?_
        rw [rdm_e3]
        refine rdm_r1 sx sy hi hj hst ?_
        clear hst
        intro a w hst
        show Code.wp _ rdm_n4 _ a w
        rw [rdm_e4]
        refine wp_seq ?_
        rw [rdm_e5]
        refine wp_seq ?_
        rw [rdm_e7]
        refine rdm_r2 sx sy hi hj ny hst ?_
        clear hst
        intro a w hst
        show Code.wp _ rdm_n8 _ a w
        rw [rdm_e8]
        refine wp_cond_false (st_bool hst 3 rfl) ?_
        show Code.wp _ rdm_n10 _ a w
        rw [rdm_e10]
        refine wp_skip ?_
        show Code.wp _ rdm_n6 _ a w
        rw [rdm_e6]
        refine wp_seq ?_
        rw [rdm_e13]
        refine rdm_r4 sx sy hi hj ny hst ?_
        clear hst
        intro a w hst
        show Code.wp _ rdm_n14 _ a w
        rw [rdm_e14]
        refine wp_seq ?_
        rw [rdm_e15]
        refine wp_seq ?_
        rw [rdm_e17]
        refine rdm_r5d sx sy hi hj ny nx hr hs hst ?_
        clear hst
        intro a w hst
        show Code.wp _ rdm_n18 _ a w
        rw [rdm_e18]
        refine wp_cond_false (st_bool hst 4 rfl) ?_
        show Code.wp _ rdm_n20 _ a w
        rw [rdm_e20]
        refine wp_skip ?_
        show Code.wp _ rdm_n16 _ a w
        rw [rdm_e16]
        refine wp_seq ?_
        rw [rdm_e23]
        refine wp_seq ?_
        rw [rdm_e25]
        refine rdm_r8d sx sy hi hj ny nx hr hs hst ?_
        clear hst
        intro a w hst
        show Code.wp _ rdm_n26 _ a w
        rw [rdm_e26]
        refine wp_cond_false (st_bool hst 5 rfl) ?_
        show Code.wp _ rdm_n28 _ a w
        rw [rdm_e28]
        refine wp_skip ?_
        show Code.wp _ rdm_n24 _ a w
        rw [rdm_e24]
        refine wp_seq ?_
        rw [rdm_e29]
        refine rdm_r10d sx sy hi hj hst ?_
        clear hst
        intro a w hst
        show Code.wp _ rdm_n30 _ a w
        rw [rdm_e30]
        refine wp_ret ?_
        obtain ⟨e1, e2⟩ : ((x.natAbs / y.natAbs : Nat) : Int) = x / y ∧ ((x.natAbs % y.natAbs : Nat) : Int) = x % y := by
          obtain ⟨Q, R, eQ, eR, k1, k2, k3⟩ := dm_abs x y ny
          rw [eQ, eR]
          rw [eR] at hr
          have ax : (x.natAbs : Int) = (-x) := by omega
          have ay : (y.natAbs : Int) = (-y) := by omega
          rw [ax, ay] at k1
          rw [ay] at k3
          refine dm_neg hs ?_ (by omega) (by omega)
          have m1 : (-y) * Q = -(y * Q) := Int.neg_mul y Q
          have m2 : y * (-Q) = -(y * Q) := Int.mul_neg y Q
          have m3 : y * (Q + 1) = y * Q + y := by rw [Int.mul_add, Int.mul_one]
          have m4 : y * (-(Q + 1)) = -(y * Q) - y := by rw [Int.mul_neg, m3]; omega
          omega
        rw [e1, e2] at hst
        exact ret_boxI2_tmp hst rfl 2 rfl 3 rfl 2 rfl
  · rcases (show 0 < y ∨ y < 0 by omega) with hs | hs
    · rw [rdm_e0]
      refine wp_seq ?_
      rw [rdm_e1]
      refine rdm_r0 sx sy hi hj hst ?_
      clear hst
      intro a w hst
      show Code.wp _ rdm_n2 _ a w
      rw [rdm_e2]
      refine wp_seq ?_
      rw [rdm_e3]
      refine rdm_r1 sx sy hi hj hst ?_
      clear hst
      intro a w hst
      show Code.wp _ rdm_n4 _ a w
      rw [rdm_e4]
      refine wp_seq ?_
      rw [rdm_e5]
      refine wp_seq ?_
      rw [rdm_e7]
      refine rdm_r2 sx sy hi hj ny hst ?_
      clear hst
      intro a w hst
      show Code.wp _ rdm_n8 _ a w
      rw [rdm_e8]
      refine wp_cond_false (st_bool hst 3 rfl) ?_
      show Code.wp _ rdm_n10 _ a w
      rw [rdm_e10]
      refine wp_skip ?_
      show Code.wp _ rdm_n6 _ a w
      rw [rdm_e6]
      refine wp_seq ?_
      rw [rdm_e13]
      refine rdm_r4 sx sy hi hj ny hst ?_
      clear hst
      intro a w hst
      show Code.wp _ rdm_n14 _ a w
      rw [rdm_e14]
      refine wp_seq ?_
      rw [rdm_e15]
      refine wp_seq ?_
      rw [rdm_e17]
      refine rdm_r5e sx sy hi hj ny nx hs hst ?_
      clear hst
      intro a w hst
      show Code.wp _ rdm_n18 _ a w
      rw [rdm_e18]
      refine wp_cond_false (st_bool hst 4 rfl) ?_
      show Code.wp _ rdm_n20 _ a w
      rw [rdm_e20]
      refine wp_skip ?_
      show Code.wp _ rdm_n16 _ a w
      rw [rdm_e16]
      refine wp_seq ?_
      rw [rdm_e23]
      refine wp_seq ?_
      rw [rdm_e25]
      refine rdm_r8e sx sy hi hj ny nx hs hst ?_
      clear hst
      intro a w hst
      show Code.wp _ rdm_n26 _ a w
      rw [rdm_e26]
      refine wp_cond_false (st_bool hst 5 rfl) ?_
      show Code.wp _ rdm_n28 _ a w
      rw [rdm_e28]
      refine wp_skip ?_
      show Code.wp _ rdm_n24 _ a w
      rw [rdm_e24]
      refine wp_seq ?_
      rw [rdm_e29]
      refine rdm_r10d sx sy hi hj hst ?_
      clear hst
      intro a w hst
      show Code.wp _ rdm_n30 _ a w
      rw [rdm_e30]
      refine wp_ret ?_
      obtain ⟨e1, e2⟩ : ((x.natAbs / y.natAbs : Nat) : Int) = x / y ∧ ((x.natAbs % y.natAbs : Nat) : Int) = x % y := by
        obtain ⟨Q, R, eQ, eR, k1, k2, k3⟩ := dm_abs x y ny
        rw [eQ, eR]
        have ax : (x.natAbs : Int) = x := by omega
        have ay : (y.natAbs : Int) = y := by omega
        rw [ax, ay] at k1
        rw [ay] at k3
        refine dm_pos hs ?_ (by omega) (by omega)
        have m1 : (-y) * Q = -(y * Q) := Int.neg_mul y Q
        have m2 : y * (-Q) = -(y * Q) := Int.mul_neg y Q
        have m3 : y * (Q + 1) = y * Q + y := by rw [Int.mul_add, Int.mul_one]
        have m4 : y * (-(Q + 1)) = -(y * Q) - y := by rw [Int.mul_neg, m3]; omega
        omega
      rw [e1, e2] at hst
      exact ret_boxI2_tmp hst rfl 2 rfl 3 rfl 2 rfl
    · rw [rdm_e0]
      refine wp_seq ?_
      rw [rdm_e1]
      refine rdm_r0 sx sy hi hj hst ?_
      clear hst
      intro a w hst
      show Code.wp _ rdm_n2 _ a w
      rw [rdm_e2]
      refine wp_seq ?_
      rw [rdm_e3]
      refine rdm_r1 sx sy hi hj hst ?_
      clear hst
      intro a w hst
      show Code.wp _ rdm_n4 _ a w
      rw [rdm_e4]
      refine wp_seq ?_
      rw [rdm_e5]
      refine wp_seq ?_
      rw [rdm_e7]
      refine rdm_r2 sx sy hi hj ny hst ?_
      clear hst
      intro a w hst
      show Code.wp _ rdm_n8 _ a w
      rw [rdm_e8]
      refine wp_cond_false (st_bool hst 3 rfl) ?_
      show Code.wp _ rdm_n10 _ a w
      rw [rdm_e10]
      refine wp_skip ?_
      show Code.wp _ rdm_n6 _ a w
      rw [rdm_e6]
      refine wp_seq ?_
      rw [rdm_e13]
      refine rdm_r4 sx sy hi hj ny hst ?_
      clear hst
      intro a w hst
      show Code.wp _ rdm_n14 _ a w
      rw [rdm_e14]
      refine wp_seq ?_
      rw [rdm_e15]
      refine wp_seq ?_
      rw [rdm_e17]
      refine rdm_r5f sx sy hi hj ny nx hs hst ?_
      clear hst
      intro a w hst
      show Code.wp _ rdm_n18 _ a w
      rw [rdm_e18]
      refine wp_cond_false (st_bool hst 4 rfl) ?_
      show Code.wp _ rdm_n20 _ a w
      rw [rdm_e20]
      refine wp_skip ?_
      show Code.wp _ rdm_n16 _ a w
      rw [rdm_e16]
      refine wp_seq ?_
      rw [rdm_e23]
      refine wp_seq ?_
      rw [rdm_e25]
      refine rdm_r8f sx sy hi hj ny nx hs hst ?_
      clear hst
      intro a w hst
      show Code.wp _ rdm_n26 _ a w
      rw [rdm_e26]
      refine wp_cond_true (st_bool hst 5 rfl) ?_
      show Code.wp _ rdm_n27 _ a w
      rw [rdm_e27]
      refine rdm_r9b sx sy hi hj hst ?_
      clear hst
      intro a w hst
      show Code.wp _ rdm_n24 _ a w
      rw [rdm_e24]
      refine wp_seq ?_
      rw [rdm_e29]
      refine rdm_r10c sx sy hi hj hst ?_
      clear hst
      intro a w hst
      show Code.wp _ rdm_n30 _ a w
      rw [rdm_e30]
      refine wp_ret ?_
      obtain ⟨e1, e2⟩ : (-((x.natAbs / y.natAbs : Nat) : Int)) = x / y ∧ ((x.natAbs % y.natAbs : Nat) : Int) = x % y := by
        obtain ⟨Q, R, eQ, eR, k1, k2, k3⟩ := dm_abs x y ny
        rw [eQ, eR]
        have ax : (x.natAbs : Int) = x := by omega
        have ay : (y.natAbs : Int) = (-y) := by omega
        rw [ax, ay] at k1
        rw [ay] at k3
        refine dm_neg hs ?_ (by omega) (by omega)
        have m1 : (-y) * Q = -(y * Q) := Int.neg_mul y Q
        have m2 : y * (-Q) = -(y * Q) := Int.mul_neg y Q
        have m3 : y * (Q + 1) = y * Q + y := by rw [Int.mul_add, Int.mul_one]
        have m4 : y * (-(Q + 1)) = -(y * Q) - y := by rw [Int.mul_neg, m3]; omega
        omega
      rw [e1, e2] at hst
      exact ret_boxI2_tmp hst rfl 2 rfl 3 rfl 2 rfl

end Go.Proofs.YtjajmonhcnmidaaDoor
