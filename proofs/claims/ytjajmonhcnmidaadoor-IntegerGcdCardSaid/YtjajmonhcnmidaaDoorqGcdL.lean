/- The law IntegerGcd answers true, given the fixed examples (written by wip/tools/gen_gcd.py). -/
import Derived.Test.YtjajmonhcnmidaaDoorqDvsr
import Derived.Test.YtjajmonhcnmidaaDoorqRGcd
namespace Go.Proofs.YtjajmonhcnmidaaDoor
open Go.RowKit

theorem sm_gcd {x y : Int} {i j : Nat} (hx : Sm x i) (hy : Sm y j) : Sm ((Int.gcd x y : Nat) : Int) (max i j) := by
  unfold Sm
  show Nat.gcd x.natAbs y.natAbs < _
  rcases Nat.eq_zero_or_pos x.natAbs with h | h
  · rw [h, Nat.gcd_zero_left]
    exact Nat.lt_of_lt_of_le hy (Nat.pow_le_pow_right (by decide) (Nat.le_max_right _ _))
  · exact Nat.lt_of_le_of_lt (Nat.le_of_dvd h (Nat.gcd_dvd_left _ _)) (Nat.lt_of_lt_of_le hx (Nat.pow_le_pow_right (by decide) (Nat.le_max_left _ _)))
theorem gcd_swap (x y : Int) : ((Int.gcd x y : Nat) : Int) = ((Int.gcd y x : Nat) : Int) := by rw [Int.gcd_comm]
theorem gcd_abs (x y z : Int) : ((Int.gcd (x * z) (y * z) : Nat) : Int) = ((Int.gcd x y : Nat) : Int) * ((z.natAbs : Nat) : Int) := by rw [Int.gcd_mul_right, Int.natCast_mul]
theorem sgn_ne {z : Int} (h : z ≠ 0) : (Int.sign z == 0) = false := by simpa [Int.sign_eq_zero_iff_zero] using h
theorem sgn_pos {n : Nat} (h : ((n : Nat) : Int) ≠ 0) : decide (Int.sign ((n : Nat) : Int) > 0) = true := by
  rw [Int.sign_eq_one_of_pos (by omega)]
  decide
theorem dvd_l (x y : Int) : (Int.sign (x % ((Int.gcd x y : Nat) : Int)) == 0) = true := by
  rw [Int.emod_eq_zero_of_dvd (Int.gcd_dvd_left x y)]
  rfl
theorem dvd_r (x y : Int) : (Int.sign (y % ((Int.gcd x y : Nat) : Int)) == 0) = true := by
  rw [Int.emod_eq_zero_of_dvd (Int.gcd_dvd_right x y)]
  rfl
theorem kGcd {x y : Int} {i j : Nat} {va vb : Value} {w : World} (ha : (intF x).p va w) (hb : (intF y).p vb w) (sx : Sm x i) (sy : Sm y j) (hi : i ≤ 1000) (hj : j ≤ 1000) : Calls Tryd.prog 33 #[va, vb] w (GivesP (intF ((Int.gcd x y : Nat) : Int)) w) :=
  Gcd_from va vb x y w ha hb (by have := sx.len hi; omega) (by have := sy.len hj; omega) fun u v W hu hv => divisor_any u v _ _ W hu hv (sx.len hi) (sy.len hj)
theorem kRGcd {x y : Int} {k : Nat} {va vb : Value} {w : World} (ha : (intF x).p va w) (hb : (intF y).p vb w) (sx : Sm x k) (sy : Sm y k) (hk : k ≤ 400) : Calls Tryd.prog 34 #[va, vb] w (GivesP (intF ((Int.gcd x y : Nat) : Int)) w) := RGcd_any va vb x y k w ha hb sx sy hk
theorem glpl_quadrature_integer_Gcd : Plainly 33 := fun _ _ => by simp [go_sem]
theorem glpl_quadrature_quadraturelaw01_made : Plainly 12 := fun _ _ => by simp [go_sem]
theorem glpl_quadrature_quadraturelaw01_sanity : Plainly 11 := fun _ _ => by simp [go_sem]
theorem glpl_quadrature_quadratureref01_DivMod : Plainly 35 := fun _ _ => by simp [go_sem]
theorem glpl_quadrature_quadratureref01_Gcd : Plainly 34 := fun _ _ => by simp [go_sem]
theorem glpl_quadrature_quadratureref01_Made : Plainly 32 := fun _ _ => by simp [go_sem]
theorem glpl_quadrature_quadratureref01_Mul : Plainly 24 := fun _ _ => by simp [go_sem]
theorem glpl_quadrature_quadratureref01_Same : Plainly 21 := fun _ _ => by simp [go_sem]
theorem glpl_quadrature_quadratureref01_Sign : Plainly 29 := fun _ _ => by simp [go_sem]
theorem glpl_quadrature_quadratureref01_Valid : Plainly 20 := fun _ _ => by simp [go_sem]
noncomputable def gl_n0 : Code := bodyOf Tryd.f8
noncomputable def gl_n1 : Code := cl gl_n0
noncomputable def gl_n2 : Code := cr gl_n0
theorem gl_e0 : gl_n0 = .seq gl_n1 gl_n2 := by kernel_rfl
noncomputable def gl_o0 : Array Oper := opsOf gl_n1
theorem gl_e1 : gl_n1 = .region 0 gl_o0 false := by kernel_rfl
noncomputable def gl_n3 : Code := cl gl_n2
noncomputable def gl_n4 : Code := cr gl_n2
theorem gl_e2 : gl_n2 = .seq gl_n3 gl_n4 := by kernel_rfl
noncomputable def gl_o1 : Array Oper := opsOf gl_n3
theorem gl_e3 : gl_n3 = .region 1 gl_o1 false := by kernel_rfl
noncomputable def gl_n5 : Code := cl gl_n4
noncomputable def gl_n6 : Code := cr gl_n4
theorem gl_e4 : gl_n4 = .seq gl_n5 gl_n6 := by kernel_rfl
noncomputable def gl_o2 : Array Oper := opsOf gl_n5
theorem gl_e5 : gl_n5 = .region 2 gl_o2 true := by kernel_rfl
noncomputable def gl_n7 : Code := cl gl_n6
noncomputable def gl_n8 : Code := cr gl_n6
theorem gl_e6 : gl_n6 = .seq gl_n7 gl_n8 := by kernel_rfl
noncomputable def gl_o3 : Array Oper := opsOf gl_n7
theorem gl_e7 : gl_n7 = .region 3 gl_o3 true := by kernel_rfl
noncomputable def gl_n9 : Code := cl gl_n8
noncomputable def gl_n10 : Code := cr gl_n8
theorem gl_e8 : gl_n8 = .seq gl_n9 gl_n10 := by kernel_rfl
noncomputable def gl_o4 : Array Oper := opsOf gl_n9
theorem gl_e9 : gl_n9 = .region 4 gl_o4 true := by kernel_rfl
noncomputable def gl_n11 : Code := cl gl_n10
noncomputable def gl_n12 : Code := cr gl_n10
theorem gl_e10 : gl_n10 = .seq gl_n11 gl_n12 := by kernel_rfl
noncomputable def gl_n13 : Code := cl gl_n11
noncomputable def gl_n14 : Code := cr gl_n11
theorem gl_e11 : gl_n11 = .seq gl_n13 gl_n14 := by kernel_rfl
noncomputable def gl_o5 : Array Oper := opsOf gl_n13
theorem gl_e13 : gl_n13 = .region 5 gl_o5 true := by kernel_rfl
noncomputable def gl_n15 : Code := cl gl_n14
noncomputable def gl_n16 : Code := cr gl_n14
theorem gl_e14 : gl_n14 = .cond (.tmp 88) gl_n15 gl_n16 := by kernel_rfl
noncomputable def gl_n17 : Code := cl gl_n15
noncomputable def gl_n18 : Code := cr gl_n15
theorem gl_e15 : gl_n15 = .seq gl_n17 gl_n18 := by kernel_rfl
noncomputable def gl_o6 : Array Oper := opsOf gl_n17
theorem gl_e17 : gl_n17 = .region 6 gl_o6 false := by kernel_rfl
theorem gl_e18 : gl_n18 = .ret := by kernel_rfl
theorem gl_e16 : gl_n16 = .skip := by kernel_rfl
noncomputable def gl_n19 : Code := cl gl_n12
noncomputable def gl_n20 : Code := cr gl_n12
theorem gl_e12 : gl_n12 = .seq gl_n19 gl_n20 := by kernel_rfl
noncomputable def gl_n21 : Code := cl gl_n19
noncomputable def gl_n22 : Code := cr gl_n19
theorem gl_e19 : gl_n19 = .seq gl_n21 gl_n22 := by kernel_rfl
noncomputable def gl_o7 : Array Oper := opsOf gl_n21
theorem gl_e21 : gl_n21 = .region 7 gl_o7 false := by kernel_rfl
noncomputable def gl_n23 : Code := cl gl_n22
noncomputable def gl_n24 : Code := cr gl_n22
theorem gl_e22 : gl_n22 = .cond (.tmp 91) gl_n23 gl_n24 := by kernel_rfl
noncomputable def gl_n25 : Code := cl gl_n23
noncomputable def gl_n26 : Code := cr gl_n23
theorem gl_e23 : gl_n23 = .seq gl_n25 gl_n26 := by kernel_rfl
noncomputable def gl_o8 : Array Oper := opsOf gl_n25
theorem gl_e25 : gl_n25 = .region 8 gl_o8 false := by kernel_rfl
theorem gl_e26 : gl_n26 = .ret := by kernel_rfl
theorem gl_e24 : gl_n24 = .skip := by kernel_rfl
noncomputable def gl_n27 : Code := cl gl_n20
noncomputable def gl_n28 : Code := cr gl_n20
theorem gl_e20 : gl_n20 = .seq gl_n27 gl_n28 := by kernel_rfl
noncomputable def gl_o9 : Array Oper := opsOf gl_n27
theorem gl_e27 : gl_n27 = .region 9 gl_o9 false := by kernel_rfl
noncomputable def gl_n29 : Code := cl gl_n28
noncomputable def gl_n30 : Code := cr gl_n28
theorem gl_e28 : gl_n28 = .seq gl_n29 gl_n30 := by kernel_rfl
noncomputable def gl_o10 : Array Oper := opsOf gl_n29
theorem gl_e29 : gl_n29 = .region 10 gl_o10 false := by kernel_rfl
noncomputable def gl_n31 : Code := cl gl_n30
noncomputable def gl_n32 : Code := cr gl_n30
theorem gl_e30 : gl_n30 = .seq gl_n31 gl_n32 := by kernel_rfl
noncomputable def gl_o11 : Array Oper := opsOf gl_n31
theorem gl_e31 : gl_n31 = .region 11 gl_o11 false := by kernel_rfl
theorem gl_e32 : gl_n32 = .ret := by kernel_rfl
set_option maxRecDepth 100000 in
theorem gl_r0 {Q : Exit → Act → World → Prop} {Wb W0 : World} {a0 : Act} {r0 r1 r2 : RawArg} (_hS : Sanity) (_ht : P10 Wb) (_k0 : r0.Ok Wb) (_k1 : r1.Ok Wb) (_k2 : r2.Ok Wb)  (hst : St Wb 133 [(0, (eqF r0.val_)), (1, (eqF r1.val_)), (2, (eqF r2.val_))] [] a0 W0)
    (fin : ∀ a w, St Wb 133 [(0, (eqF r0.val_)), (1, (eqF r1.val_)), (2, (eqF r2.val_)), (6, (eqF (.bool false)))] [(3, (rawBF r0)), (4, (rawBF r1)), (5, (rawBF r2))] a w → Q .normal a w) : (Code.region 0 gl_o0 false).wp Tryd.prog Q a0 W0 := by
  have hP : Plan gl_o0 133 ([⟨3, some 0, none, (rawBF r0), (rawBF r0)⟩, ⟨4, some 1, none, (rawBF r1), (rawBF r1)⟩, ⟨5, some 2, none, (rawBF r2), (rawBF r2)⟩] : List BoxS) [] := ⟨by kernel_rfl, by kernel_rfl, by kernel_rfl, by kernel_rfl, by kernel_rfl, by kernel_rfl⟩
  refine region_st (F := [anyF, anyF, anyF, (eqF (.bool false))]) hP hst rfl rfl ?_ ?_ fin
  · show Steps gl_o0 133 Wb W0 a0 _ _ _ 4
    refine steps_snoc (k := 3) ?_ (s_assign (i := 3) hP (g := none) (isOp_of (by kernel_rfl) : IsOp gl_o0 3 none (.assign (.const (.bool false)))) (by kernel_rfl) (by kernel_rfl) (grd_none) (src_const _) rfl)
    refine steps_snoc (k := 2) ?_ (s_box (i := 2) (d := 5) hP 2 _ (isOp_of (by kernel_rfl) : IsOp gl_o0 2 none (.box 24 (.tmp 2))) (by kernel_rfl) rfl rfl rfl (by kernel_rfl) (by kernel_rfl) (by kernel_rfl) (by kernel_rfl) rfl (src_low hst 2 rfl (by kernel_rfl)) (fun w v h => boxR_run w v h))
    refine steps_snoc (k := 1) ?_ (s_box (i := 1) (d := 4) hP 1 _ (isOp_of (by kernel_rfl) : IsOp gl_o0 1 none (.box 24 (.tmp 1))) (by kernel_rfl) rfl rfl rfl (by kernel_rfl) (by kernel_rfl) (by kernel_rfl) (by kernel_rfl) rfl (src_low hst 1 rfl (by kernel_rfl)) (fun w v h => boxR_run w v h))
    refine steps_snoc (k := 0) ?_ (s_box (i := 0) (d := 3) hP 0 _ (isOp_of (by kernel_rfl) : IsOp gl_o0 0 none (.box 24 (.tmp 0))) (by kernel_rfl) rfl rfl rfl (by kernel_rfl) (by kernel_rfl) (by kernel_rfl) (by kernel_rfl) rfl (src_low hst 0 rfl (by kernel_rfl)) (fun w v h => boxR_run w v h))
    exact steps_nil
  · intro m a w hI hm
    exact ⟨(low_fact hst 0 rfl (by kernel_rfl) hI), (low_fact hst 1 rfl (by kernel_rfl) hI), (low_fact hst 2 rfl (by kernel_rfl) hI), (out_op hI hm 3 6 _ (by kernel_rfl) rfl), trivial⟩
set_option maxRecDepth 100000 in
theorem gl_r1 {Q : Exit → Act → World → Prop} {Wb W0 : World} {a0 : Act} {r0 r1 r2 : RawArg} (hS : Sanity) (ht : P10 Wb) (_k0 : r0.Ok Wb) (_k1 : r1.Ok Wb) (_k2 : r2.Ok Wb)  (hst : St Wb 133 [(0, (eqF r0.val_)), (1, (eqF r1.val_)), (2, (eqF r2.val_)), (6, (eqF (.bool false)))] [(3, (rawBF r0)), (4, (rawBF r1)), (5, (rawBF r2))] a0 W0)
    (fin : ∀ a w, St Wb 133 [(0, (eqF r0.val_)), (1, (eqF r1.val_)), (2, (eqF r2.val_)), (6, (eqF (.bool false))), (7, (eqF (.bool true)))] [(3, (rawBF r0)), (4, (rawBF r1)), (5, (rawBF r2))] a w → Q .normal a w) : (Code.region 1 gl_o1 false).wp Tryd.prog Q a0 W0 := by
  have hP : Plan gl_o1 133 ([⟨3, none, none, (rawBF r0), (rawBF r0)⟩, ⟨4, none, none, (rawBF r1), (rawBF r1)⟩, ⟨5, none, none, (rawBF r2), (rawBF r2)⟩] : List BoxS) [] := ⟨by kernel_rfl, by kernel_rfl, by kernel_rfl, by kernel_rfl, by kernel_rfl, by kernel_rfl⟩
  refine region_st (F := [(eqF (.bool true)), (eqF (.bool true))]) hP hst rfl rfl ?_ ?_ fin
  · show Steps gl_o1 133 Wb W0 a0 _ _ _ 2
    refine steps_snoc (k := 1) ?_ (s_assign (i := 1) hP (g := none) (isOp_of (by kernel_rfl) : IsOp gl_o1 1 none (.assign (.tmp 19))) (by kernel_rfl) (by kernel_rfl) (grd_none) (src_op (f := (eqF (.bool true))) 0 (by kernel_rfl) (by kernel_rfl) rfl) rfl)
    refine steps_snoc (k := 0) ?_ (s_call0 (i := 0) hP (g := none) (isOp_of (by kernel_rfl) : IsOp gl_o1 0 none (.call { callee := .value (.func 11), args := #[], argTypes := #[] })) (by kernel_rfl) (by kernel_rfl) (grd_none)  glpl_quadrature_quadraturelaw01_sanity (fun w  hb  => kSanity hS ht hb) rfl)
    exact steps_nil
  · intro m a w hI hm
    exact ⟨(low_fact hst 0 rfl (by kernel_rfl) hI), (low_fact hst 1 rfl (by kernel_rfl) hI), (low_fact hst 2 rfl (by kernel_rfl) hI), (low_fact hst 3 rfl (by kernel_rfl) hI), (out_op hI hm 1 7 _ (by kernel_rfl) rfl), trivial⟩
set_option maxRecDepth 100000 in
theorem gl_r2 {Q : Exit → Act → World → Prop} {Wb W0 : World} {a0 : Act} {r0 r1 r2 : RawArg} (_hS : Sanity) (_ht : P10 Wb) (k0 : r0.Ok Wb) (k1 : r1.Ok Wb) (k2 : r2.Ok Wb)  (hst : St Wb 133 [(0, (eqF r0.val_)), (1, (eqF r1.val_)), (2, (eqF r2.val_)), (6, (eqF (.bool false))), (7, (eqF (.bool true)))] [(3, (rawBF r0)), (4, (rawBF r1)), (5, (rawBF r2))] a0 W0)
    (fin : ∀ a w, St Wb 133 [(0, (eqF r0.val_)), (1, (eqF r1.val_)), (2, (eqF r2.val_)), (6, (eqF (.bool false))), (7, (eqF (.bool true)))] [(3, (rawBF (r0.cut 6))), (4, (rawBF (r1.cut 6))), (5, (rawBF (r2.cut 2)))] a w → Q .normal a w) : (Code.region 2 gl_o2 true).wp Tryd.prog Q a0 W0 := by
  have hP : Plan gl_o2 133 ([⟨3, none, some 22, (rawBF r0), (rawBF (r0.cut 6))⟩, ⟨4, none, some 24, (rawBF r1), (rawBF (r1.cut 6))⟩, ⟨5, none, some 26, (rawBF r2), (rawBF (r2.cut 2))⟩] : List BoxS) [(0, 3, 0), (2, 3, 0), (7, 4, 0), (9, 4, 0), (14, 5, 0), (16, 5, 0), (21, 3, 0), (23, 4, 0), (25, 5, 0)] := ⟨by kernel_rfl, by kernel_rfl, by kernel_rfl, by kernel_rfl, by kernel_rfl, by kernel_rfl⟩
  refine region_st (F := [anyF, (eqF (.slice r0.A r0.k r0.c)), anyF, (eqF (.slice r0.A r0.k r0.c)), (eqF (.int .i64 (r0.k : Int))), (eqF (.int .i64 ((min r0.k 6 : Nat) : Int))), (eqF (.slice r0.A (min r0.k 6) r0.c)), anyF, (eqF (.slice r1.A r1.k r1.c)), anyF, (eqF (.slice r1.A r1.k r1.c)), (eqF (.int .i64 (r1.k : Int))), (eqF (.int .i64 ((min r1.k 6 : Nat) : Int))), (eqF (.slice r1.A (min r1.k 6) r1.c)), anyF, (eqF (.slice r2.A r2.k r2.c)), anyF, (eqF (.slice r2.A r2.k r2.c)), (eqF (.int .i64 (r2.k : Int))), (eqF (.int .i64 ((min r2.k 2 : Nat) : Int))), (eqF (.slice r2.A (min r2.k 2) r2.c)), anyF, anyF, anyF, anyF, anyF, anyF]) hP hst rfl rfl ?_ ?_ fin
  · show Steps gl_o2 133 Wb W0 a0 _ _ _ 27
    refine steps_snoc (k := 26) ?_ (s_storeAt (i := 26) (d := 43) 2 _ 25 (isOp_of (by kernel_rfl) : IsOp gl_o2 26 none (.store 22 (.tmp 43) (.tmp 40))) (by kernel_rfl) rfl rfl rfl (by kernel_rfl) (by kernel_rfl) (by kernel_rfl) (by kernel_rfl) (by kernel_rfl) (by kernel_rfl) (src_op (f := (eqF (.slice r2.A (min r2.k 2) r2.c))) 20 (by kernel_rfl) (by kernel_rfl) rfl) storeRawMag)
    refine steps_snoc (k := 25) ?_ (step_addr (i := 25) (d := 43) (g := none) hP (isOp_of (by kernel_rfl) : IsOp gl_o2 25 none (.fieldAddr 24 (.tmp 5) 0)) (by kernel_rfl) (by kernel_rfl) 0 rfl rfl _ 2 rfl rfl (by kernel_rfl) (grd_none) fldRaw0)
    refine steps_snoc (k := 24) ?_ (s_storeAt (i := 24) (d := 42) 1 _ 23 (isOp_of (by kernel_rfl) : IsOp gl_o2 24 none (.store 22 (.tmp 42) (.tmp 33))) (by kernel_rfl) rfl rfl rfl (by kernel_rfl) (by kernel_rfl) (by kernel_rfl) (by kernel_rfl) (by kernel_rfl) (by kernel_rfl) (src_op (f := (eqF (.slice r1.A (min r1.k 6) r1.c))) 13 (by kernel_rfl) (by kernel_rfl) rfl) storeRawMag)
    refine steps_snoc (k := 23) ?_ (step_addr (i := 23) (d := 42) (g := none) hP (isOp_of (by kernel_rfl) : IsOp gl_o2 23 none (.fieldAddr 24 (.tmp 4) 0)) (by kernel_rfl) (by kernel_rfl) 0 rfl rfl _ 1 rfl rfl (by kernel_rfl) (grd_none) fldRaw0)
    refine steps_snoc (k := 22) ?_ (s_storeAt (i := 22) (d := 41) 0 _ 21 (isOp_of (by kernel_rfl) : IsOp gl_o2 22 none (.store 22 (.tmp 41) (.tmp 26))) (by kernel_rfl) rfl rfl rfl (by kernel_rfl) (by kernel_rfl) (by kernel_rfl) (by kernel_rfl) (by kernel_rfl) (by kernel_rfl) (src_op (f := (eqF (.slice r0.A (min r0.k 6) r0.c))) 6 (by kernel_rfl) (by kernel_rfl) rfl) storeRawMag)
    refine steps_snoc (k := 21) ?_ (step_addr (i := 21) (d := 41) (g := none) hP (isOp_of (by kernel_rfl) : IsOp gl_o2 21 none (.fieldAddr 24 (.tmp 3) 0)) (by kernel_rfl) (by kernel_rfl) 0 rfl rfl _ 0 rfl rfl (by kernel_rfl) (grd_none) fldRaw0)
    refine steps_snoc (k := 20) ?_ (s_op2 (i := 20) hP (g := none) (isOp_of (by kernel_rfl) : IsOp gl_o2 20 none (.slice 22 (.tmp 35) none (some (.tmp 39)) none)) (by kernel_rfl) (by kernel_rfl) (grd_none) (src_op (f := (eqF (.slice r2.A r2.k r2.c))) 15 (by kernel_rfl) (by kernel_rfl) rfl) (src_op (f := (eqF (.int .i64 ((min r2.k 2 : Nat) : Int)))) 19 (by kernel_rfl) (by kernel_rfl) rfl) (fun ρ w hx hy => h_sliceRaw k2 2 hx hy) rfl)
    refine steps_snoc (k := 19) ?_ (s_op2 (i := 19) hP (g := none) (isOp_of (by kernel_rfl) : IsOp gl_o2 19 none (.call { callee := .builtin .min, args := #[.tmp 38, .const (.int .i64 2)], argTypes := #[3, 3] })) (by kernel_rfl) (by kernel_rfl) (grd_none) (src_op (f := (eqF (.int .i64 (r2.k : Int)))) 18 (by kernel_rfl) (by kernel_rfl) rfl) (src_const _) (fun ρ w hx hy => h_min (by omega) hx hy) rfl)
    refine steps_snoc (k := 18) ?_ (s_op1 (i := 18) hP (g := none) (isOp_of (by kernel_rfl) : IsOp gl_o2 18 none (.call { callee := .builtin .len, args := #[.tmp 37], argTypes := #[22] })) (by kernel_rfl) (by kernel_rfl) (grd_none) (src_op (f := (eqF (.slice r2.A r2.k r2.c))) 17 (by kernel_rfl) (by kernel_rfl) rfl) (fun ρ w hx => h_len hx) rfl)
    refine steps_snoc (k := 17) ?_ (s_load (i := 17) hP (g := none) (isOp_of (by kernel_rfl) : IsOp gl_o2 17 none (.load 22 (.tmp 36))) (by kernel_rfl) (by kernel_rfl) (grd_none) (bsrc_at 16 (bsrc_old 2 _ rfl rfl rfl (by kernel_rfl) (by kernel_rfl)) (by kernel_rfl) (by kernel_rfl) (by kernel_rfl)) (fun w q h => loadRawMag w q h) rfl)
    refine steps_snoc (k := 16) ?_ (step_addr (i := 16) (d := 36) (g := none) hP (isOp_of (by kernel_rfl) : IsOp gl_o2 16 none (.fieldAddr 24 (.tmp 5) 0)) (by kernel_rfl) (by kernel_rfl) 0 rfl rfl _ 2 rfl rfl (by kernel_rfl) (grd_none) fldRaw0)
    refine steps_snoc (k := 15) ?_ (s_load (i := 15) hP (g := none) (isOp_of (by kernel_rfl) : IsOp gl_o2 15 none (.load 22 (.tmp 34))) (by kernel_rfl) (by kernel_rfl) (grd_none) (bsrc_at 14 (bsrc_old 2 _ rfl rfl rfl (by kernel_rfl) (by kernel_rfl)) (by kernel_rfl) (by kernel_rfl) (by kernel_rfl)) (fun w q h => loadRawMag w q h) rfl)
    refine steps_snoc (k := 14) ?_ (step_addr (i := 14) (d := 34) (g := none) hP (isOp_of (by kernel_rfl) : IsOp gl_o2 14 none (.fieldAddr 24 (.tmp 5) 0)) (by kernel_rfl) (by kernel_rfl) 0 rfl rfl _ 2 rfl rfl (by kernel_rfl) (grd_none) fldRaw0)
    refine steps_snoc (k := 13) ?_ (s_op2 (i := 13) hP (g := none) (isOp_of (by kernel_rfl) : IsOp gl_o2 13 none (.slice 22 (.tmp 28) none (some (.tmp 32)) none)) (by kernel_rfl) (by kernel_rfl) (grd_none) (src_op (f := (eqF (.slice r1.A r1.k r1.c))) 8 (by kernel_rfl) (by kernel_rfl) rfl) (src_op (f := (eqF (.int .i64 ((min r1.k 6 : Nat) : Int)))) 12 (by kernel_rfl) (by kernel_rfl) rfl) (fun ρ w hx hy => h_sliceRaw k1 6 hx hy) rfl)
    refine steps_snoc (k := 12) ?_ (s_op2 (i := 12) hP (g := none) (isOp_of (by kernel_rfl) : IsOp gl_o2 12 none (.call { callee := .builtin .min, args := #[.tmp 31, .const (.int .i64 6)], argTypes := #[3, 3] })) (by kernel_rfl) (by kernel_rfl) (grd_none) (src_op (f := (eqF (.int .i64 (r1.k : Int)))) 11 (by kernel_rfl) (by kernel_rfl) rfl) (src_const _) (fun ρ w hx hy => h_min (by omega) hx hy) rfl)
    refine steps_snoc (k := 11) ?_ (s_op1 (i := 11) hP (g := none) (isOp_of (by kernel_rfl) : IsOp gl_o2 11 none (.call { callee := .builtin .len, args := #[.tmp 30], argTypes := #[22] })) (by kernel_rfl) (by kernel_rfl) (grd_none) (src_op (f := (eqF (.slice r1.A r1.k r1.c))) 10 (by kernel_rfl) (by kernel_rfl) rfl) (fun ρ w hx => h_len hx) rfl)
    refine steps_snoc (k := 10) ?_ (s_load (i := 10) hP (g := none) (isOp_of (by kernel_rfl) : IsOp gl_o2 10 none (.load 22 (.tmp 29))) (by kernel_rfl) (by kernel_rfl) (grd_none) (bsrc_at 9 (bsrc_old 1 _ rfl rfl rfl (by kernel_rfl) (by kernel_rfl)) (by kernel_rfl) (by kernel_rfl) (by kernel_rfl)) (fun w q h => loadRawMag w q h) rfl)
    refine steps_snoc (k := 9) ?_ (step_addr (i := 9) (d := 29) (g := none) hP (isOp_of (by kernel_rfl) : IsOp gl_o2 9 none (.fieldAddr 24 (.tmp 4) 0)) (by kernel_rfl) (by kernel_rfl) 0 rfl rfl _ 1 rfl rfl (by kernel_rfl) (grd_none) fldRaw0)
    refine steps_snoc (k := 8) ?_ (s_load (i := 8) hP (g := none) (isOp_of (by kernel_rfl) : IsOp gl_o2 8 none (.load 22 (.tmp 27))) (by kernel_rfl) (by kernel_rfl) (grd_none) (bsrc_at 7 (bsrc_old 1 _ rfl rfl rfl (by kernel_rfl) (by kernel_rfl)) (by kernel_rfl) (by kernel_rfl) (by kernel_rfl)) (fun w q h => loadRawMag w q h) rfl)
    refine steps_snoc (k := 7) ?_ (step_addr (i := 7) (d := 27) (g := none) hP (isOp_of (by kernel_rfl) : IsOp gl_o2 7 none (.fieldAddr 24 (.tmp 4) 0)) (by kernel_rfl) (by kernel_rfl) 0 rfl rfl _ 1 rfl rfl (by kernel_rfl) (grd_none) fldRaw0)
    refine steps_snoc (k := 6) ?_ (s_op2 (i := 6) hP (g := none) (isOp_of (by kernel_rfl) : IsOp gl_o2 6 none (.slice 22 (.tmp 21) none (some (.tmp 25)) none)) (by kernel_rfl) (by kernel_rfl) (grd_none) (src_op (f := (eqF (.slice r0.A r0.k r0.c))) 1 (by kernel_rfl) (by kernel_rfl) rfl) (src_op (f := (eqF (.int .i64 ((min r0.k 6 : Nat) : Int)))) 5 (by kernel_rfl) (by kernel_rfl) rfl) (fun ρ w hx hy => h_sliceRaw k0 6 hx hy) rfl)
    refine steps_snoc (k := 5) ?_ (s_op2 (i := 5) hP (g := none) (isOp_of (by kernel_rfl) : IsOp gl_o2 5 none (.call { callee := .builtin .min, args := #[.tmp 24, .const (.int .i64 6)], argTypes := #[3, 3] })) (by kernel_rfl) (by kernel_rfl) (grd_none) (src_op (f := (eqF (.int .i64 (r0.k : Int)))) 4 (by kernel_rfl) (by kernel_rfl) rfl) (src_const _) (fun ρ w hx hy => h_min (by omega) hx hy) rfl)
    refine steps_snoc (k := 4) ?_ (s_op1 (i := 4) hP (g := none) (isOp_of (by kernel_rfl) : IsOp gl_o2 4 none (.call { callee := .builtin .len, args := #[.tmp 23], argTypes := #[22] })) (by kernel_rfl) (by kernel_rfl) (grd_none) (src_op (f := (eqF (.slice r0.A r0.k r0.c))) 3 (by kernel_rfl) (by kernel_rfl) rfl) (fun ρ w hx => h_len hx) rfl)
    refine steps_snoc (k := 3) ?_ (s_load (i := 3) hP (g := none) (isOp_of (by kernel_rfl) : IsOp gl_o2 3 none (.load 22 (.tmp 22))) (by kernel_rfl) (by kernel_rfl) (grd_none) (bsrc_at 2 (bsrc_old 0 _ rfl rfl rfl (by kernel_rfl) (by kernel_rfl)) (by kernel_rfl) (by kernel_rfl) (by kernel_rfl)) (fun w q h => loadRawMag w q h) rfl)
    refine steps_snoc (k := 2) ?_ (step_addr (i := 2) (d := 22) (g := none) hP (isOp_of (by kernel_rfl) : IsOp gl_o2 2 none (.fieldAddr 24 (.tmp 3) 0)) (by kernel_rfl) (by kernel_rfl) 0 rfl rfl _ 0 rfl rfl (by kernel_rfl) (grd_none) fldRaw0)
    refine steps_snoc (k := 1) ?_ (s_load (i := 1) hP (g := none) (isOp_of (by kernel_rfl) : IsOp gl_o2 1 none (.load 22 (.tmp 20))) (by kernel_rfl) (by kernel_rfl) (grd_none) (bsrc_at 0 (bsrc_old 0 _ rfl rfl rfl (by kernel_rfl) (by kernel_rfl)) (by kernel_rfl) (by kernel_rfl) (by kernel_rfl)) (fun w q h => loadRawMag w q h) rfl)
    refine steps_snoc (k := 0) ?_ (step_addr (i := 0) (d := 20) (g := none) hP (isOp_of (by kernel_rfl) : IsOp gl_o2 0 none (.fieldAddr 24 (.tmp 3) 0)) (by kernel_rfl) (by kernel_rfl) 0 rfl rfl _ 0 rfl rfl (by kernel_rfl) (grd_none) fldRaw0)
    exact steps_nil
  · intro m a w hI hm
    exact ⟨(low_fact hst 0 rfl (by kernel_rfl) hI), (low_fact hst 1 rfl (by kernel_rfl) hI), (low_fact hst 2 rfl (by kernel_rfl) hI), (low_fact hst 3 rfl (by kernel_rfl) hI), (low_fact hst 4 rfl (by kernel_rfl) hI), trivial⟩
set_option maxRecDepth 100000 in
theorem gl_r3 {Q : Exit → Act → World → Prop} {Wb W0 : World} {a0 : Act} {r0 r1 r2 : RawArg} (_hS : Sanity) (_ht : P10 Wb) (k0 : r0.Ok Wb) (k1 : r1.Ok Wb) (k2 : r2.Ok Wb)  (hst : St Wb 133 [(0, (eqF r0.val_)), (1, (eqF r1.val_)), (2, (eqF r2.val_)), (6, (eqF (.bool false))), (7, (eqF (.bool true)))] [(3, (rawBF (r0.cut 6))), (4, (rawBF (r1.cut 6))), (5, (rawBF (r2.cut 2)))] a0 W0)
    (fin : ∀ a w, St Wb 133 [(0, (eqF r0.val_)), (1, (eqF r1.val_)), (2, (eqF r2.val_)), (6, (eqF (.bool false))), (7, (eqF (.bool true)))] [(3, (rawBF (r0.cut 6))), (4, (rawBF (r1.cut 6))), (5, (rawBF (r2.cut 2))), (8, (boxIF (r0.cut 6).int)), (9, (boxIF (r1.cut 6).int)), (10, (boxIF (r2.cut 2).int))] a w → Q .normal a w) : (Code.region 3 gl_o3 true).wp Tryd.prog Q a0 W0 := by
  have hP : Plan gl_o3 133 ([⟨3, none, none, (rawBF (r0.cut 6)), (rawBF (r0.cut 6))⟩, ⟨4, none, none, (rawBF (r1.cut 6)), (rawBF (r1.cut 6))⟩, ⟨5, none, none, (rawBF (r2.cut 2)), (rawBF (r2.cut 2))⟩, ⟨8, some 6, some 9, zeroIF, (boxIF (r0.cut 6).int)⟩, ⟨9, some 7, some 10, zeroIF, (boxIF (r1.cut 6).int)⟩, ⟨10, some 8, some 11, zeroIF, (boxIF (r2.cut 2).int)⟩] : List BoxS) [] := ⟨by kernel_rfl, by kernel_rfl, by kernel_rfl, by kernel_rfl, by kernel_rfl, by kernel_rfl⟩
  refine region_st (F := [(eqF (r0.cut 6).val_), (intF (r0.cut 6).int), (eqF (r1.cut 6).val_), (intF (r1.cut 6).int), (eqF (r2.cut 2).val_), (intF (r2.cut 2).int), anyF, anyF, anyF, anyF, anyF, anyF]) hP hst rfl rfl ?_ ?_ fin
  · show Steps gl_o3 133 Wb W0 a0 _ _ _ 12
    refine steps_snoc (k := 11) ?_ (s_store (i := 11) 5 _ (isOp_of (by kernel_rfl) : IsOp gl_o3 11 none (.store 27 (.tmp 10) (.tmp 49))) (by kernel_rfl) rfl rfl rfl (by kernel_rfl) (by kernel_rfl) (by kernel_rfl) (src_op (f := (intF (r2.cut 2).int)) 5 (by kernel_rfl) (by kernel_rfl) rfl) (storeI_zero _))
    refine steps_snoc (k := 10) ?_ (s_store (i := 10) 4 _ (isOp_of (by kernel_rfl) : IsOp gl_o3 10 none (.store 27 (.tmp 9) (.tmp 47))) (by kernel_rfl) rfl rfl rfl (by kernel_rfl) (by kernel_rfl) (by kernel_rfl) (src_op (f := (intF (r1.cut 6).int)) 3 (by kernel_rfl) (by kernel_rfl) rfl) (storeI_zero _))
    refine steps_snoc (k := 9) ?_ (s_store (i := 9) 3 _ (isOp_of (by kernel_rfl) : IsOp gl_o3 9 none (.store 27 (.tmp 8) (.tmp 45))) (by kernel_rfl) rfl rfl rfl (by kernel_rfl) (by kernel_rfl) (by kernel_rfl) (src_op (f := (intF (r0.cut 6).int)) 1 (by kernel_rfl) (by kernel_rfl) rfl) (storeI_zero _))
    refine steps_snoc (k := 8) ?_ (s_alloc (i := 8) (d := 10) hP 5 _ (isOp_of (by kernel_rfl) : IsOp gl_o3 8 none (.alloc 27)) (by kernel_rfl) rfl rfl rfl (by kernel_rfl) (by kernel_rfl) (by kernel_rfl) (by kernel_rfl) rfl allocI_run allocI_old)
    refine steps_snoc (k := 7) ?_ (s_alloc (i := 7) (d := 9) hP 4 _ (isOp_of (by kernel_rfl) : IsOp gl_o3 7 none (.alloc 27)) (by kernel_rfl) rfl rfl rfl (by kernel_rfl) (by kernel_rfl) (by kernel_rfl) (by kernel_rfl) rfl allocI_run allocI_old)
    refine steps_snoc (k := 6) ?_ (s_alloc (i := 6) (d := 8) hP 3 _ (isOp_of (by kernel_rfl) : IsOp gl_o3 6 none (.alloc 27)) (by kernel_rfl) rfl rfl rfl (by kernel_rfl) (by kernel_rfl) (by kernel_rfl) (by kernel_rfl) rfl allocI_run allocI_old)
    refine steps_snoc (k := 5) ?_ (s_call1 (i := 5) hP (g := none) (isOp_of (by kernel_rfl) : IsOp gl_o3 5 none (.call { callee := .value (.func 12), args := #[.tmp 48], argTypes := #[24] })) (by kernel_rfl) (by kernel_rfl) (grd_none) (src_op (f := (eqF (r2.cut 2).val_)) 4 (by kernel_rfl) (by kernel_rfl) rfl) glpl_quadrature_quadraturelaw01_made (fun w v0 hb h0 => kMade (k2.cut 2) hb h0) rfl)
    refine steps_snoc (k := 4) ?_ (s_load (i := 4) hP (g := none) (isOp_of (by kernel_rfl) : IsOp gl_o3 4 none (.load 24 (.tmp 5))) (by kernel_rfl) (by kernel_rfl) (grd_none) (bsrc_old 2 _ rfl rfl rfl (by kernel_rfl) (by kernel_rfl)) (fun w q h => loadR_raw w q h) rfl)
    refine steps_snoc (k := 3) ?_ (s_call1 (i := 3) hP (g := none) (isOp_of (by kernel_rfl) : IsOp gl_o3 3 none (.call { callee := .value (.func 12), args := #[.tmp 46], argTypes := #[24] })) (by kernel_rfl) (by kernel_rfl) (grd_none) (src_op (f := (eqF (r1.cut 6).val_)) 2 (by kernel_rfl) (by kernel_rfl) rfl) glpl_quadrature_quadraturelaw01_made (fun w v0 hb h0 => kMade (k1.cut 6) hb h0) rfl)
    refine steps_snoc (k := 2) ?_ (s_load (i := 2) hP (g := none) (isOp_of (by kernel_rfl) : IsOp gl_o3 2 none (.load 24 (.tmp 4))) (by kernel_rfl) (by kernel_rfl) (grd_none) (bsrc_old 1 _ rfl rfl rfl (by kernel_rfl) (by kernel_rfl)) (fun w q h => loadR_raw w q h) rfl)
    refine steps_snoc (k := 1) ?_ (s_call1 (i := 1) hP (g := none) (isOp_of (by kernel_rfl) : IsOp gl_o3 1 none (.call { callee := .value (.func 12), args := #[.tmp 44], argTypes := #[24] })) (by kernel_rfl) (by kernel_rfl) (grd_none) (src_op (f := (eqF (r0.cut 6).val_)) 0 (by kernel_rfl) (by kernel_rfl) rfl) glpl_quadrature_quadraturelaw01_made (fun w v0 hb h0 => kMade (k0.cut 6) hb h0) rfl)
    refine steps_snoc (k := 0) ?_ (s_load (i := 0) hP (g := none) (isOp_of (by kernel_rfl) : IsOp gl_o3 0 none (.load 24 (.tmp 3))) (by kernel_rfl) (by kernel_rfl) (grd_none) (bsrc_old 0 _ rfl rfl rfl (by kernel_rfl) (by kernel_rfl)) (fun w q h => loadR_raw w q h) rfl)
    exact steps_nil
  · intro m a w hI hm
    exact ⟨(low_fact hst 0 rfl (by kernel_rfl) hI), (low_fact hst 1 rfl (by kernel_rfl) hI), (low_fact hst 2 rfl (by kernel_rfl) hI), (low_fact hst 3 rfl (by kernel_rfl) hI), (low_fact hst 4 rfl (by kernel_rfl) hI), trivial⟩
set_option maxRecDepth 100000 in
theorem gl_r4 {Q : Exit → Act → World → Prop} {Wb W0 : World} {a0 : Act} {r0 r1 r2 : RawArg} (_hS : Sanity) (_ht : P10 Wb) (k0 : r0.Ok Wb) (k1 : r1.Ok Wb) (k2 : r2.Ok Wb)  (hst : St Wb 133 [(0, (eqF r0.val_)), (1, (eqF r1.val_)), (2, (eqF r2.val_)), (6, (eqF (.bool false))), (7, (eqF (.bool true)))] [(3, (rawBF (r0.cut 6))), (4, (rawBF (r1.cut 6))), (5, (rawBF (r2.cut 2))), (8, (boxIF (r0.cut 6).int)), (9, (boxIF (r1.cut 6).int)), (10, (boxIF (r2.cut 2).int))] a0 W0)
    (fin : ∀ a w, St Wb 133 [(0, (eqF r0.val_)), (1, (eqF r1.val_)), (2, (eqF r2.val_)), (6, (eqF (.bool false))), (7, (eqF (.bool true)))] [(3, (rawBF (r0.cut 6))), (4, (rawBF (r1.cut 6))), (5, (rawBF (r2.cut 2))), (8, (boxIF (r0.cut 6).int)), (9, (boxIF (r1.cut 6).int)), (10, (boxIF (r2.cut 2).int)), (11, (boxIF ((Int.gcd (r0.cut 6).int (r1.cut 6).int : Nat) : Int))), (12, (boxIF ((Int.gcd ((r0.cut 6).int * (r2.cut 2).int) ((r1.cut 6).int * (r2.cut 2).int) : Nat) : Int)))] a w → Q .normal a w) : (Code.region 4 gl_o4 true).wp Tryd.prog Q a0 W0 := by
  have hP : Plan gl_o4 133 ([⟨3, none, none, (rawBF (r0.cut 6)), (rawBF (r0.cut 6))⟩, ⟨4, none, none, (rawBF (r1.cut 6)), (rawBF (r1.cut 6))⟩, ⟨5, none, none, (rawBF (r2.cut 2)), (rawBF (r2.cut 2))⟩, ⟨8, none, none, (boxIF (r0.cut 6).int), (boxIF (r0.cut 6).int)⟩, ⟨9, none, none, (boxIF (r1.cut 6).int), (boxIF (r1.cut 6).int)⟩, ⟨10, none, none, (boxIF (r2.cut 2).int), (boxIF (r2.cut 2).int)⟩, ⟨11, some 10, some 12, zeroIF, (boxIF ((Int.gcd (r0.cut 6).int (r1.cut 6).int : Nat) : Int))⟩, ⟨12, some 11, some 13, zeroIF, (boxIF ((Int.gcd ((r0.cut 6).int * (r2.cut 2).int) ((r1.cut 6).int * (r2.cut 2).int) : Nat) : Int))⟩] : List BoxS) [] := ⟨by kernel_rfl, by kernel_rfl, by kernel_rfl, by kernel_rfl, by kernel_rfl, by kernel_rfl⟩
  refine region_st (F := [(intF (r0.cut 6).int), (intF (r1.cut 6).int), (intF ((Int.gcd (r0.cut 6).int (r1.cut 6).int : Nat) : Int)), (intF (r0.cut 6).int), (intF (r2.cut 2).int), (intF ((r0.cut 6).int * (r2.cut 2).int)), (intF (r1.cut 6).int), (intF (r2.cut 2).int), (intF ((r1.cut 6).int * (r2.cut 2).int)), (intF ((Int.gcd ((r0.cut 6).int * (r2.cut 2).int) ((r1.cut 6).int * (r2.cut 2).int) : Nat) : Int)), anyF, anyF, anyF, anyF]) hP hst rfl rfl ?_ ?_ fin
  · show Steps gl_o4 133 Wb W0 a0 _ _ _ 14
    refine steps_snoc (k := 13) ?_ (s_store (i := 13) 7 _ (isOp_of (by kernel_rfl) : IsOp gl_o4 13 none (.store 27 (.tmp 12) (.tmp 59))) (by kernel_rfl) rfl rfl rfl (by kernel_rfl) (by kernel_rfl) (by kernel_rfl) (src_op (f := (intF ((Int.gcd ((r0.cut 6).int * (r2.cut 2).int) ((r1.cut 6).int * (r2.cut 2).int) : Nat) : Int))) 9 (by kernel_rfl) (by kernel_rfl) rfl) (storeI_zero _))
    refine steps_snoc (k := 12) ?_ (s_store (i := 12) 6 _ (isOp_of (by kernel_rfl) : IsOp gl_o4 12 none (.store 27 (.tmp 11) (.tmp 52))) (by kernel_rfl) rfl rfl rfl (by kernel_rfl) (by kernel_rfl) (by kernel_rfl) (src_op (f := (intF ((Int.gcd (r0.cut 6).int (r1.cut 6).int : Nat) : Int))) 2 (by kernel_rfl) (by kernel_rfl) rfl) (storeI_zero _))
    refine steps_snoc (k := 11) ?_ (s_alloc (i := 11) (d := 12) hP 7 _ (isOp_of (by kernel_rfl) : IsOp gl_o4 11 none (.alloc 27)) (by kernel_rfl) rfl rfl rfl (by kernel_rfl) (by kernel_rfl) (by kernel_rfl) (by kernel_rfl) rfl allocI_run allocI_old)
    refine steps_snoc (k := 10) ?_ (s_alloc (i := 10) (d := 11) hP 6 _ (isOp_of (by kernel_rfl) : IsOp gl_o4 10 none (.alloc 27)) (by kernel_rfl) rfl rfl rfl (by kernel_rfl) (by kernel_rfl) (by kernel_rfl) (by kernel_rfl) rfl allocI_run allocI_old)
    refine steps_snoc (k := 9) ?_ (s_call2 (i := 9) hP (g := none) (isOp_of (by kernel_rfl) : IsOp gl_o4 9 none (.call { callee := .value (.func 33), args := #[.tmp 55, .tmp 58], argTypes := #[27, 27] })) (by kernel_rfl) (by kernel_rfl) (grd_none) (src_op (f := (intF ((r0.cut 6).int * (r2.cut 2).int))) 5 (by kernel_rfl) (by kernel_rfl) rfl) (src_op (f := (intF ((r1.cut 6).int * (r2.cut 2).int))) 8 (by kernel_rfl) (by kernel_rfl) rfl) glpl_quadrature_integer_Gcd (fun w v0 v1 hb h0 h1 => kGcd h0 h1 ((k0.cutSm 6).mul (k2.cutSm 2)) ((k1.cutSm 6).mul (k2.cutSm 2)) (by decide) (by decide)) rfl)
    refine steps_snoc (k := 8) ?_ (s_call2 (i := 8) hP (g := none) (isOp_of (by kernel_rfl) : IsOp gl_o4 8 none (.call { callee := .value (.func 24), args := #[.tmp 56, .tmp 57], argTypes := #[27, 27] })) (by kernel_rfl) (by kernel_rfl) (grd_none) (src_op (f := (intF (r1.cut 6).int)) 6 (by kernel_rfl) (by kernel_rfl) rfl) (src_op (f := (intF (r2.cut 2).int)) 7 (by kernel_rfl) (by kernel_rfl) rfl) glpl_quadrature_quadratureref01_Mul (fun w v0 v1 hb h0 h1 => kRMul h0 h1 (k1.cutSm 6) (k2.cutSm 2) (by first | decide | assumption | omega) (by first | decide | assumption | omega)) rfl)
    refine steps_snoc (k := 7) ?_ (s_load (i := 7) hP (g := none) (isOp_of (by kernel_rfl) : IsOp gl_o4 7 none (.load 27 (.tmp 10))) (by kernel_rfl) (by kernel_rfl) (grd_none) (bsrc_old 5 _ rfl rfl rfl (by kernel_rfl) (by kernel_rfl)) (fun w q h => loadI_int w q h) rfl)
    refine steps_snoc (k := 6) ?_ (s_load (i := 6) hP (g := none) (isOp_of (by kernel_rfl) : IsOp gl_o4 6 none (.load 27 (.tmp 9))) (by kernel_rfl) (by kernel_rfl) (grd_none) (bsrc_old 4 _ rfl rfl rfl (by kernel_rfl) (by kernel_rfl)) (fun w q h => loadI_int w q h) rfl)
    refine steps_snoc (k := 5) ?_ (s_call2 (i := 5) hP (g := none) (isOp_of (by kernel_rfl) : IsOp gl_o4 5 none (.call { callee := .value (.func 24), args := #[.tmp 53, .tmp 54], argTypes := #[27, 27] })) (by kernel_rfl) (by kernel_rfl) (grd_none) (src_op (f := (intF (r0.cut 6).int)) 3 (by kernel_rfl) (by kernel_rfl) rfl) (src_op (f := (intF (r2.cut 2).int)) 4 (by kernel_rfl) (by kernel_rfl) rfl) glpl_quadrature_quadratureref01_Mul (fun w v0 v1 hb h0 h1 => kRMul h0 h1 (k0.cutSm 6) (k2.cutSm 2) (by first | decide | assumption | omega) (by first | decide | assumption | omega)) rfl)
    refine steps_snoc (k := 4) ?_ (s_load (i := 4) hP (g := none) (isOp_of (by kernel_rfl) : IsOp gl_o4 4 none (.load 27 (.tmp 10))) (by kernel_rfl) (by kernel_rfl) (grd_none) (bsrc_old 5 _ rfl rfl rfl (by kernel_rfl) (by kernel_rfl)) (fun w q h => loadI_int w q h) rfl)
    refine steps_snoc (k := 3) ?_ (s_load (i := 3) hP (g := none) (isOp_of (by kernel_rfl) : IsOp gl_o4 3 none (.load 27 (.tmp 8))) (by kernel_rfl) (by kernel_rfl) (grd_none) (bsrc_old 3 _ rfl rfl rfl (by kernel_rfl) (by kernel_rfl)) (fun w q h => loadI_int w q h) rfl)
    refine steps_snoc (k := 2) ?_ (s_call2 (i := 2) hP (g := none) (isOp_of (by kernel_rfl) : IsOp gl_o4 2 none (.call { callee := .value (.func 33), args := #[.tmp 50, .tmp 51], argTypes := #[27, 27] })) (by kernel_rfl) (by kernel_rfl) (grd_none) (src_op (f := (intF (r0.cut 6).int)) 0 (by kernel_rfl) (by kernel_rfl) rfl) (src_op (f := (intF (r1.cut 6).int)) 1 (by kernel_rfl) (by kernel_rfl) rfl) glpl_quadrature_integer_Gcd (fun w v0 v1 hb h0 h1 => kGcd h0 h1 (k0.cutSm 6) (k1.cutSm 6) (by decide) (by decide)) rfl)
    refine steps_snoc (k := 1) ?_ (s_load (i := 1) hP (g := none) (isOp_of (by kernel_rfl) : IsOp gl_o4 1 none (.load 27 (.tmp 9))) (by kernel_rfl) (by kernel_rfl) (grd_none) (bsrc_old 4 _ rfl rfl rfl (by kernel_rfl) (by kernel_rfl)) (fun w q h => loadI_int w q h) rfl)
    refine steps_snoc (k := 0) ?_ (s_load (i := 0) hP (g := none) (isOp_of (by kernel_rfl) : IsOp gl_o4 0 none (.load 27 (.tmp 8))) (by kernel_rfl) (by kernel_rfl) (grd_none) (bsrc_old 3 _ rfl rfl rfl (by kernel_rfl) (by kernel_rfl)) (fun w q h => loadI_int w q h) rfl)
    exact steps_nil
  · intro m a w hI hm
    exact ⟨(low_fact hst 0 rfl (by kernel_rfl) hI), (low_fact hst 1 rfl (by kernel_rfl) hI), (low_fact hst 2 rfl (by kernel_rfl) hI), (low_fact hst 3 rfl (by kernel_rfl) hI), (low_fact hst 4 rfl (by kernel_rfl) hI), trivial⟩
set_option maxRecDepth 100000 in
theorem gl_r5 {Q : Exit → Act → World → Prop} {Wb W0 : World} {a0 : Act} {r0 r1 r2 : RawArg} (_hS : Sanity) (_ht : P10 Wb) (k0 : r0.Ok Wb) (k1 : r1.Ok Wb) (k2 : r2.Ok Wb)  (hst : St Wb 133 [(0, (eqF r0.val_)), (1, (eqF r1.val_)), (2, (eqF r2.val_)), (6, (eqF (.bool false))), (7, (eqF (.bool true)))] [(3, (rawBF (r0.cut 6))), (4, (rawBF (r1.cut 6))), (5, (rawBF (r2.cut 2))), (8, (boxIF (r0.cut 6).int)), (9, (boxIF (r1.cut 6).int)), (10, (boxIF (r2.cut 2).int)), (11, (boxIF ((Int.gcd (r0.cut 6).int (r1.cut 6).int : Nat) : Int))), (12, (boxIF ((Int.gcd ((r0.cut 6).int * (r2.cut 2).int) ((r1.cut 6).int * (r2.cut 2).int) : Nat) : Int)))] a0 W0)
    (fin : ∀ a w, St Wb 133 [(0, (eqF r0.val_)), (1, (eqF r1.val_)), (2, (eqF r2.val_)), (6, (eqF (.bool false))), (7, (eqF (.bool true))), (88, (eqF (.bool false)))] [(3, (rawBF (r0.cut 6))), (4, (rawBF (r1.cut 6))), (5, (rawBF (r2.cut 2))), (8, (boxIF (r0.cut 6).int)), (9, (boxIF (r1.cut 6).int)), (10, (boxIF (r2.cut 2).int)), (11, (boxIF ((Int.gcd (r0.cut 6).int (r1.cut 6).int : Nat) : Int))), (12, (boxIF ((Int.gcd ((r0.cut 6).int * (r2.cut 2).int) ((r1.cut 6).int * (r2.cut 2).int) : Nat) : Int)))] a w → Q .normal a w) : (Code.region 5 gl_o5 true).wp Tryd.prog Q a0 W0 := by
  have hP : Plan gl_o5 133 ([⟨3, none, none, (rawBF (r0.cut 6)), (rawBF (r0.cut 6))⟩, ⟨4, none, none, (rawBF (r1.cut 6)), (rawBF (r1.cut 6))⟩, ⟨5, none, none, (rawBF (r2.cut 2)), (rawBF (r2.cut 2))⟩, ⟨8, none, none, (boxIF (r0.cut 6).int), (boxIF (r0.cut 6).int)⟩, ⟨9, none, none, (boxIF (r1.cut 6).int), (boxIF (r1.cut 6).int)⟩, ⟨10, none, none, (boxIF (r2.cut 2).int), (boxIF (r2.cut 2).int)⟩, ⟨11, none, none, (boxIF ((Int.gcd (r0.cut 6).int (r1.cut 6).int : Nat) : Int)), (boxIF ((Int.gcd (r0.cut 6).int (r1.cut 6).int : Nat) : Int))⟩, ⟨12, none, none, (boxIF ((Int.gcd ((r0.cut 6).int * (r2.cut 2).int) ((r1.cut 6).int * (r2.cut 2).int) : Nat) : Int)), (boxIF ((Int.gcd ((r0.cut 6).int * (r2.cut 2).int) ((r1.cut 6).int * (r2.cut 2).int) : Nat) : Int))⟩] : List BoxS) [(22, 10, 1)] := ⟨by kernel_rfl, by kernel_rfl, by kernel_rfl, by kernel_rfl, by kernel_rfl, by kernel_rfl⟩
  refine region_st (F := [(intF ((Int.gcd (r0.cut 6).int (r1.cut 6).int : Nat) : Int)), (intF (r0.cut 6).int), (intF (r1.cut 6).int), (intF ((Int.gcd (r0.cut 6).int (r1.cut 6).int : Nat) : Int)), (eqF (.bool true)), (eqF (.bool false)), (eqF (.bool false)), (intF ((Int.gcd (r0.cut 6).int (r1.cut 6).int : Nat) : Int)), (intF (r1.cut 6).int), (intF (r0.cut 6).int), (intF ((Int.gcd (r1.cut 6).int (r0.cut 6).int : Nat) : Int)), (eqF (.bool true)), (eqF (.bool false)), (eqF (.bool false)), (eqF (.bool false)), (intF ((Int.gcd (r0.cut 6).int (r1.cut 6).int : Nat) : Int)), (eqF (.bool true)), (eqF (.bool false)), (eqF (.bool false)), (eqF (.bool false)), (intF ((Int.gcd ((r0.cut 6).int * (r2.cut 2).int) ((r1.cut 6).int * (r2.cut 2).int) : Nat) : Int)), (intF ((Int.gcd (r0.cut 6).int (r1.cut 6).int : Nat) : Int)), anyF, (natF (r2.cut 2).int.natAbs), (intF (((r2.cut 2).int.natAbs : Nat) : Int)), (intF (((Int.gcd (r0.cut 6).int (r1.cut 6).int : Nat) : Int) * (((r2.cut 2).int.natAbs : Nat) : Int))), (eqF (.bool true)), (eqF (.bool false)), (eqF (.bool false))]) hP hst rfl rfl ?_ ?_ fin
  · show Steps gl_o5 133 Wb W0 a0 _ _ _ 29
    refine steps_snoc (k := 28) ?_ (s_pickF (i := 28) hP (g := none) (isOp_of (by kernel_rfl) : IsOp gl_o5 28 none (.pick (.tmp 79) (.const (.bool true)) (.tmp 87))) (by kernel_rfl) (by kernel_rfl) (grd_none) (src_op (f := (eqF (.bool false))) 19 (by kernel_rfl) (by kernel_rfl) rfl) (src_op (f := (eqF (.bool false))) 27 (by kernel_rfl) (by kernel_rfl) rfl) rfl)
    refine steps_snoc (k := 27) ?_ (s_op1 (i := 27) hP (g := (some (19, false))) (isOp_of (by kernel_rfl) : IsOp gl_o5 27 (some (19, false)) (.unOp .not 4 (.tmp 86))) (by kernel_rfl) (by kernel_rfl) (grd_op (d := 79) (by kernel_rfl) (by kernel_rfl) rfl rfl) (src_op (f := (eqF (.bool true))) 26 (by kernel_rfl) (by kernel_rfl) rfl) (fun ρ w hx => h_not rfl hx) rfl)
    refine steps_snoc (k := 26) ?_ (s_call2 (i := 26) hP (g := (some (19, false))) (isOp_of (by kernel_rfl) : IsOp gl_o5 26 (some (19, false)) (.call { callee := .value (.func 21), args := #[.tmp 80, .tmp 85], argTypes := #[27, 27] })) (by kernel_rfl) (by kernel_rfl) (grd_op (d := 79) (by kernel_rfl) (by kernel_rfl) rfl rfl) (src_op (f := (intF ((Int.gcd ((r0.cut 6).int * (r2.cut 2).int) ((r1.cut 6).int * (r2.cut 2).int) : Nat) : Int))) 20 (by kernel_rfl) (by kernel_rfl) rfl) (src_op (f := (intF (((Int.gcd (r0.cut 6).int (r1.cut 6).int : Nat) : Int) * (((r2.cut 2).int.natAbs : Nat) : Int)))) 25 (by kernel_rfl) (by kernel_rfl) rfl) glpl_quadrature_quadratureref01_Same (fun w v0 v1 hb h0 h1 => kSameT h0 h1 (sm_gcd ((k0.cutSm 6).mul (k2.cutSm 2)) ((k1.cutSm 6).mul (k2.cutSm 2))) ((sm_gcd (k0.cutSm 6) (k1.cutSm 6)).mul (k2.cutSm 2).abs) (by first | decide | assumption | omega) (by first | decide | assumption | omega) (gcd_abs _ _ _)) rfl)
    refine steps_snoc (k := 25) ?_ (s_call2 (i := 25) hP (g := (some (19, false))) (isOp_of (by kernel_rfl) : IsOp gl_o5 25 (some (19, false)) (.call { callee := .value (.func 24), args := #[.tmp 81, .tmp 84], argTypes := #[27, 27] })) (by kernel_rfl) (by kernel_rfl) (grd_op (d := 79) (by kernel_rfl) (by kernel_rfl) rfl rfl) (src_op (f := (intF ((Int.gcd (r0.cut 6).int (r1.cut 6).int : Nat) : Int))) 21 (by kernel_rfl) (by kernel_rfl) rfl) (src_op (f := (intF (((r2.cut 2).int.natAbs : Nat) : Int))) 24 (by kernel_rfl) (by kernel_rfl) rfl) glpl_quadrature_quadratureref01_Mul (fun w v0 v1 hb h0 h1 => kRMul h0 h1 (sm_gcd (k0.cutSm 6) (k1.cutSm 6)) (k2.cutSm 2).abs (by first | decide | assumption | omega) (by first | decide | assumption | omega)) rfl)
    refine steps_snoc (k := 24) ?_ (s_call2 (i := 24) hP (g := (some (19, false))) (isOp_of (by kernel_rfl) : IsOp gl_o5 24 (some (19, false)) (.call { callee := .value (.func 32), args := #[.tmp 83, .const (.bool false)], argTypes := #[22, 4] })) (by kernel_rfl) (by kernel_rfl) (grd_op (d := 79) (by kernel_rfl) (by kernel_rfl) rfl rfl) (src_op (f := (natF (r2.cut 2).int.natAbs)) 23 (by kernel_rfl) (by kernel_rfl) rfl) (src_const _) glpl_quadrature_quadratureref01_Made (fun w v0 v1 hb h0 h1 => kRMadeN h0 h1 (Nat.le_trans (len_le_pow (k2.cutSm 2)) (by decide))) rfl)
    refine steps_snoc (k := 23) ?_ (s_load (i := 23) hP (g := (some (19, false))) (isOp_of (by kernel_rfl) : IsOp gl_o5 23 (some (19, false)) (.load 22 (.tmp 82))) (by kernel_rfl) (by kernel_rfl) (grd_op (d := 79) (by kernel_rfl) (by kernel_rfl) rfl rfl) (bsrc_at 22 (bsrc_old 5 _ rfl rfl rfl (by kernel_rfl) (by kernel_rfl)) (by kernel_rfl) (by kernel_rfl) (by kernel_rfl)) (fun w q h => loadI_mag w q h) rfl)
    refine steps_snoc (k := 22) ?_ (step_addr (i := 22) (d := 82) (g := (some (19, false))) hP (isOp_of (by kernel_rfl) : IsOp gl_o5 22 (some (19, false)) (.fieldAddr 27 (.tmp 10) 1)) (by kernel_rfl) (by kernel_rfl) 1 rfl rfl _ 5 rfl rfl (by kernel_rfl) (grd_op (d := 79) (by kernel_rfl) (by kernel_rfl) rfl rfl) fldI1)
    refine steps_snoc (k := 21) ?_ (s_load (i := 21) hP (g := (some (19, false))) (isOp_of (by kernel_rfl) : IsOp gl_o5 21 (some (19, false)) (.load 27 (.tmp 11))) (by kernel_rfl) (by kernel_rfl) (grd_op (d := 79) (by kernel_rfl) (by kernel_rfl) rfl rfl) (bsrc_old 6 _ rfl rfl rfl (by kernel_rfl) (by kernel_rfl)) (fun w q h => loadI_int w q h) rfl)
    refine steps_snoc (k := 20) ?_ (s_load (i := 20) hP (g := (some (19, false))) (isOp_of (by kernel_rfl) : IsOp gl_o5 20 (some (19, false)) (.load 27 (.tmp 12))) (by kernel_rfl) (by kernel_rfl) (grd_op (d := 79) (by kernel_rfl) (by kernel_rfl) rfl rfl) (bsrc_old 7 _ rfl rfl rfl (by kernel_rfl) (by kernel_rfl)) (fun w q h => loadI_int w q h) rfl)
    refine steps_snoc (k := 19) ?_ (s_move (i := 19) hP (g := none) (isOp_of (by kernel_rfl) : IsOp gl_o5 19 none (.move (.tmp 78))) (by kernel_rfl) (by kernel_rfl) (grd_none) (src_op (f := (eqF (.bool false))) 18 (by kernel_rfl) (by kernel_rfl) rfl) rfl)
    refine steps_snoc (k := 18) ?_ (s_pickF (i := 18) hP (g := none) (isOp_of (by kernel_rfl) : IsOp gl_o5 18 none (.pick (.tmp 74) (.const (.bool true)) (.tmp 77))) (by kernel_rfl) (by kernel_rfl) (grd_none) (src_op (f := (eqF (.bool false))) 14 (by kernel_rfl) (by kernel_rfl) rfl) (src_op (f := (eqF (.bool false))) 17 (by kernel_rfl) (by kernel_rfl) rfl) rfl)
    refine steps_snoc (k := 17) ?_ (s_op1 (i := 17) hP (g := (some (14, false))) (isOp_of (by kernel_rfl) : IsOp gl_o5 17 (some (14, false)) (.unOp .not 4 (.tmp 76))) (by kernel_rfl) (by kernel_rfl) (grd_op (d := 74) (by kernel_rfl) (by kernel_rfl) rfl rfl) (src_op (f := (eqF (.bool true))) 16 (by kernel_rfl) (by kernel_rfl) rfl) (fun ρ w hx => h_not rfl hx) rfl)
    refine steps_snoc (k := 16) ?_ (s_call1 (i := 16) hP (g := (some (14, false))) (isOp_of (by kernel_rfl) : IsOp gl_o5 16 (some (14, false)) (.call { callee := .value (.func 20), args := #[.tmp 75], argTypes := #[27] })) (by kernel_rfl) (by kernel_rfl) (grd_op (d := 74) (by kernel_rfl) (by kernel_rfl) rfl rfl) (src_op (f := (intF ((Int.gcd (r0.cut 6).int (r1.cut 6).int : Nat) : Int))) 15 (by kernel_rfl) (by kernel_rfl) rfl) glpl_quadrature_quadratureref01_Valid (fun w v0 hb h0 => kRValid h0 (sm_gcd (k0.cutSm 6) (k1.cutSm 6)) (by first | decide | assumption | omega)) rfl)
    refine steps_snoc (k := 15) ?_ (s_load (i := 15) hP (g := (some (14, false))) (isOp_of (by kernel_rfl) : IsOp gl_o5 15 (some (14, false)) (.load 27 (.tmp 11))) (by kernel_rfl) (by kernel_rfl) (grd_op (d := 74) (by kernel_rfl) (by kernel_rfl) rfl rfl) (bsrc_old 6 _ rfl rfl rfl (by kernel_rfl) (by kernel_rfl)) (fun w q h => loadI_int w q h) rfl)
    refine steps_snoc (k := 14) ?_ (s_move (i := 14) hP (g := none) (isOp_of (by kernel_rfl) : IsOp gl_o5 14 none (.move (.tmp 73))) (by kernel_rfl) (by kernel_rfl) (grd_none) (src_op (f := (eqF (.bool false))) 13 (by kernel_rfl) (by kernel_rfl) rfl) rfl)
    refine steps_snoc (k := 13) ?_ (s_pickF (i := 13) hP (g := none) (isOp_of (by kernel_rfl) : IsOp gl_o5 13 none (.pick (.tmp 66) (.const (.bool true)) (.tmp 72))) (by kernel_rfl) (by kernel_rfl) (grd_none) (src_op (f := (eqF (.bool false))) 6 (by kernel_rfl) (by kernel_rfl) rfl) (src_op (f := (eqF (.bool false))) 12 (by kernel_rfl) (by kernel_rfl) rfl) rfl)
    refine steps_snoc (k := 12) ?_ (s_op1 (i := 12) hP (g := (some (6, false))) (isOp_of (by kernel_rfl) : IsOp gl_o5 12 (some (6, false)) (.unOp .not 4 (.tmp 71))) (by kernel_rfl) (by kernel_rfl) (grd_op (d := 66) (by kernel_rfl) (by kernel_rfl) rfl rfl) (src_op (f := (eqF (.bool true))) 11 (by kernel_rfl) (by kernel_rfl) rfl) (fun ρ w hx => h_not rfl hx) rfl)
    refine steps_snoc (k := 11) ?_ (s_call2 (i := 11) hP (g := (some (6, false))) (isOp_of (by kernel_rfl) : IsOp gl_o5 11 (some (6, false)) (.call { callee := .value (.func 21), args := #[.tmp 67, .tmp 70], argTypes := #[27, 27] })) (by kernel_rfl) (by kernel_rfl) (grd_op (d := 66) (by kernel_rfl) (by kernel_rfl) rfl rfl) (src_op (f := (intF ((Int.gcd (r0.cut 6).int (r1.cut 6).int : Nat) : Int))) 7 (by kernel_rfl) (by kernel_rfl) rfl) (src_op (f := (intF ((Int.gcd (r1.cut 6).int (r0.cut 6).int : Nat) : Int))) 10 (by kernel_rfl) (by kernel_rfl) rfl) glpl_quadrature_quadratureref01_Same (fun w v0 v1 hb h0 h1 => kSameT h0 h1 (sm_gcd (k0.cutSm 6) (k1.cutSm 6)) (sm_gcd (k1.cutSm 6) (k0.cutSm 6)) (by first | decide | assumption | omega) (by first | decide | assumption | omega) (gcd_swap _ _)) rfl)
    refine steps_snoc (k := 10) ?_ (s_call2 (i := 10) hP (g := (some (6, false))) (isOp_of (by kernel_rfl) : IsOp gl_o5 10 (some (6, false)) (.call { callee := .value (.func 33), args := #[.tmp 68, .tmp 69], argTypes := #[27, 27] })) (by kernel_rfl) (by kernel_rfl) (grd_op (d := 66) (by kernel_rfl) (by kernel_rfl) rfl rfl) (src_op (f := (intF (r1.cut 6).int)) 8 (by kernel_rfl) (by kernel_rfl) rfl) (src_op (f := (intF (r0.cut 6).int)) 9 (by kernel_rfl) (by kernel_rfl) rfl) glpl_quadrature_integer_Gcd (fun w v0 v1 hb h0 h1 => kGcd h0 h1 (k1.cutSm 6) (k0.cutSm 6) (by decide) (by decide)) rfl)
    refine steps_snoc (k := 9) ?_ (s_load (i := 9) hP (g := (some (6, false))) (isOp_of (by kernel_rfl) : IsOp gl_o5 9 (some (6, false)) (.load 27 (.tmp 8))) (by kernel_rfl) (by kernel_rfl) (grd_op (d := 66) (by kernel_rfl) (by kernel_rfl) rfl rfl) (bsrc_old 3 _ rfl rfl rfl (by kernel_rfl) (by kernel_rfl)) (fun w q h => loadI_int w q h) rfl)
    refine steps_snoc (k := 8) ?_ (s_load (i := 8) hP (g := (some (6, false))) (isOp_of (by kernel_rfl) : IsOp gl_o5 8 (some (6, false)) (.load 27 (.tmp 9))) (by kernel_rfl) (by kernel_rfl) (grd_op (d := 66) (by kernel_rfl) (by kernel_rfl) rfl rfl) (bsrc_old 4 _ rfl rfl rfl (by kernel_rfl) (by kernel_rfl)) (fun w q h => loadI_int w q h) rfl)
    refine steps_snoc (k := 7) ?_ (s_load (i := 7) hP (g := (some (6, false))) (isOp_of (by kernel_rfl) : IsOp gl_o5 7 (some (6, false)) (.load 27 (.tmp 11))) (by kernel_rfl) (by kernel_rfl) (grd_op (d := 66) (by kernel_rfl) (by kernel_rfl) rfl rfl) (bsrc_old 6 _ rfl rfl rfl (by kernel_rfl) (by kernel_rfl)) (fun w q h => loadI_int w q h) rfl)
    refine steps_snoc (k := 6) ?_ (s_move (i := 6) hP (g := none) (isOp_of (by kernel_rfl) : IsOp gl_o5 6 none (.move (.tmp 65))) (by kernel_rfl) (by kernel_rfl) (grd_none) (src_op (f := (eqF (.bool false))) 5 (by kernel_rfl) (by kernel_rfl) rfl) rfl)
    refine steps_snoc (k := 5) ?_ (s_op1 (i := 5) hP (g := none) (isOp_of (by kernel_rfl) : IsOp gl_o5 5 none (.unOp .not 4 (.tmp 64))) (by kernel_rfl) (by kernel_rfl) (grd_none) (src_op (f := (eqF (.bool true))) 4 (by kernel_rfl) (by kernel_rfl) rfl) (fun ρ w hx => h_not rfl hx) rfl)
    refine steps_snoc (k := 4) ?_ (s_call2 (i := 4) hP (g := none) (isOp_of (by kernel_rfl) : IsOp gl_o5 4 none (.call { callee := .value (.func 21), args := #[.tmp 60, .tmp 63], argTypes := #[27, 27] })) (by kernel_rfl) (by kernel_rfl) (grd_none) (src_op (f := (intF ((Int.gcd (r0.cut 6).int (r1.cut 6).int : Nat) : Int))) 0 (by kernel_rfl) (by kernel_rfl) rfl) (src_op (f := (intF ((Int.gcd (r0.cut 6).int (r1.cut 6).int : Nat) : Int))) 3 (by kernel_rfl) (by kernel_rfl) rfl) glpl_quadrature_quadratureref01_Same (fun w v0 v1 hb h0 h1 => kSameT h0 h1 (sm_gcd (k0.cutSm 6) (k1.cutSm 6)) (sm_gcd (k0.cutSm 6) (k1.cutSm 6)) (by first | decide | assumption | omega) (by first | decide | assumption | omega) rfl) rfl)
    refine steps_snoc (k := 3) ?_ (s_call2 (i := 3) hP (g := none) (isOp_of (by kernel_rfl) : IsOp gl_o5 3 none (.call { callee := .value (.func 34), args := #[.tmp 61, .tmp 62], argTypes := #[27, 27] })) (by kernel_rfl) (by kernel_rfl) (grd_none) (src_op (f := (intF (r0.cut 6).int)) 1 (by kernel_rfl) (by kernel_rfl) rfl) (src_op (f := (intF (r1.cut 6).int)) 2 (by kernel_rfl) (by kernel_rfl) rfl) glpl_quadrature_quadratureref01_Gcd (fun w v0 v1 hb h0 h1 => kRGcd h0 h1 (k0.cutSm 6) (k1.cutSm 6) (by decide)) rfl)
    refine steps_snoc (k := 2) ?_ (s_load (i := 2) hP (g := none) (isOp_of (by kernel_rfl) : IsOp gl_o5 2 none (.load 27 (.tmp 9))) (by kernel_rfl) (by kernel_rfl) (grd_none) (bsrc_old 4 _ rfl rfl rfl (by kernel_rfl) (by kernel_rfl)) (fun w q h => loadI_int w q h) rfl)
    refine steps_snoc (k := 1) ?_ (s_load (i := 1) hP (g := none) (isOp_of (by kernel_rfl) : IsOp gl_o5 1 none (.load 27 (.tmp 8))) (by kernel_rfl) (by kernel_rfl) (grd_none) (bsrc_old 3 _ rfl rfl rfl (by kernel_rfl) (by kernel_rfl)) (fun w q h => loadI_int w q h) rfl)
    refine steps_snoc (k := 0) ?_ (s_load (i := 0) hP (g := none) (isOp_of (by kernel_rfl) : IsOp gl_o5 0 none (.load 27 (.tmp 11))) (by kernel_rfl) (by kernel_rfl) (grd_none) (bsrc_old 6 _ rfl rfl rfl (by kernel_rfl) (by kernel_rfl)) (fun w q h => loadI_int w q h) rfl)
    exact steps_nil
  · intro m a w hI hm
    exact ⟨(low_fact hst 0 rfl (by kernel_rfl) hI), (low_fact hst 1 rfl (by kernel_rfl) hI), (low_fact hst 2 rfl (by kernel_rfl) hI), (low_fact hst 3 rfl (by kernel_rfl) hI), (low_fact hst 4 rfl (by kernel_rfl) hI), (out_op hI hm 28 88 _ (by kernel_rfl) rfl), trivial⟩
set_option maxRecDepth 100000 in
theorem gl_r7 {Q : Exit → Act → World → Prop} {Wb W0 : World} {a0 : Act} {r0 r1 r2 : RawArg} (_hS : Sanity) (_ht : P10 Wb) (k0 : r0.Ok Wb) (k1 : r1.Ok Wb) (_k2 : r2.Ok Wb) (hz : ((Int.gcd (r0.cut 6).int (r1.cut 6).int : Nat) : Int) = 0) (_za : (r0.cut 6).int = 0) (_zb : (r1.cut 6).int = 0) (hst : St Wb 133 [(0, (eqF r0.val_)), (1, (eqF r1.val_)), (2, (eqF r2.val_)), (6, (eqF (.bool false))), (7, (eqF (.bool true))), (88, (eqF (.bool false)))] [(3, (rawBF (r0.cut 6))), (4, (rawBF (r1.cut 6))), (5, (rawBF (r2.cut 2))), (8, (boxIF (r0.cut 6).int)), (9, (boxIF (r1.cut 6).int)), (10, (boxIF (r2.cut 2).int)), (11, (boxIF ((Int.gcd (r0.cut 6).int (r1.cut 6).int : Nat) : Int))), (12, (boxIF ((Int.gcd ((r0.cut 6).int * (r2.cut 2).int) ((r1.cut 6).int * (r2.cut 2).int) : Nat) : Int)))] a0 W0)
    (fin : ∀ a w, St Wb 133 [(0, (eqF r0.val_)), (1, (eqF r1.val_)), (2, (eqF r2.val_)), (6, (eqF (.bool false))), (7, (eqF (.bool true))), (88, (eqF (.bool false))), (91, (eqF (.bool true)))] [(3, (rawBF (r0.cut 6))), (4, (rawBF (r1.cut 6))), (5, (rawBF (r2.cut 2))), (8, (boxIF (r0.cut 6).int)), (9, (boxIF (r1.cut 6).int)), (10, (boxIF (r2.cut 2).int)), (11, (boxIF ((Int.gcd (r0.cut 6).int (r1.cut 6).int : Nat) : Int))), (12, (boxIF ((Int.gcd ((r0.cut 6).int * (r2.cut 2).int) ((r1.cut 6).int * (r2.cut 2).int) : Nat) : Int)))] a w → Q .normal a w) : (Code.region 7 gl_o7 false).wp Tryd.prog Q a0 W0 := by
  have hP : Plan gl_o7 133 ([⟨3, none, none, (rawBF (r0.cut 6)), (rawBF (r0.cut 6))⟩, ⟨4, none, none, (rawBF (r1.cut 6)), (rawBF (r1.cut 6))⟩, ⟨5, none, none, (rawBF (r2.cut 2)), (rawBF (r2.cut 2))⟩, ⟨8, none, none, (boxIF (r0.cut 6).int), (boxIF (r0.cut 6).int)⟩, ⟨9, none, none, (boxIF (r1.cut 6).int), (boxIF (r1.cut 6).int)⟩, ⟨10, none, none, (boxIF (r2.cut 2).int), (boxIF (r2.cut 2).int)⟩, ⟨11, none, none, (boxIF ((Int.gcd (r0.cut 6).int (r1.cut 6).int : Nat) : Int)), (boxIF ((Int.gcd (r0.cut 6).int (r1.cut 6).int : Nat) : Int))⟩, ⟨12, none, none, (boxIF ((Int.gcd ((r0.cut 6).int * (r2.cut 2).int) ((r1.cut 6).int * (r2.cut 2).int) : Nat) : Int)), (boxIF ((Int.gcd ((r0.cut 6).int * (r2.cut 2).int) ((r1.cut 6).int * (r2.cut 2).int) : Nat) : Int))⟩] : List BoxS) [] := ⟨by kernel_rfl, by kernel_rfl, by kernel_rfl, by kernel_rfl, by kernel_rfl, by kernel_rfl⟩
  refine region_st (F := [(intF ((Int.gcd (r0.cut 6).int (r1.cut 6).int : Nat) : Int)), (eqF (.int .i64 (Int.sign ((Int.gcd (r0.cut 6).int (r1.cut 6).int : Nat) : Int)))), (eqF (.bool true))]) hP hst rfl rfl ?_ ?_ fin
  · show Steps gl_o7 133 Wb W0 a0 _ _ _ 3
    refine steps_snoc (k := 2) ?_ (s_op2 (i := 2) hP (g := none) (isOp_of (by kernel_rfl) : IsOp gl_o7 2 none (.binOp .eql 3 (.tmp 90) (.const (.int .i64 0)) 3)) (by kernel_rfl) (by kernel_rfl) (grd_none) (src_op (f := (eqF (.int .i64 (Int.sign ((Int.gcd (r0.cut 6).int (r1.cut 6).int : Nat) : Int))))) 1 (by kernel_rfl) (by kernel_rfl) rfl) (src_const _) (fun ρ w hx hy => h_eqlI (r := true) (by rw [hz]; rfl) hx hy) rfl)
    refine steps_snoc (k := 1) ?_ (s_call1 (i := 1) hP (g := none) (isOp_of (by kernel_rfl) : IsOp gl_o7 1 none (.call { callee := .value (.func 29), args := #[.tmp 89], argTypes := #[27] })) (by kernel_rfl) (by kernel_rfl) (grd_none) (src_op (f := (intF ((Int.gcd (r0.cut 6).int (r1.cut 6).int : Nat) : Int))) 0 (by kernel_rfl) (by kernel_rfl) rfl) glpl_quadrature_quadratureref01_Sign (fun w v0 hb h0 => kRSign h0 (sm_gcd (k0.cutSm 6) (k1.cutSm 6)) (by first | decide | assumption | omega)) rfl)
    refine steps_snoc (k := 0) ?_ (s_load (i := 0) hP (g := none) (isOp_of (by kernel_rfl) : IsOp gl_o7 0 none (.load 27 (.tmp 11))) (by kernel_rfl) (by kernel_rfl) (grd_none) (bsrc_old 6 _ rfl rfl rfl (by kernel_rfl) (by kernel_rfl)) (fun w q h => loadI_int w q h) rfl)
    exact steps_nil
  · intro m a w hI hm
    exact ⟨(low_fact hst 0 rfl (by kernel_rfl) hI), (low_fact hst 1 rfl (by kernel_rfl) hI), (low_fact hst 2 rfl (by kernel_rfl) hI), (low_fact hst 3 rfl (by kernel_rfl) hI), (low_fact hst 4 rfl (by kernel_rfl) hI), (low_fact hst 5 rfl (by kernel_rfl) hI), (out_op hI hm 2 91 _ (by kernel_rfl) rfl), trivial⟩
set_option maxRecDepth 100000 in
theorem gl_r8 {Q : Exit → Act → World → Prop} {Wb W0 : World} {a0 : Act} {r0 r1 r2 : RawArg} (_hS : Sanity) (_ht : P10 Wb) (k0 : r0.Ok Wb) (k1 : r1.Ok Wb) (_k2 : r2.Ok Wb) (_hz : ((Int.gcd (r0.cut 6).int (r1.cut 6).int : Nat) : Int) = 0) (za : (r0.cut 6).int = 0) (zb : (r1.cut 6).int = 0) (hst : St Wb 133 [(0, (eqF r0.val_)), (1, (eqF r1.val_)), (2, (eqF r2.val_)), (6, (eqF (.bool false))), (7, (eqF (.bool true))), (88, (eqF (.bool false))), (91, (eqF (.bool true)))] [(3, (rawBF (r0.cut 6))), (4, (rawBF (r1.cut 6))), (5, (rawBF (r2.cut 2))), (8, (boxIF (r0.cut 6).int)), (9, (boxIF (r1.cut 6).int)), (10, (boxIF (r2.cut 2).int)), (11, (boxIF ((Int.gcd (r0.cut 6).int (r1.cut 6).int : Nat) : Int))), (12, (boxIF ((Int.gcd ((r0.cut 6).int * (r2.cut 2).int) ((r1.cut 6).int * (r2.cut 2).int) : Nat) : Int)))] a0 W0)
    (fin : ∀ a w, St Wb 133 [(0, (eqF r0.val_)), (1, (eqF r1.val_)), (2, (eqF r2.val_)), (6, (eqF (.bool true))), (7, (eqF (.bool true))), (88, (eqF (.bool false))), (91, (eqF (.bool true)))] [(3, (rawBF (r0.cut 6))), (4, (rawBF (r1.cut 6))), (5, (rawBF (r2.cut 2))), (8, (boxIF (r0.cut 6).int)), (9, (boxIF (r1.cut 6).int)), (10, (boxIF (r2.cut 2).int)), (11, (boxIF ((Int.gcd (r0.cut 6).int (r1.cut 6).int : Nat) : Int))), (12, (boxIF ((Int.gcd ((r0.cut 6).int * (r2.cut 2).int) ((r1.cut 6).int * (r2.cut 2).int) : Nat) : Int)))] a w → Q .normal a w) : (Code.region 8 gl_o8 false).wp Tryd.prog Q a0 W0 := by
  have hP : Plan gl_o8 133 ([⟨3, none, none, (rawBF (r0.cut 6)), (rawBF (r0.cut 6))⟩, ⟨4, none, none, (rawBF (r1.cut 6)), (rawBF (r1.cut 6))⟩, ⟨5, none, none, (rawBF (r2.cut 2)), (rawBF (r2.cut 2))⟩, ⟨8, none, none, (boxIF (r0.cut 6).int), (boxIF (r0.cut 6).int)⟩, ⟨9, none, none, (boxIF (r1.cut 6).int), (boxIF (r1.cut 6).int)⟩, ⟨10, none, none, (boxIF (r2.cut 2).int), (boxIF (r2.cut 2).int)⟩, ⟨11, none, none, (boxIF ((Int.gcd (r0.cut 6).int (r1.cut 6).int : Nat) : Int)), (boxIF ((Int.gcd (r0.cut 6).int (r1.cut 6).int : Nat) : Int))⟩, ⟨12, none, none, (boxIF ((Int.gcd ((r0.cut 6).int * (r2.cut 2).int) ((r1.cut 6).int * (r2.cut 2).int) : Nat) : Int)), (boxIF ((Int.gcd ((r0.cut 6).int * (r2.cut 2).int) ((r1.cut 6).int * (r2.cut 2).int) : Nat) : Int))⟩] : List BoxS) [] := ⟨by kernel_rfl, by kernel_rfl, by kernel_rfl, by kernel_rfl, by kernel_rfl, by kernel_rfl⟩
  refine region_st (F := [(intF (r0.cut 6).int), (eqF (.int .i64 (Int.sign (r0.cut 6).int))), (eqF (.bool true)), (eqF (.bool true)), (intF (r1.cut 6).int), (eqF (.int .i64 (Int.sign (r1.cut 6).int))), (eqF (.bool true)), (eqF (.bool true)), (eqF (.bool true)), (eqF (.bool true)), (eqF (.bool true)), (eqF (.bool true))]) hP hst rfl rfl ?_ ?_ fin
  · show Steps gl_o8 133 Wb W0 a0 _ _ _ 12
    refine steps_snoc (k := 11) ?_ (s_assign (i := 11) hP (g := none) (isOp_of (by kernel_rfl) : IsOp gl_o8 11 none (.assign (.tmp 102))) (by kernel_rfl) (by kernel_rfl) (grd_none) (src_op (f := (eqF (.bool true))) 10 (by kernel_rfl) (by kernel_rfl) rfl) rfl)
    refine steps_snoc (k := 10) ?_ (s_pickT (i := 10) hP (g := none) (isOp_of (by kernel_rfl) : IsOp gl_o8 10 none (.pick (.tmp 100) (.tmp 101) (.const (.bool false)))) (by kernel_rfl) (by kernel_rfl) (grd_none) (src_op (f := (eqF (.bool true))) 8 (by kernel_rfl) (by kernel_rfl) rfl) (src_op (f := (eqF (.bool true))) 9 (by kernel_rfl) (by kernel_rfl) rfl) rfl)
    refine steps_snoc (k := 9) ?_ (s_move (i := 9) hP (g := (some (8, true))) (isOp_of (by kernel_rfl) : IsOp gl_o8 9 (some (8, true)) (.move (.tmp 7))) (by kernel_rfl) (by kernel_rfl) (grd_op (d := 100) (by kernel_rfl) (by kernel_rfl) rfl rfl) (src_low hst 4 rfl (by kernel_rfl)) rfl)
    refine steps_snoc (k := 8) ?_ (s_move (i := 8) hP (g := none) (isOp_of (by kernel_rfl) : IsOp gl_o8 8 none (.move (.tmp 99))) (by kernel_rfl) (by kernel_rfl) (grd_none) (src_op (f := (eqF (.bool true))) 7 (by kernel_rfl) (by kernel_rfl) rfl) rfl)
    refine steps_snoc (k := 7) ?_ (s_pickT (i := 7) hP (g := none) (isOp_of (by kernel_rfl) : IsOp gl_o8 7 none (.pick (.tmp 95) (.tmp 98) (.const (.bool false)))) (by kernel_rfl) (by kernel_rfl) (grd_none) (src_op (f := (eqF (.bool true))) 3 (by kernel_rfl) (by kernel_rfl) rfl) (src_op (f := (eqF (.bool true))) 6 (by kernel_rfl) (by kernel_rfl) rfl) rfl)
    refine steps_snoc (k := 6) ?_ (s_op2 (i := 6) hP (g := (some (3, true))) (isOp_of (by kernel_rfl) : IsOp gl_o8 6 (some (3, true)) (.binOp .eql 3 (.tmp 97) (.const (.int .i64 0)) 3)) (by kernel_rfl) (by kernel_rfl) (grd_op (d := 95) (by kernel_rfl) (by kernel_rfl) rfl rfl) (src_op (f := (eqF (.int .i64 (Int.sign (r1.cut 6).int)))) 5 (by kernel_rfl) (by kernel_rfl) rfl) (src_const _) (fun ρ w hx hy => h_eqlI (r := true) (by rw [zb]; rfl) hx hy) rfl)
    refine steps_snoc (k := 5) ?_ (s_call1 (i := 5) hP (g := (some (3, true))) (isOp_of (by kernel_rfl) : IsOp gl_o8 5 (some (3, true)) (.call { callee := .value (.func 29), args := #[.tmp 96], argTypes := #[27] })) (by kernel_rfl) (by kernel_rfl) (grd_op (d := 95) (by kernel_rfl) (by kernel_rfl) rfl rfl) (src_op (f := (intF (r1.cut 6).int)) 4 (by kernel_rfl) (by kernel_rfl) rfl) glpl_quadrature_quadratureref01_Sign (fun w v0 hb h0 => kRSign h0 (k1.cutSm 6) (by first | decide | assumption | omega)) rfl)
    refine steps_snoc (k := 4) ?_ (s_load (i := 4) hP (g := (some (3, true))) (isOp_of (by kernel_rfl) : IsOp gl_o8 4 (some (3, true)) (.load 27 (.tmp 9))) (by kernel_rfl) (by kernel_rfl) (grd_op (d := 95) (by kernel_rfl) (by kernel_rfl) rfl rfl) (bsrc_old 4 _ rfl rfl rfl (by kernel_rfl) (by kernel_rfl)) (fun w q h => loadI_int w q h) rfl)
    refine steps_snoc (k := 3) ?_ (s_move (i := 3) hP (g := none) (isOp_of (by kernel_rfl) : IsOp gl_o8 3 none (.move (.tmp 94))) (by kernel_rfl) (by kernel_rfl) (grd_none) (src_op (f := (eqF (.bool true))) 2 (by kernel_rfl) (by kernel_rfl) rfl) rfl)
    refine steps_snoc (k := 2) ?_ (s_op2 (i := 2) hP (g := none) (isOp_of (by kernel_rfl) : IsOp gl_o8 2 none (.binOp .eql 3 (.tmp 93) (.const (.int .i64 0)) 3)) (by kernel_rfl) (by kernel_rfl) (grd_none) (src_op (f := (eqF (.int .i64 (Int.sign (r0.cut 6).int)))) 1 (by kernel_rfl) (by kernel_rfl) rfl) (src_const _) (fun ρ w hx hy => h_eqlI (r := true) (by rw [za]; rfl) hx hy) rfl)
    refine steps_snoc (k := 1) ?_ (s_call1 (i := 1) hP (g := none) (isOp_of (by kernel_rfl) : IsOp gl_o8 1 none (.call { callee := .value (.func 29), args := #[.tmp 92], argTypes := #[27] })) (by kernel_rfl) (by kernel_rfl) (grd_none) (src_op (f := (intF (r0.cut 6).int)) 0 (by kernel_rfl) (by kernel_rfl) rfl) glpl_quadrature_quadratureref01_Sign (fun w v0 hb h0 => kRSign h0 (k0.cutSm 6) (by first | decide | assumption | omega)) rfl)
    refine steps_snoc (k := 0) ?_ (s_load (i := 0) hP (g := none) (isOp_of (by kernel_rfl) : IsOp gl_o8 0 none (.load 27 (.tmp 8))) (by kernel_rfl) (by kernel_rfl) (grd_none) (bsrc_old 3 _ rfl rfl rfl (by kernel_rfl) (by kernel_rfl)) (fun w q h => loadI_int w q h) rfl)
    exact steps_nil
  · intro m a w hI hm
    exact ⟨(low_fact hst 0 rfl (by kernel_rfl) hI), (low_fact hst 1 rfl (by kernel_rfl) hI), (low_fact hst 2 rfl (by kernel_rfl) hI), (out_op hI hm 11 6 _ (by kernel_rfl) rfl), (low_fact hst 4 rfl (by kernel_rfl) hI), (low_fact hst 5 rfl (by kernel_rfl) hI), (low_fact hst 6 rfl (by kernel_rfl) hI), trivial⟩
set_option maxRecDepth 100000 in
theorem gl_r7b {Q : Exit → Act → World → Prop} {Wb W0 : World} {a0 : Act} {r0 r1 r2 : RawArg} (_hS : Sanity) (_ht : P10 Wb) (k0 : r0.Ok Wb) (k1 : r1.Ok Wb) (_k2 : r2.Ok Wb) (hz : ((Int.gcd (r0.cut 6).int (r1.cut 6).int : Nat) : Int) ≠ 0) (hst : St Wb 133 [(0, (eqF r0.val_)), (1, (eqF r1.val_)), (2, (eqF r2.val_)), (6, (eqF (.bool false))), (7, (eqF (.bool true))), (88, (eqF (.bool false)))] [(3, (rawBF (r0.cut 6))), (4, (rawBF (r1.cut 6))), (5, (rawBF (r2.cut 2))), (8, (boxIF (r0.cut 6).int)), (9, (boxIF (r1.cut 6).int)), (10, (boxIF (r2.cut 2).int)), (11, (boxIF ((Int.gcd (r0.cut 6).int (r1.cut 6).int : Nat) : Int))), (12, (boxIF ((Int.gcd ((r0.cut 6).int * (r2.cut 2).int) ((r1.cut 6).int * (r2.cut 2).int) : Nat) : Int)))] a0 W0)
    (fin : ∀ a w, St Wb 133 [(0, (eqF r0.val_)), (1, (eqF r1.val_)), (2, (eqF r2.val_)), (6, (eqF (.bool false))), (7, (eqF (.bool true))), (88, (eqF (.bool false))), (91, (eqF (.bool false)))] [(3, (rawBF (r0.cut 6))), (4, (rawBF (r1.cut 6))), (5, (rawBF (r2.cut 2))), (8, (boxIF (r0.cut 6).int)), (9, (boxIF (r1.cut 6).int)), (10, (boxIF (r2.cut 2).int)), (11, (boxIF ((Int.gcd (r0.cut 6).int (r1.cut 6).int : Nat) : Int))), (12, (boxIF ((Int.gcd ((r0.cut 6).int * (r2.cut 2).int) ((r1.cut 6).int * (r2.cut 2).int) : Nat) : Int)))] a w → Q .normal a w) : (Code.region 7 gl_o7 false).wp Tryd.prog Q a0 W0 := by
  have hP : Plan gl_o7 133 ([⟨3, none, none, (rawBF (r0.cut 6)), (rawBF (r0.cut 6))⟩, ⟨4, none, none, (rawBF (r1.cut 6)), (rawBF (r1.cut 6))⟩, ⟨5, none, none, (rawBF (r2.cut 2)), (rawBF (r2.cut 2))⟩, ⟨8, none, none, (boxIF (r0.cut 6).int), (boxIF (r0.cut 6).int)⟩, ⟨9, none, none, (boxIF (r1.cut 6).int), (boxIF (r1.cut 6).int)⟩, ⟨10, none, none, (boxIF (r2.cut 2).int), (boxIF (r2.cut 2).int)⟩, ⟨11, none, none, (boxIF ((Int.gcd (r0.cut 6).int (r1.cut 6).int : Nat) : Int)), (boxIF ((Int.gcd (r0.cut 6).int (r1.cut 6).int : Nat) : Int))⟩, ⟨12, none, none, (boxIF ((Int.gcd ((r0.cut 6).int * (r2.cut 2).int) ((r1.cut 6).int * (r2.cut 2).int) : Nat) : Int)), (boxIF ((Int.gcd ((r0.cut 6).int * (r2.cut 2).int) ((r1.cut 6).int * (r2.cut 2).int) : Nat) : Int))⟩] : List BoxS) [] := ⟨by kernel_rfl, by kernel_rfl, by kernel_rfl, by kernel_rfl, by kernel_rfl, by kernel_rfl⟩
  refine region_st (F := [(intF ((Int.gcd (r0.cut 6).int (r1.cut 6).int : Nat) : Int)), (eqF (.int .i64 (Int.sign ((Int.gcd (r0.cut 6).int (r1.cut 6).int : Nat) : Int)))), (eqF (.bool false))]) hP hst rfl rfl ?_ ?_ fin
  · show Steps gl_o7 133 Wb W0 a0 _ _ _ 3
    refine steps_snoc (k := 2) ?_ (s_op2 (i := 2) hP (g := none) (isOp_of (by kernel_rfl) : IsOp gl_o7 2 none (.binOp .eql 3 (.tmp 90) (.const (.int .i64 0)) 3)) (by kernel_rfl) (by kernel_rfl) (grd_none) (src_op (f := (eqF (.int .i64 (Int.sign ((Int.gcd (r0.cut 6).int (r1.cut 6).int : Nat) : Int))))) 1 (by kernel_rfl) (by kernel_rfl) rfl) (src_const _) (fun ρ w hx hy => h_eqlI (r := false) (sgn_ne hz) hx hy) rfl)
    refine steps_snoc (k := 1) ?_ (s_call1 (i := 1) hP (g := none) (isOp_of (by kernel_rfl) : IsOp gl_o7 1 none (.call { callee := .value (.func 29), args := #[.tmp 89], argTypes := #[27] })) (by kernel_rfl) (by kernel_rfl) (grd_none) (src_op (f := (intF ((Int.gcd (r0.cut 6).int (r1.cut 6).int : Nat) : Int))) 0 (by kernel_rfl) (by kernel_rfl) rfl) glpl_quadrature_quadratureref01_Sign (fun w v0 hb h0 => kRSign h0 (sm_gcd (k0.cutSm 6) (k1.cutSm 6)) (by first | decide | assumption | omega)) rfl)
    refine steps_snoc (k := 0) ?_ (s_load (i := 0) hP (g := none) (isOp_of (by kernel_rfl) : IsOp gl_o7 0 none (.load 27 (.tmp 11))) (by kernel_rfl) (by kernel_rfl) (grd_none) (bsrc_old 6 _ rfl rfl rfl (by kernel_rfl) (by kernel_rfl)) (fun w q h => loadI_int w q h) rfl)
    exact steps_nil
  · intro m a w hI hm
    exact ⟨(low_fact hst 0 rfl (by kernel_rfl) hI), (low_fact hst 1 rfl (by kernel_rfl) hI), (low_fact hst 2 rfl (by kernel_rfl) hI), (low_fact hst 3 rfl (by kernel_rfl) hI), (low_fact hst 4 rfl (by kernel_rfl) hI), (low_fact hst 5 rfl (by kernel_rfl) hI), (out_op hI hm 2 91 _ (by kernel_rfl) rfl), trivial⟩
set_option maxRecDepth 100000 in
theorem gl_r9 {Q : Exit → Act → World → Prop} {Wb W0 : World} {a0 : Act} {r0 r1 r2 : RawArg} (_hS : Sanity) (_ht : P10 Wb) (k0 : r0.Ok Wb) (k1 : r1.Ok Wb) (_k2 : r2.Ok Wb) (hz : ((Int.gcd (r0.cut 6).int (r1.cut 6).int : Nat) : Int) ≠ 0) (hst : St Wb 133 [(0, (eqF r0.val_)), (1, (eqF r1.val_)), (2, (eqF r2.val_)), (6, (eqF (.bool false))), (7, (eqF (.bool true))), (88, (eqF (.bool false))), (91, (eqF (.bool false)))] [(3, (rawBF (r0.cut 6))), (4, (rawBF (r1.cut 6))), (5, (rawBF (r2.cut 2))), (8, (boxIF (r0.cut 6).int)), (9, (boxIF (r1.cut 6).int)), (10, (boxIF (r2.cut 2).int)), (11, (boxIF ((Int.gcd (r0.cut 6).int (r1.cut 6).int : Nat) : Int))), (12, (boxIF ((Int.gcd ((r0.cut 6).int * (r2.cut 2).int) ((r1.cut 6).int * (r2.cut 2).int) : Nat) : Int)))] a0 W0)
    (fin : ∀ a w, St Wb 133 [(0, (eqF r0.val_)), (1, (eqF r1.val_)), (2, (eqF r2.val_)), (6, (eqF (.bool false))), (7, (eqF (.bool true))), (88, (eqF (.bool false))), (91, (eqF (.bool false)))] [(3, (rawBF (r0.cut 6))), (4, (rawBF (r1.cut 6))), (5, (rawBF (r2.cut 2))), (8, (boxIF (r0.cut 6).int)), (9, (boxIF (r1.cut 6).int)), (10, (boxIF (r2.cut 2).int)), (11, (boxIF ((Int.gcd (r0.cut 6).int (r1.cut 6).int : Nat) : Int))), (12, (boxIF ((Int.gcd ((r0.cut 6).int * (r2.cut 2).int) ((r1.cut 6).int * (r2.cut 2).int) : Nat) : Int))), (13, (boxIF ((r0.cut 6).int / ((Int.gcd (r0.cut 6).int (r1.cut 6).int : Nat) : Int)))), (14, (boxIF ((r0.cut 6).int % ((Int.gcd (r0.cut 6).int (r1.cut 6).int : Nat) : Int))))] a w → Q .normal a w) : (Code.region 9 gl_o9 false).wp Tryd.prog Q a0 W0 := by
  have hP : Plan gl_o9 133 ([⟨3, none, none, (rawBF (r0.cut 6)), (rawBF (r0.cut 6))⟩, ⟨4, none, none, (rawBF (r1.cut 6)), (rawBF (r1.cut 6))⟩, ⟨5, none, none, (rawBF (r2.cut 2)), (rawBF (r2.cut 2))⟩, ⟨8, none, none, (boxIF (r0.cut 6).int), (boxIF (r0.cut 6).int)⟩, ⟨9, none, none, (boxIF (r1.cut 6).int), (boxIF (r1.cut 6).int)⟩, ⟨10, none, none, (boxIF (r2.cut 2).int), (boxIF (r2.cut 2).int)⟩, ⟨11, none, none, (boxIF ((Int.gcd (r0.cut 6).int (r1.cut 6).int : Nat) : Int)), (boxIF ((Int.gcd (r0.cut 6).int (r1.cut 6).int : Nat) : Int))⟩, ⟨12, none, none, (boxIF ((Int.gcd ((r0.cut 6).int * (r2.cut 2).int) ((r1.cut 6).int * (r2.cut 2).int) : Nat) : Int)), (boxIF ((Int.gcd ((r0.cut 6).int * (r2.cut 2).int) ((r1.cut 6).int * (r2.cut 2).int) : Nat) : Int))⟩, ⟨13, some 7, some 9, zeroIF, (boxIF ((r0.cut 6).int / ((Int.gcd (r0.cut 6).int (r1.cut 6).int : Nat) : Int)))⟩, ⟨14, some 8, some 10, zeroIF, (boxIF ((r0.cut 6).int % ((Int.gcd (r0.cut 6).int (r1.cut 6).int : Nat) : Int)))⟩] : List BoxS) [] := ⟨by kernel_rfl, by kernel_rfl, by kernel_rfl, by kernel_rfl, by kernel_rfl, by kernel_rfl⟩
  refine region_st (F := [(intF (r0.cut 6).int), (intF ((Int.gcd (r0.cut 6).int (r1.cut 6).int : Nat) : Int)), (tup3F (intF ((r0.cut 6).int / ((Int.gcd (r0.cut 6).int (r1.cut 6).int : Nat) : Int))) (intF ((r0.cut 6).int % ((Int.gcd (r0.cut 6).int (r1.cut 6).int : Nat) : Int))) (eqF (.int .i64 0))), (tup3F (intF ((r0.cut 6).int / ((Int.gcd (r0.cut 6).int (r1.cut 6).int : Nat) : Int))) (intF ((r0.cut 6).int % ((Int.gcd (r0.cut 6).int (r1.cut 6).int : Nat) : Int))) (eqF (.int .i64 0))), (intF ((r0.cut 6).int / ((Int.gcd (r0.cut 6).int (r1.cut 6).int : Nat) : Int))), (intF ((r0.cut 6).int % ((Int.gcd (r0.cut 6).int (r1.cut 6).int : Nat) : Int))), (eqF (.int .i64 0)), anyF, anyF, anyF, anyF, (eqF (.int .i64 0))]) hP hst rfl rfl ?_ ?_ fin
  · show Steps gl_o9 133 Wb W0 a0 _ _ _ 12
    refine steps_snoc (k := 11) ?_ (s_assign (i := 11) hP (g := none) (isOp_of (by kernel_rfl) : IsOp gl_o9 11 none (.assign (.tmp 109))) (by kernel_rfl) (by kernel_rfl) (grd_none) (src_op (f := (eqF (.int .i64 0))) 6 (by kernel_rfl) (by kernel_rfl) rfl) rfl)
    refine steps_snoc (k := 10) ?_ (s_store (i := 10) 9 _ (isOp_of (by kernel_rfl) : IsOp gl_o9 10 none (.store 27 (.tmp 14) (.tmp 108))) (by kernel_rfl) rfl rfl rfl (by kernel_rfl) (by kernel_rfl) (by kernel_rfl) (src_op (f := (intF ((r0.cut 6).int % ((Int.gcd (r0.cut 6).int (r1.cut 6).int : Nat) : Int)))) 5 (by kernel_rfl) (by kernel_rfl) rfl) (storeI_zero _))
    refine steps_snoc (k := 9) ?_ (s_store (i := 9) 8 _ (isOp_of (by kernel_rfl) : IsOp gl_o9 9 none (.store 27 (.tmp 13) (.tmp 107))) (by kernel_rfl) rfl rfl rfl (by kernel_rfl) (by kernel_rfl) (by kernel_rfl) (src_op (f := (intF ((r0.cut 6).int / ((Int.gcd (r0.cut 6).int (r1.cut 6).int : Nat) : Int)))) 4 (by kernel_rfl) (by kernel_rfl) rfl) (storeI_zero _))
    refine steps_snoc (k := 8) ?_ (s_alloc (i := 8) (d := 14) hP 9 _ (isOp_of (by kernel_rfl) : IsOp gl_o9 8 none (.alloc 27)) (by kernel_rfl) rfl rfl rfl (by kernel_rfl) (by kernel_rfl) (by kernel_rfl) (by kernel_rfl) rfl allocI_run allocI_old)
    refine steps_snoc (k := 7) ?_ (s_alloc (i := 7) (d := 13) hP 8 _ (isOp_of (by kernel_rfl) : IsOp gl_o9 7 none (.alloc 27)) (by kernel_rfl) rfl rfl rfl (by kernel_rfl) (by kernel_rfl) (by kernel_rfl) (by kernel_rfl) rfl allocI_run allocI_old)
    refine steps_snoc (k := 6) ?_ (s_op1 (i := 6) hP (g := none) (isOp_of (by kernel_rfl) : IsOp gl_o9 6 none (.extract (.tmp 103) 2)) (by kernel_rfl) (by kernel_rfl) (grd_none) (src_op (f := (tup3F (intF ((r0.cut 6).int / ((Int.gcd (r0.cut 6).int (r1.cut 6).int : Nat) : Int))) (intF ((r0.cut 6).int % ((Int.gcd (r0.cut 6).int (r1.cut 6).int : Nat) : Int))) (eqF (.int .i64 0)))) 3 (by kernel_rfl) (by kernel_rfl) rfl) (fun ρ w hx => h_ext3_2 hx) rfl)
    refine steps_snoc (k := 5) ?_ (s_op1 (i := 5) hP (g := none) (isOp_of (by kernel_rfl) : IsOp gl_o9 5 none (.extract (.tmp 103) 1)) (by kernel_rfl) (by kernel_rfl) (grd_none) (src_op (f := (tup3F (intF ((r0.cut 6).int / ((Int.gcd (r0.cut 6).int (r1.cut 6).int : Nat) : Int))) (intF ((r0.cut 6).int % ((Int.gcd (r0.cut 6).int (r1.cut 6).int : Nat) : Int))) (eqF (.int .i64 0)))) 3 (by kernel_rfl) (by kernel_rfl) rfl) (fun ρ w hx => h_ext3_1 hx) rfl)
    refine steps_snoc (k := 4) ?_ (s_op1 (i := 4) hP (g := none) (isOp_of (by kernel_rfl) : IsOp gl_o9 4 none (.extract (.tmp 103) 0)) (by kernel_rfl) (by kernel_rfl) (grd_none) (src_op (f := (tup3F (intF ((r0.cut 6).int / ((Int.gcd (r0.cut 6).int (r1.cut 6).int : Nat) : Int))) (intF ((r0.cut 6).int % ((Int.gcd (r0.cut 6).int (r1.cut 6).int : Nat) : Int))) (eqF (.int .i64 0)))) 3 (by kernel_rfl) (by kernel_rfl) rfl) (fun ρ w hx => h_ext3_0 hx) rfl)
    refine steps_snoc (k := 3) ?_ (s_move (i := 3) hP (g := none) (isOp_of (by kernel_rfl) : IsOp gl_o9 3 none (.move (.tmp 106))) (by kernel_rfl) (by kernel_rfl) (grd_none) (src_op (f := (tup3F (intF ((r0.cut 6).int / ((Int.gcd (r0.cut 6).int (r1.cut 6).int : Nat) : Int))) (intF ((r0.cut 6).int % ((Int.gcd (r0.cut 6).int (r1.cut 6).int : Nat) : Int))) (eqF (.int .i64 0)))) 2 (by kernel_rfl) (by kernel_rfl) rfl) rfl)
    refine steps_snoc (k := 2) ?_ (s_call2 (i := 2) hP (g := none) (isOp_of (by kernel_rfl) : IsOp gl_o9 2 none (.call { callee := .value (.func 35), args := #[.tmp 104, .tmp 105], argTypes := #[27, 27] })) (by kernel_rfl) (by kernel_rfl) (grd_none) (src_op (f := (intF (r0.cut 6).int)) 0 (by kernel_rfl) (by kernel_rfl) rfl) (src_op (f := (intF ((Int.gcd (r0.cut 6).int (r1.cut 6).int : Nat) : Int))) 1 (by kernel_rfl) (by kernel_rfl) rfl) glpl_quadrature_quadratureref01_DivMod (fun w v0 v1 hb h0 h1 => kRDivMod h0 h1 (k0.cutSm 6) (sm_gcd (k0.cutSm 6) (k1.cutSm 6)) (by first | decide | assumption | omega) (by first | decide | assumption | omega) hz) rfl)
    refine steps_snoc (k := 1) ?_ (s_load (i := 1) hP (g := none) (isOp_of (by kernel_rfl) : IsOp gl_o9 1 none (.load 27 (.tmp 11))) (by kernel_rfl) (by kernel_rfl) (grd_none) (bsrc_old 6 _ rfl rfl rfl (by kernel_rfl) (by kernel_rfl)) (fun w q h => loadI_int w q h) rfl)
    refine steps_snoc (k := 0) ?_ (s_load (i := 0) hP (g := none) (isOp_of (by kernel_rfl) : IsOp gl_o9 0 none (.load 27 (.tmp 8))) (by kernel_rfl) (by kernel_rfl) (grd_none) (bsrc_old 3 _ rfl rfl rfl (by kernel_rfl) (by kernel_rfl)) (fun w q h => loadI_int w q h) rfl)
    exact steps_nil
  · intro m a w hI hm
    exact ⟨(low_fact hst 0 rfl (by kernel_rfl) hI), (low_fact hst 1 rfl (by kernel_rfl) hI), (low_fact hst 2 rfl (by kernel_rfl) hI), (low_fact hst 3 rfl (by kernel_rfl) hI), (low_fact hst 4 rfl (by kernel_rfl) hI), (low_fact hst 5 rfl (by kernel_rfl) hI), (low_fact hst 6 rfl (by kernel_rfl) hI), trivial⟩
set_option maxRecDepth 100000 in
theorem gl_r10 {Q : Exit → Act → World → Prop} {Wb W0 : World} {a0 : Act} {r0 r1 r2 : RawArg} (_hS : Sanity) (_ht : P10 Wb) (k0 : r0.Ok Wb) (k1 : r1.Ok Wb) (_k2 : r2.Ok Wb) (hz : ((Int.gcd (r0.cut 6).int (r1.cut 6).int : Nat) : Int) ≠ 0) (hst : St Wb 133 [(0, (eqF r0.val_)), (1, (eqF r1.val_)), (2, (eqF r2.val_)), (6, (eqF (.bool false))), (7, (eqF (.bool true))), (88, (eqF (.bool false))), (91, (eqF (.bool false)))] [(3, (rawBF (r0.cut 6))), (4, (rawBF (r1.cut 6))), (5, (rawBF (r2.cut 2))), (8, (boxIF (r0.cut 6).int)), (9, (boxIF (r1.cut 6).int)), (10, (boxIF (r2.cut 2).int)), (11, (boxIF ((Int.gcd (r0.cut 6).int (r1.cut 6).int : Nat) : Int))), (12, (boxIF ((Int.gcd ((r0.cut 6).int * (r2.cut 2).int) ((r1.cut 6).int * (r2.cut 2).int) : Nat) : Int))), (13, (boxIF ((r0.cut 6).int / ((Int.gcd (r0.cut 6).int (r1.cut 6).int : Nat) : Int)))), (14, (boxIF ((r0.cut 6).int % ((Int.gcd (r0.cut 6).int (r1.cut 6).int : Nat) : Int))))] a0 W0)
    (fin : ∀ a w, St Wb 133 [(0, (eqF r0.val_)), (1, (eqF r1.val_)), (2, (eqF r2.val_)), (6, (eqF (.bool false))), (7, (eqF (.bool true))), (88, (eqF (.bool false))), (91, (eqF (.bool false)))] [(3, (rawBF (r0.cut 6))), (4, (rawBF (r1.cut 6))), (5, (rawBF (r2.cut 2))), (8, (boxIF (r0.cut 6).int)), (9, (boxIF (r1.cut 6).int)), (10, (boxIF (r2.cut 2).int)), (11, (boxIF ((Int.gcd (r0.cut 6).int (r1.cut 6).int : Nat) : Int))), (12, (boxIF ((Int.gcd ((r0.cut 6).int * (r2.cut 2).int) ((r1.cut 6).int * (r2.cut 2).int) : Nat) : Int))), (13, (boxIF ((r0.cut 6).int / ((Int.gcd (r0.cut 6).int (r1.cut 6).int : Nat) : Int)))), (14, (boxIF ((r0.cut 6).int % ((Int.gcd (r0.cut 6).int (r1.cut 6).int : Nat) : Int)))), (16, (boxIF ((r1.cut 6).int / ((Int.gcd (r0.cut 6).int (r1.cut 6).int : Nat) : Int)))), (17, (boxIF ((r1.cut 6).int % ((Int.gcd (r0.cut 6).int (r1.cut 6).int : Nat) : Int))))] a w → Q .normal a w) : (Code.region 10 gl_o10 false).wp Tryd.prog Q a0 W0 := by
  have hP : Plan gl_o10 133 ([⟨3, none, none, (rawBF (r0.cut 6)), (rawBF (r0.cut 6))⟩, ⟨4, none, none, (rawBF (r1.cut 6)), (rawBF (r1.cut 6))⟩, ⟨5, none, none, (rawBF (r2.cut 2)), (rawBF (r2.cut 2))⟩, ⟨8, none, none, (boxIF (r0.cut 6).int), (boxIF (r0.cut 6).int)⟩, ⟨9, none, none, (boxIF (r1.cut 6).int), (boxIF (r1.cut 6).int)⟩, ⟨10, none, none, (boxIF (r2.cut 2).int), (boxIF (r2.cut 2).int)⟩, ⟨11, none, none, (boxIF ((Int.gcd (r0.cut 6).int (r1.cut 6).int : Nat) : Int)), (boxIF ((Int.gcd (r0.cut 6).int (r1.cut 6).int : Nat) : Int))⟩, ⟨12, none, none, (boxIF ((Int.gcd ((r0.cut 6).int * (r2.cut 2).int) ((r1.cut 6).int * (r2.cut 2).int) : Nat) : Int)), (boxIF ((Int.gcd ((r0.cut 6).int * (r2.cut 2).int) ((r1.cut 6).int * (r2.cut 2).int) : Nat) : Int))⟩, ⟨13, none, none, (boxIF ((r0.cut 6).int / ((Int.gcd (r0.cut 6).int (r1.cut 6).int : Nat) : Int))), (boxIF ((r0.cut 6).int / ((Int.gcd (r0.cut 6).int (r1.cut 6).int : Nat) : Int)))⟩, ⟨14, none, none, (boxIF ((r0.cut 6).int % ((Int.gcd (r0.cut 6).int (r1.cut 6).int : Nat) : Int))), (boxIF ((r0.cut 6).int % ((Int.gcd (r0.cut 6).int (r1.cut 6).int : Nat) : Int)))⟩, ⟨16, some 7, some 9, zeroIF, (boxIF ((r1.cut 6).int / ((Int.gcd (r0.cut 6).int (r1.cut 6).int : Nat) : Int)))⟩, ⟨17, some 8, some 10, zeroIF, (boxIF ((r1.cut 6).int % ((Int.gcd (r0.cut 6).int (r1.cut 6).int : Nat) : Int)))⟩] : List BoxS) [] := ⟨by kernel_rfl, by kernel_rfl, by kernel_rfl, by kernel_rfl, by kernel_rfl, by kernel_rfl⟩
  refine region_st (F := [(intF (r1.cut 6).int), (intF ((Int.gcd (r0.cut 6).int (r1.cut 6).int : Nat) : Int)), (tup3F (intF ((r1.cut 6).int / ((Int.gcd (r0.cut 6).int (r1.cut 6).int : Nat) : Int))) (intF ((r1.cut 6).int % ((Int.gcd (r0.cut 6).int (r1.cut 6).int : Nat) : Int))) (eqF (.int .i64 0))), (tup3F (intF ((r1.cut 6).int / ((Int.gcd (r0.cut 6).int (r1.cut 6).int : Nat) : Int))) (intF ((r1.cut 6).int % ((Int.gcd (r0.cut 6).int (r1.cut 6).int : Nat) : Int))) (eqF (.int .i64 0))), (intF ((r1.cut 6).int / ((Int.gcd (r0.cut 6).int (r1.cut 6).int : Nat) : Int))), (intF ((r1.cut 6).int % ((Int.gcd (r0.cut 6).int (r1.cut 6).int : Nat) : Int))), (eqF (.int .i64 0)), anyF, anyF, anyF, anyF, (eqF (.int .i64 0))]) hP hst rfl rfl ?_ ?_ fin
  · show Steps gl_o10 133 Wb W0 a0 _ _ _ 12
    refine steps_snoc (k := 11) ?_ (s_assign (i := 11) hP (g := none) (isOp_of (by kernel_rfl) : IsOp gl_o10 11 none (.assign (.tmp 116))) (by kernel_rfl) (by kernel_rfl) (grd_none) (src_op (f := (eqF (.int .i64 0))) 6 (by kernel_rfl) (by kernel_rfl) rfl) rfl)
    refine steps_snoc (k := 10) ?_ (s_store (i := 10) 11 _ (isOp_of (by kernel_rfl) : IsOp gl_o10 10 none (.store 27 (.tmp 17) (.tmp 115))) (by kernel_rfl) rfl rfl rfl (by kernel_rfl) (by kernel_rfl) (by kernel_rfl) (src_op (f := (intF ((r1.cut 6).int % ((Int.gcd (r0.cut 6).int (r1.cut 6).int : Nat) : Int)))) 5 (by kernel_rfl) (by kernel_rfl) rfl) (storeI_zero _))
    refine steps_snoc (k := 9) ?_ (s_store (i := 9) 10 _ (isOp_of (by kernel_rfl) : IsOp gl_o10 9 none (.store 27 (.tmp 16) (.tmp 114))) (by kernel_rfl) rfl rfl rfl (by kernel_rfl) (by kernel_rfl) (by kernel_rfl) (src_op (f := (intF ((r1.cut 6).int / ((Int.gcd (r0.cut 6).int (r1.cut 6).int : Nat) : Int)))) 4 (by kernel_rfl) (by kernel_rfl) rfl) (storeI_zero _))
    refine steps_snoc (k := 8) ?_ (s_alloc (i := 8) (d := 17) hP 11 _ (isOp_of (by kernel_rfl) : IsOp gl_o10 8 none (.alloc 27)) (by kernel_rfl) rfl rfl rfl (by kernel_rfl) (by kernel_rfl) (by kernel_rfl) (by kernel_rfl) rfl allocI_run allocI_old)
    refine steps_snoc (k := 7) ?_ (s_alloc (i := 7) (d := 16) hP 10 _ (isOp_of (by kernel_rfl) : IsOp gl_o10 7 none (.alloc 27)) (by kernel_rfl) rfl rfl rfl (by kernel_rfl) (by kernel_rfl) (by kernel_rfl) (by kernel_rfl) rfl allocI_run allocI_old)
    refine steps_snoc (k := 6) ?_ (s_op1 (i := 6) hP (g := none) (isOp_of (by kernel_rfl) : IsOp gl_o10 6 none (.extract (.tmp 110) 2)) (by kernel_rfl) (by kernel_rfl) (grd_none) (src_op (f := (tup3F (intF ((r1.cut 6).int / ((Int.gcd (r0.cut 6).int (r1.cut 6).int : Nat) : Int))) (intF ((r1.cut 6).int % ((Int.gcd (r0.cut 6).int (r1.cut 6).int : Nat) : Int))) (eqF (.int .i64 0)))) 3 (by kernel_rfl) (by kernel_rfl) rfl) (fun ρ w hx => h_ext3_2 hx) rfl)
    refine steps_snoc (k := 5) ?_ (s_op1 (i := 5) hP (g := none) (isOp_of (by kernel_rfl) : IsOp gl_o10 5 none (.extract (.tmp 110) 1)) (by kernel_rfl) (by kernel_rfl) (grd_none) (src_op (f := (tup3F (intF ((r1.cut 6).int / ((Int.gcd (r0.cut 6).int (r1.cut 6).int : Nat) : Int))) (intF ((r1.cut 6).int % ((Int.gcd (r0.cut 6).int (r1.cut 6).int : Nat) : Int))) (eqF (.int .i64 0)))) 3 (by kernel_rfl) (by kernel_rfl) rfl) (fun ρ w hx => h_ext3_1 hx) rfl)
    refine steps_snoc (k := 4) ?_ (s_op1 (i := 4) hP (g := none) (isOp_of (by kernel_rfl) : IsOp gl_o10 4 none (.extract (.tmp 110) 0)) (by kernel_rfl) (by kernel_rfl) (grd_none) (src_op (f := (tup3F (intF ((r1.cut 6).int / ((Int.gcd (r0.cut 6).int (r1.cut 6).int : Nat) : Int))) (intF ((r1.cut 6).int % ((Int.gcd (r0.cut 6).int (r1.cut 6).int : Nat) : Int))) (eqF (.int .i64 0)))) 3 (by kernel_rfl) (by kernel_rfl) rfl) (fun ρ w hx => h_ext3_0 hx) rfl)
    refine steps_snoc (k := 3) ?_ (s_move (i := 3) hP (g := none) (isOp_of (by kernel_rfl) : IsOp gl_o10 3 none (.move (.tmp 113))) (by kernel_rfl) (by kernel_rfl) (grd_none) (src_op (f := (tup3F (intF ((r1.cut 6).int / ((Int.gcd (r0.cut 6).int (r1.cut 6).int : Nat) : Int))) (intF ((r1.cut 6).int % ((Int.gcd (r0.cut 6).int (r1.cut 6).int : Nat) : Int))) (eqF (.int .i64 0)))) 2 (by kernel_rfl) (by kernel_rfl) rfl) rfl)
    refine steps_snoc (k := 2) ?_ (s_call2 (i := 2) hP (g := none) (isOp_of (by kernel_rfl) : IsOp gl_o10 2 none (.call { callee := .value (.func 35), args := #[.tmp 111, .tmp 112], argTypes := #[27, 27] })) (by kernel_rfl) (by kernel_rfl) (grd_none) (src_op (f := (intF (r1.cut 6).int)) 0 (by kernel_rfl) (by kernel_rfl) rfl) (src_op (f := (intF ((Int.gcd (r0.cut 6).int (r1.cut 6).int : Nat) : Int))) 1 (by kernel_rfl) (by kernel_rfl) rfl) glpl_quadrature_quadratureref01_DivMod (fun w v0 v1 hb h0 h1 => kRDivMod h0 h1 (k1.cutSm 6) (sm_gcd (k0.cutSm 6) (k1.cutSm 6)) (by first | decide | assumption | omega) (by first | decide | assumption | omega) hz) rfl)
    refine steps_snoc (k := 1) ?_ (s_load (i := 1) hP (g := none) (isOp_of (by kernel_rfl) : IsOp gl_o10 1 none (.load 27 (.tmp 11))) (by kernel_rfl) (by kernel_rfl) (grd_none) (bsrc_old 6 _ rfl rfl rfl (by kernel_rfl) (by kernel_rfl)) (fun w q h => loadI_int w q h) rfl)
    refine steps_snoc (k := 0) ?_ (s_load (i := 0) hP (g := none) (isOp_of (by kernel_rfl) : IsOp gl_o10 0 none (.load 27 (.tmp 9))) (by kernel_rfl) (by kernel_rfl) (grd_none) (bsrc_old 4 _ rfl rfl rfl (by kernel_rfl) (by kernel_rfl)) (fun w q h => loadI_int w q h) rfl)
    exact steps_nil
  · intro m a w hI hm
    exact ⟨(low_fact hst 0 rfl (by kernel_rfl) hI), (low_fact hst 1 rfl (by kernel_rfl) hI), (low_fact hst 2 rfl (by kernel_rfl) hI), (low_fact hst 3 rfl (by kernel_rfl) hI), (low_fact hst 4 rfl (by kernel_rfl) hI), (low_fact hst 5 rfl (by kernel_rfl) hI), (low_fact hst 6 rfl (by kernel_rfl) hI), trivial⟩
set_option maxRecDepth 100000 in
theorem gl_r11 {Q : Exit → Act → World → Prop} {Wb W0 : World} {a0 : Act} {r0 r1 r2 : RawArg} (_hS : Sanity) (_ht : P10 Wb) (k0 : r0.Ok Wb) (k1 : r1.Ok Wb) (_k2 : r2.Ok Wb) (hz : ((Int.gcd (r0.cut 6).int (r1.cut 6).int : Nat) : Int) ≠ 0) (hst : St Wb 133 [(0, (eqF r0.val_)), (1, (eqF r1.val_)), (2, (eqF r2.val_)), (6, (eqF (.bool false))), (7, (eqF (.bool true))), (88, (eqF (.bool false))), (91, (eqF (.bool false)))] [(3, (rawBF (r0.cut 6))), (4, (rawBF (r1.cut 6))), (5, (rawBF (r2.cut 2))), (8, (boxIF (r0.cut 6).int)), (9, (boxIF (r1.cut 6).int)), (10, (boxIF (r2.cut 2).int)), (11, (boxIF ((Int.gcd (r0.cut 6).int (r1.cut 6).int : Nat) : Int))), (12, (boxIF ((Int.gcd ((r0.cut 6).int * (r2.cut 2).int) ((r1.cut 6).int * (r2.cut 2).int) : Nat) : Int))), (13, (boxIF ((r0.cut 6).int / ((Int.gcd (r0.cut 6).int (r1.cut 6).int : Nat) : Int)))), (14, (boxIF ((r0.cut 6).int % ((Int.gcd (r0.cut 6).int (r1.cut 6).int : Nat) : Int)))), (16, (boxIF ((r1.cut 6).int / ((Int.gcd (r0.cut 6).int (r1.cut 6).int : Nat) : Int)))), (17, (boxIF ((r1.cut 6).int % ((Int.gcd (r0.cut 6).int (r1.cut 6).int : Nat) : Int))))] a0 W0)
    (fin : ∀ a w, St Wb 133 [(0, (eqF r0.val_)), (1, (eqF r1.val_)), (2, (eqF r2.val_)), (6, (eqF (.bool true))), (7, (eqF (.bool true))), (88, (eqF (.bool false))), (91, (eqF (.bool false)))] [(3, (rawBF (r0.cut 6))), (4, (rawBF (r1.cut 6))), (5, (rawBF (r2.cut 2))), (8, (boxIF (r0.cut 6).int)), (9, (boxIF (r1.cut 6).int)), (10, (boxIF (r2.cut 2).int)), (11, (boxIF ((Int.gcd (r0.cut 6).int (r1.cut 6).int : Nat) : Int))), (12, (boxIF ((Int.gcd ((r0.cut 6).int * (r2.cut 2).int) ((r1.cut 6).int * (r2.cut 2).int) : Nat) : Int))), (13, (boxIF ((r0.cut 6).int / ((Int.gcd (r0.cut 6).int (r1.cut 6).int : Nat) : Int)))), (14, (boxIF ((r0.cut 6).int % ((Int.gcd (r0.cut 6).int (r1.cut 6).int : Nat) : Int)))), (16, (boxIF ((r1.cut 6).int / ((Int.gcd (r0.cut 6).int (r1.cut 6).int : Nat) : Int)))), (17, (boxIF ((r1.cut 6).int % ((Int.gcd (r0.cut 6).int (r1.cut 6).int : Nat) : Int))))] a w → Q .normal a w) : (Code.region 11 gl_o11 false).wp Tryd.prog Q a0 W0 := by
  have hP : Plan gl_o11 133 ([⟨3, none, none, (rawBF (r0.cut 6)), (rawBF (r0.cut 6))⟩, ⟨4, none, none, (rawBF (r1.cut 6)), (rawBF (r1.cut 6))⟩, ⟨5, none, none, (rawBF (r2.cut 2)), (rawBF (r2.cut 2))⟩, ⟨8, none, none, (boxIF (r0.cut 6).int), (boxIF (r0.cut 6).int)⟩, ⟨9, none, none, (boxIF (r1.cut 6).int), (boxIF (r1.cut 6).int)⟩, ⟨10, none, none, (boxIF (r2.cut 2).int), (boxIF (r2.cut 2).int)⟩, ⟨11, none, none, (boxIF ((Int.gcd (r0.cut 6).int (r1.cut 6).int : Nat) : Int)), (boxIF ((Int.gcd (r0.cut 6).int (r1.cut 6).int : Nat) : Int))⟩, ⟨12, none, none, (boxIF ((Int.gcd ((r0.cut 6).int * (r2.cut 2).int) ((r1.cut 6).int * (r2.cut 2).int) : Nat) : Int)), (boxIF ((Int.gcd ((r0.cut 6).int * (r2.cut 2).int) ((r1.cut 6).int * (r2.cut 2).int) : Nat) : Int))⟩, ⟨13, none, none, (boxIF ((r0.cut 6).int / ((Int.gcd (r0.cut 6).int (r1.cut 6).int : Nat) : Int))), (boxIF ((r0.cut 6).int / ((Int.gcd (r0.cut 6).int (r1.cut 6).int : Nat) : Int)))⟩, ⟨14, none, none, (boxIF ((r0.cut 6).int % ((Int.gcd (r0.cut 6).int (r1.cut 6).int : Nat) : Int))), (boxIF ((r0.cut 6).int % ((Int.gcd (r0.cut 6).int (r1.cut 6).int : Nat) : Int)))⟩, ⟨16, none, none, (boxIF ((r1.cut 6).int / ((Int.gcd (r0.cut 6).int (r1.cut 6).int : Nat) : Int))), (boxIF ((r1.cut 6).int / ((Int.gcd (r0.cut 6).int (r1.cut 6).int : Nat) : Int)))⟩, ⟨17, none, none, (boxIF ((r1.cut 6).int % ((Int.gcd (r0.cut 6).int (r1.cut 6).int : Nat) : Int))), (boxIF ((r1.cut 6).int % ((Int.gcd (r0.cut 6).int (r1.cut 6).int : Nat) : Int)))⟩] : List BoxS) [] := ⟨by kernel_rfl, by kernel_rfl, by kernel_rfl, by kernel_rfl, by kernel_rfl, by kernel_rfl⟩
  refine region_st (F := [(intF ((Int.gcd (r0.cut 6).int (r1.cut 6).int : Nat) : Int)), (eqF (.int .i64 (Int.sign ((Int.gcd (r0.cut 6).int (r1.cut 6).int : Nat) : Int)))), (eqF (.bool true)), (eqF (.bool true)), (intF ((r0.cut 6).int % ((Int.gcd (r0.cut 6).int (r1.cut 6).int : Nat) : Int))), (eqF (.int .i64 (Int.sign ((r0.cut 6).int % ((Int.gcd (r0.cut 6).int (r1.cut 6).int : Nat) : Int))))), (eqF (.bool true)), (eqF (.bool true)), (eqF (.bool true)), (intF ((r1.cut 6).int % ((Int.gcd (r0.cut 6).int (r1.cut 6).int : Nat) : Int))), (eqF (.int .i64 (Int.sign ((r1.cut 6).int % ((Int.gcd (r0.cut 6).int (r1.cut 6).int : Nat) : Int))))), (eqF (.bool true)), (eqF (.bool true)), (eqF (.bool true)), (eqF (.bool true)), (eqF (.bool true)), (eqF (.bool true))]) hP hst rfl rfl ?_ ?_ fin
  · show Steps gl_o11 133 Wb W0 a0 _ _ _ 17
    refine steps_snoc (k := 16) ?_ (s_assign (i := 16) hP (g := none) (isOp_of (by kernel_rfl) : IsOp gl_o11 16 none (.assign (.tmp 132))) (by kernel_rfl) (by kernel_rfl) (grd_none) (src_op (f := (eqF (.bool true))) 15 (by kernel_rfl) (by kernel_rfl) rfl) rfl)
    refine steps_snoc (k := 15) ?_ (s_pickT (i := 15) hP (g := none) (isOp_of (by kernel_rfl) : IsOp gl_o11 15 none (.pick (.tmp 130) (.tmp 131) (.const (.bool false)))) (by kernel_rfl) (by kernel_rfl) (grd_none) (src_op (f := (eqF (.bool true))) 13 (by kernel_rfl) (by kernel_rfl) rfl) (src_op (f := (eqF (.bool true))) 14 (by kernel_rfl) (by kernel_rfl) rfl) rfl)
    refine steps_snoc (k := 14) ?_ (s_move (i := 14) hP (g := (some (13, true))) (isOp_of (by kernel_rfl) : IsOp gl_o11 14 (some (13, true)) (.move (.tmp 7))) (by kernel_rfl) (by kernel_rfl) (grd_op (d := 130) (by kernel_rfl) (by kernel_rfl) rfl rfl) (src_low hst 4 rfl (by kernel_rfl)) rfl)
    refine steps_snoc (k := 13) ?_ (s_move (i := 13) hP (g := none) (isOp_of (by kernel_rfl) : IsOp gl_o11 13 none (.move (.tmp 129))) (by kernel_rfl) (by kernel_rfl) (grd_none) (src_op (f := (eqF (.bool true))) 12 (by kernel_rfl) (by kernel_rfl) rfl) rfl)
    refine steps_snoc (k := 12) ?_ (s_pickT (i := 12) hP (g := none) (isOp_of (by kernel_rfl) : IsOp gl_o11 12 none (.pick (.tmp 125) (.tmp 128) (.const (.bool false)))) (by kernel_rfl) (by kernel_rfl) (grd_none) (src_op (f := (eqF (.bool true))) 8 (by kernel_rfl) (by kernel_rfl) rfl) (src_op (f := (eqF (.bool true))) 11 (by kernel_rfl) (by kernel_rfl) rfl) rfl)
    refine steps_snoc (k := 11) ?_ (s_op2 (i := 11) hP (g := (some (8, true))) (isOp_of (by kernel_rfl) : IsOp gl_o11 11 (some (8, true)) (.binOp .eql 3 (.tmp 127) (.const (.int .i64 0)) 3)) (by kernel_rfl) (by kernel_rfl) (grd_op (d := 125) (by kernel_rfl) (by kernel_rfl) rfl rfl) (src_op (f := (eqF (.int .i64 (Int.sign ((r1.cut 6).int % ((Int.gcd (r0.cut 6).int (r1.cut 6).int : Nat) : Int)))))) 10 (by kernel_rfl) (by kernel_rfl) rfl) (src_const _) (fun ρ w hx hy => h_eqlI (r := true) (dvd_r _ _) hx hy) rfl)
    refine steps_snoc (k := 10) ?_ (s_call1 (i := 10) hP (g := (some (8, true))) (isOp_of (by kernel_rfl) : IsOp gl_o11 10 (some (8, true)) (.call { callee := .value (.func 29), args := #[.tmp 126], argTypes := #[27] })) (by kernel_rfl) (by kernel_rfl) (grd_op (d := 125) (by kernel_rfl) (by kernel_rfl) rfl rfl) (src_op (f := (intF ((r1.cut 6).int % ((Int.gcd (r0.cut 6).int (r1.cut 6).int : Nat) : Int)))) 9 (by kernel_rfl) (by kernel_rfl) rfl) glpl_quadrature_quadratureref01_Sign (fun w v0 hb h0 => kRSign h0 ((sm_gcd (k0.cutSm 6) (k1.cutSm 6)).mod hz) (by first | decide | assumption | omega)) rfl)
    refine steps_snoc (k := 9) ?_ (s_load (i := 9) hP (g := (some (8, true))) (isOp_of (by kernel_rfl) : IsOp gl_o11 9 (some (8, true)) (.load 27 (.tmp 17))) (by kernel_rfl) (by kernel_rfl) (grd_op (d := 125) (by kernel_rfl) (by kernel_rfl) rfl rfl) (bsrc_old 11 _ rfl rfl rfl (by kernel_rfl) (by kernel_rfl)) (fun w q h => loadI_int w q h) rfl)
    refine steps_snoc (k := 8) ?_ (s_move (i := 8) hP (g := none) (isOp_of (by kernel_rfl) : IsOp gl_o11 8 none (.move (.tmp 124))) (by kernel_rfl) (by kernel_rfl) (grd_none) (src_op (f := (eqF (.bool true))) 7 (by kernel_rfl) (by kernel_rfl) rfl) rfl)
    refine steps_snoc (k := 7) ?_ (s_pickT (i := 7) hP (g := none) (isOp_of (by kernel_rfl) : IsOp gl_o11 7 none (.pick (.tmp 120) (.tmp 123) (.const (.bool false)))) (by kernel_rfl) (by kernel_rfl) (grd_none) (src_op (f := (eqF (.bool true))) 3 (by kernel_rfl) (by kernel_rfl) rfl) (src_op (f := (eqF (.bool true))) 6 (by kernel_rfl) (by kernel_rfl) rfl) rfl)
    refine steps_snoc (k := 6) ?_ (s_op2 (i := 6) hP (g := (some (3, true))) (isOp_of (by kernel_rfl) : IsOp gl_o11 6 (some (3, true)) (.binOp .eql 3 (.tmp 122) (.const (.int .i64 0)) 3)) (by kernel_rfl) (by kernel_rfl) (grd_op (d := 120) (by kernel_rfl) (by kernel_rfl) rfl rfl) (src_op (f := (eqF (.int .i64 (Int.sign ((r0.cut 6).int % ((Int.gcd (r0.cut 6).int (r1.cut 6).int : Nat) : Int)))))) 5 (by kernel_rfl) (by kernel_rfl) rfl) (src_const _) (fun ρ w hx hy => h_eqlI (r := true) (dvd_l _ _) hx hy) rfl)
    refine steps_snoc (k := 5) ?_ (s_call1 (i := 5) hP (g := (some (3, true))) (isOp_of (by kernel_rfl) : IsOp gl_o11 5 (some (3, true)) (.call { callee := .value (.func 29), args := #[.tmp 121], argTypes := #[27] })) (by kernel_rfl) (by kernel_rfl) (grd_op (d := 120) (by kernel_rfl) (by kernel_rfl) rfl rfl) (src_op (f := (intF ((r0.cut 6).int % ((Int.gcd (r0.cut 6).int (r1.cut 6).int : Nat) : Int)))) 4 (by kernel_rfl) (by kernel_rfl) rfl) glpl_quadrature_quadratureref01_Sign (fun w v0 hb h0 => kRSign h0 ((sm_gcd (k0.cutSm 6) (k1.cutSm 6)).mod hz) (by first | decide | assumption | omega)) rfl)
    refine steps_snoc (k := 4) ?_ (s_load (i := 4) hP (g := (some (3, true))) (isOp_of (by kernel_rfl) : IsOp gl_o11 4 (some (3, true)) (.load 27 (.tmp 14))) (by kernel_rfl) (by kernel_rfl) (grd_op (d := 120) (by kernel_rfl) (by kernel_rfl) rfl rfl) (bsrc_old 9 _ rfl rfl rfl (by kernel_rfl) (by kernel_rfl)) (fun w q h => loadI_int w q h) rfl)
    refine steps_snoc (k := 3) ?_ (s_move (i := 3) hP (g := none) (isOp_of (by kernel_rfl) : IsOp gl_o11 3 none (.move (.tmp 119))) (by kernel_rfl) (by kernel_rfl) (grd_none) (src_op (f := (eqF (.bool true))) 2 (by kernel_rfl) (by kernel_rfl) rfl) rfl)
    refine steps_snoc (k := 2) ?_ (s_op2 (i := 2) hP (g := none) (isOp_of (by kernel_rfl) : IsOp gl_o11 2 none (.binOp .gtr 3 (.tmp 118) (.const (.int .i64 0)) 3)) (by kernel_rfl) (by kernel_rfl) (grd_none) (src_op (f := (eqF (.int .i64 (Int.sign ((Int.gcd (r0.cut 6).int (r1.cut 6).int : Nat) : Int))))) 1 (by kernel_rfl) (by kernel_rfl) rfl) (src_const _) (fun ρ w hx hy => h_gtr (r := true) (sgn_pos hz) hx hy) rfl)
    refine steps_snoc (k := 1) ?_ (s_call1 (i := 1) hP (g := none) (isOp_of (by kernel_rfl) : IsOp gl_o11 1 none (.call { callee := .value (.func 29), args := #[.tmp 117], argTypes := #[27] })) (by kernel_rfl) (by kernel_rfl) (grd_none) (src_op (f := (intF ((Int.gcd (r0.cut 6).int (r1.cut 6).int : Nat) : Int))) 0 (by kernel_rfl) (by kernel_rfl) rfl) glpl_quadrature_quadratureref01_Sign (fun w v0 hb h0 => kRSign h0 (sm_gcd (k0.cutSm 6) (k1.cutSm 6)) (by first | decide | assumption | omega)) rfl)
    refine steps_snoc (k := 0) ?_ (s_load (i := 0) hP (g := none) (isOp_of (by kernel_rfl) : IsOp gl_o11 0 none (.load 27 (.tmp 11))) (by kernel_rfl) (by kernel_rfl) (grd_none) (bsrc_old 6 _ rfl rfl rfl (by kernel_rfl) (by kernel_rfl)) (fun w q h => loadI_int w q h) rfl)
    exact steps_nil
  · intro m a w hI hm
    exact ⟨(low_fact hst 0 rfl (by kernel_rfl) hI), (low_fact hst 1 rfl (by kernel_rfl) hI), (low_fact hst 2 rfl (by kernel_rfl) hI), (out_op hI hm 16 6 _ (by kernel_rfl) rfl), (low_fact hst 4 rfl (by kernel_rfl) hI), (low_fact hst 5 rfl (by kernel_rfl) hI), (low_fact hst 6 rfl (by kernel_rfl) hI), trivial⟩
set_option maxRecDepth 100000 in
theorem Gcd_law (hS : Sanity) (r0 r1 r2 : RawArg) (W : World) (k0 : r0.Ok W) (k1 : r1.Ok W) (k2 : r2.Ok W) (ht : P10 W) :
    Calls Tryd.prog 8 #[r0.val_, r1.val_, r2.val_] W (GivesP (eqF (.bool true)) W) := by
  refine calls_stW (S := [(0, (eqF r0.val_)), (1, (eqF r1.val_)), (2, (eqF r2.val_))]) Tryd.func8 (by kernel_rfl) Tryd.ntmps8 (by simp) (fun x hx => ?_) fun a w hst => ?_
  · simp only [List.mem_cons, List.not_mem_nil, or_false] at hx
    rcases hx with rfl | rfl | rfl
    · exact ⟨_, rfl, rfl⟩
    · exact ⟨_, rfl, rfl⟩
    · exact ⟨_, rfl, rfl⟩
  show Code.wp _ gl_n0 _ a w
  by_cases hz : ((Int.gcd (r0.cut 6).int (r1.cut 6).int : Nat) : Int) = 0
  · have hz2 := Int.gcd_eq_zero_iff.1 (Int.ofNat_eq_zero.1 hz)
    have za := hz2.1
    have zb := hz2.2
    rw [gl_e0]
    refine wp_seq ?_
    rw [gl_e1]
    refine gl_r0 hS ht k0 k1 k2 hst ?_
    clear hst
    intro a w hst
    show Code.wp _ gl_n2 _ a w
    rw [gl_e2]
    refine wp_seq ?_
    rw [gl_e3]
    refine gl_r1 hS ht k0 k1 k2 hst ?_
    clear hst
    intro a w hst
    show Code.wp _ gl_n4 _ a w
    rw [gl_e4]
    refine wp_seq ?_
    rw [gl_e5]
    refine gl_r2 hS ht k0 k1 k2 hst ?_
    clear hst
    intro a w hst
    show Code.wp _ gl_n6 _ a w
    rw [gl_e6]
    refine wp_seq ?_
    rw [gl_e7]
    refine gl_r3 hS ht k0 k1 k2 hst ?_
    clear hst
    intro a w hst
    show Code.wp _ gl_n8 _ a w
    rw [gl_e8]
    refine wp_seq ?_
    rw [gl_e9]
    refine gl_r4 hS ht k0 k1 k2 hst ?_
    clear hst
    intro a w hst
    show Code.wp _ gl_n10 _ a w
    rw [gl_e10]
    refine wp_seq ?_
    rw [gl_e11]
    refine wp_seq ?_
    rw [gl_e13]
    refine gl_r5 hS ht k0 k1 k2 hst ?_
    clear hst
    intro a w hst
    show Code.wp _ gl_n14 _ a w
    rw [gl_e14]
    refine wp_cond_false (st_bool hst 5 rfl) ?_
    show Code.wp _ gl_n16 _ a w
    rw [gl_e16]
    refine wp_skip ?_
    show Code.wp _ gl_n12 _ a w
    rw [gl_e12]
    refine wp_seq ?_
    rw [gl_e19]
    refine wp_seq ?_
    rw [gl_e21]
    refine gl_r7 hS ht k0 k1 k2 hz za zb hst ?_
    clear hst
    intro a w hst
    show Code.wp _ gl_n22 _ a w
    rw [gl_e22]
    refine wp_cond_true (st_bool hst 6 rfl) ?_
    show Code.wp _ gl_n23 _ a w
    rw [gl_e23]
    refine wp_seq ?_
    rw [gl_e25]
    refine gl_r8 hS ht k0 k1 k2 hz za zb hst ?_
    clear hst
    intro a w hst
    show Code.wp _ gl_n26 _ a w
    rw [gl_e26]
    refine wp_ret ?_
    exact ret_tmp hst rfl 3 rfl
  · rw [gl_e0]
    refine wp_seq ?_
    rw [gl_e1]
    refine gl_r0 hS ht k0 k1 k2 hst ?_
    clear hst
    intro a w hst
    show Code.wp _ gl_n2 _ a w
    rw [gl_e2]
    refine wp_seq ?_
    rw [gl_e3]
    refine gl_r1 hS ht k0 k1 k2 hst ?_
    clear hst
    intro a w hst
    show Code.wp _ gl_n4 _ a w
    rw [gl_e4]
    refine wp_seq ?_
    rw [gl_e5]
    refine gl_r2 hS ht k0 k1 k2 hst ?_
    clear hst
    intro a w hst
    show Code.wp _ gl_n6 _ a w
    rw [gl_e6]
    refine wp_seq ?_
    rw [gl_e7]
    refine gl_r3 hS ht k0 k1 k2 hst ?_
    clear hst
    intro a w hst
    show Code.wp _ gl_n8 _ a w
    rw [gl_e8]
    refine wp_seq ?_
    rw [gl_e9]
    refine gl_r4 hS ht k0 k1 k2 hst ?_
    clear hst
    intro a w hst
    show Code.wp _ gl_n10 _ a w
    rw [gl_e10]
    refine wp_seq ?_
    rw [gl_e11]
    refine wp_seq ?_
    rw [gl_e13]
    refine gl_r5 hS ht k0 k1 k2 hst ?_
    clear hst
    intro a w hst
    show Code.wp _ gl_n14 _ a w
    rw [gl_e14]
    refine wp_cond_false (st_bool hst 5 rfl) ?_
    show Code.wp _ gl_n16 _ a w
    rw [gl_e16]
    refine wp_skip ?_
    show Code.wp _ gl_n12 _ a w
    rw [gl_e12]
    refine wp_seq ?_
    rw [gl_e19]
    refine wp_seq ?_
    rw [gl_e21]
    refine gl_r7b hS ht k0 k1 k2 hz hst ?_
    clear hst
    intro a w hst
    show Code.wp _ gl_n22 _ a w
    rw [gl_e22]
    refine wp_cond_false (st_bool hst 6 rfl) ?_
    show Code.wp _ gl_n24 _ a w
    rw [gl_e24]
    refine wp_skip ?_
    show Code.wp _ gl_n20 _ a w
    rw [gl_e20]
    refine wp_seq ?_
    rw [gl_e27]
    refine gl_r9 hS ht k0 k1 k2 hz hst ?_
    clear hst
    intro a w hst
    show Code.wp _ gl_n28 _ a w
    rw [gl_e28]
    refine wp_seq ?_
    rw [gl_e29]
    refine gl_r10 hS ht k0 k1 k2 hz hst ?_
    clear hst
    intro a w hst
    show Code.wp _ gl_n30 _ a w
    rw [gl_e30]
    refine wp_seq ?_
    rw [gl_e31]
    refine gl_r11 hS ht k0 k1 k2 hz hst ?_
    clear hst
    intro a w hst
    show Code.wp _ gl_n32 _ a w
    rw [gl_e32]
    refine wp_ret ?_
    exact ret_tmp hst rfl 3 rfl
end Go.Proofs.YtjajmonhcnmidaaDoor
