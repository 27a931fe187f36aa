/- The law IntegerPowers answers true, given the fixed examples (written by wip/tools/gen_powers.py). -/
import Derived.Test.YtjajmonhcnmidaaDoorqRPow
namespace Go.Proofs.YtjajmonhcnmidaaDoor
open Go.RowKit

theorem mod_of (a : Int) (h : 0 ≤ a) : ∃ m : Nat, a.tmod 20 = (m : Int) ∧ m ≤ 19 := by
  obtain ⟨n, rfl⟩ := Int.eq_ofNat_of_zero_le h
  exact ⟨n % 20, by rw [Int.tmod_eq_emod_of_nonneg h]; omega, by omega⟩
theorem kRPow {w : World} {va vn : Value} {z : Int} {c n : Nat} (ha : (intF z).p va w) (hv : (eqF (.int .i64 (n : Int))).p vn w) (hs : Sm z c) (hn : n ≤ 256) (hb : c * n + 1 ≤ 1000) (hb2 : c ≤ 1000) : Calls Tryd.prog 37 #[va, vn] w (GivesP (tup2F (intF (z ^ n)) (eqF (.int .i64 0))) w) := by
  have hv : vn = .int .i64 (n : Int) := hv
  subst hv
  exact RPow_any va z c n w ha hs hn hb hb2
theorem pwspl_quadrature_integer_Pow : Plainly 36 := fun _ _ => by simp [go_sem]
theorem pwspl_quadrature_quadraturelaw01_made : Plainly 12 := fun _ _ => by simp [go_sem]
theorem pwspl_quadrature_quadraturelaw01_sanity : Plainly 11 := fun _ _ => by simp [go_sem]
theorem pwspl_quadrature_quadratureref01_Mul : Plainly 24 := fun _ _ => by simp [go_sem]
theorem pwspl_quadrature_quadratureref01_Pow : Plainly 37 := fun _ _ => by simp [go_sem]
theorem pwspl_quadrature_quadratureref01_Same : Plainly 21 := fun _ _ => by simp [go_sem]
noncomputable def pws_n0 : Code := bodyOf Tryd.f9
noncomputable def pws_n1 : Code := cl pws_n0
noncomputable def pws_n2 : Code := cr pws_n0
theorem pws_e0 : pws_n0 = .seq pws_n1 pws_n2 := by kernel_rfl
noncomputable def pws_o0 : Array Oper := opsOf pws_n1
theorem pws_e1 : pws_n1 = .region 0 pws_o0 false := by kernel_rfl
noncomputable def pws_n3 : Code := cl pws_n2
noncomputable def pws_n4 : Code := cr pws_n2
theorem pws_e2 : pws_n2 = .seq pws_n3 pws_n4 := by kernel_rfl
noncomputable def pws_o1 : Array Oper := opsOf pws_n3
theorem pws_e3 : pws_n3 = .region 1 pws_o1 false := by kernel_rfl
noncomputable def pws_n5 : Code := cl pws_n4
noncomputable def pws_n6 : Code := cr pws_n4
theorem pws_e4 : pws_n4 = .seq pws_n5 pws_n6 := by kernel_rfl
noncomputable def pws_o2 : Array Oper := opsOf pws_n5
theorem pws_e5 : pws_n5 = .region 2 pws_o2 true := by kernel_rfl
noncomputable def pws_n7 : Code := cl pws_n6
noncomputable def pws_n8 : Code := cr pws_n6
theorem pws_e6 : pws_n6 = .seq pws_n7 pws_n8 := by kernel_rfl
noncomputable def pws_o3 : Array Oper := opsOf pws_n7
theorem pws_e7 : pws_n7 = .region 3 pws_o3 true := by kernel_rfl
noncomputable def pws_n9 : Code := cl pws_n8
noncomputable def pws_n10 : Code := cr pws_n8
theorem pws_e8 : pws_n8 = .seq pws_n9 pws_n10 := by kernel_rfl
noncomputable def pws_o4 : Array Oper := opsOf pws_n9
theorem pws_e9 : pws_n9 = .region 4 pws_o4 false := by kernel_rfl
noncomputable def pws_n11 : Code := cl pws_n10
noncomputable def pws_n12 : Code := cr pws_n10
theorem pws_e10 : pws_n10 = .seq pws_n11 pws_n12 := by kernel_rfl
noncomputable def pws_n13 : Code := cl pws_n11
noncomputable def pws_n14 : Code := cr pws_n11
theorem pws_e11 : pws_n11 = .seq pws_n13 pws_n14 := by kernel_rfl
noncomputable def pws_o5 : Array Oper := opsOf pws_n13
theorem pws_e13 : pws_n13 = .region 5 pws_o5 false := by kernel_rfl
noncomputable def pws_n15 : Code := cl pws_n14
noncomputable def pws_n16 : Code := cr pws_n14
theorem pws_e14 : pws_n14 = .cond (.tmp 66) pws_n15 pws_n16 := by kernel_rfl
noncomputable def pws_n17 : Code := cl pws_n15
noncomputable def pws_n18 : Code := cr pws_n15
theorem pws_e15 : pws_n15 = .seq pws_n17 pws_n18 := by kernel_rfl
noncomputable def pws_o6 : Array Oper := opsOf pws_n17
theorem pws_e17 : pws_n17 = .region 6 pws_o6 false := by kernel_rfl
theorem pws_e18 : pws_n18 = .ret := by kernel_rfl
theorem pws_e16 : pws_n16 = .skip := by kernel_rfl
noncomputable def pws_n19 : Code := cl pws_n12
noncomputable def pws_n20 : Code := cr pws_n12
theorem pws_e12 : pws_n12 = .seq pws_n19 pws_n20 := by kernel_rfl
noncomputable def pws_o7 : Array Oper := opsOf pws_n19
theorem pws_e19 : pws_n19 = .region 7 pws_o7 true := by kernel_rfl
noncomputable def pws_n21 : Code := cl pws_n20
noncomputable def pws_n22 : Code := cr pws_n20
theorem pws_e20 : pws_n20 = .seq pws_n21 pws_n22 := by kernel_rfl
noncomputable def pws_o8 : Array Oper := opsOf pws_n21
theorem pws_e21 : pws_n21 = .region 8 pws_o8 false := by kernel_rfl
noncomputable def pws_n23 : Code := cl pws_n22
noncomputable def pws_n24 : Code := cr pws_n22
theorem pws_e22 : pws_n22 = .seq pws_n23 pws_n24 := by kernel_rfl
noncomputable def pws_o9 : Array Oper := opsOf pws_n23
theorem pws_e23 : pws_n23 = .region 9 pws_o9 false := by kernel_rfl
noncomputable def pws_n25 : Code := cl pws_n24
noncomputable def pws_n26 : Code := cr pws_n24
theorem pws_e24 : pws_n24 = .seq pws_n25 pws_n26 := by kernel_rfl
noncomputable def pws_o10 : Array Oper := opsOf pws_n25
theorem pws_e25 : pws_n25 = .region 10 pws_o10 false := by kernel_rfl
noncomputable def pws_n27 : Code := cl pws_n26
noncomputable def pws_n28 : Code := cr pws_n26
theorem pws_e26 : pws_n26 = .seq pws_n27 pws_n28 := by kernel_rfl
noncomputable def pws_o11 : Array Oper := opsOf pws_n27
theorem pws_e27 : pws_n27 = .region 11 pws_o11 false := by kernel_rfl
noncomputable def pws_n29 : Code := cl pws_n28
noncomputable def pws_n30 : Code := cr pws_n28
theorem pws_e28 : pws_n28 = .seq pws_n29 pws_n30 := by kernel_rfl
noncomputable def pws_o12 : Array Oper := opsOf pws_n29
theorem pws_e29 : pws_n29 = .region 12 pws_o12 false := by kernel_rfl
noncomputable def pws_n31 : Code := cl pws_n30
noncomputable def pws_n32 : Code := cr pws_n30
theorem pws_e30 : pws_n30 = .seq pws_n31 pws_n32 := by kernel_rfl
noncomputable def pws_o13 : Array Oper := opsOf pws_n31
theorem pws_e31 : pws_n31 = .region 13 pws_o13 false := by kernel_rfl
noncomputable def pws_n33 : Code := cl pws_n32
noncomputable def pws_n34 : Code := cr pws_n32
theorem pws_e32 : pws_n32 = .seq pws_n33 pws_n34 := by kernel_rfl
noncomputable def pws_o14 : Array Oper := opsOf pws_n33
theorem pws_e33 : pws_n33 = .region 14 pws_o14 false := by kernel_rfl
noncomputable def pws_n35 : Code := cl pws_n34
noncomputable def pws_n36 : Code := cr pws_n34
theorem pws_e34 : pws_n34 = .seq pws_n35 pws_n36 := by kernel_rfl
noncomputable def pws_o15 : Array Oper := opsOf pws_n35
theorem pws_e35 : pws_n35 = .region 15 pws_o15 true := by kernel_rfl
theorem pws_e36 : pws_n36 = .ret := by kernel_rfl
set_option maxRecDepth 100000 in
theorem pws_r0 {Q : Exit → Act → World → Prop} {Wb W0 : World} {a0 : Act} {r0 r1 : RawArg} (_hS : Sanity) (_ht : P10 Wb) (_k0 : r0.Ok Wb) (_k1 : r1.Ok Wb) {p0 p1 : Int} (_hn : p0 < 0) (_hl : -9223372036854775808 ≤ p0) (hst : St Wb 171 [(0, (eqF r0.val_)), (1, (eqF r1.val_)), (2, (eqF (.agg #[.int .i64 p0, .int .i64 p1])))] [] a0 W0)
    (fin : ∀ a w, St Wb 171 [(0, (eqF r0.val_)), (1, (eqF r1.val_)), (2, (eqF (.agg #[.int .i64 p0, .int .i64 p1]))), (6, (eqF (.bool false)))] [(3, (rawBF r0)), (4, (rawBF r1)), (5, (arrBF p0 p1))] a w → Q .normal a w) : (Code.region 0 pws_o0 false).wp Tryd.prog Q a0 W0 := by
  have hP : Plan pws_o0 171 ([⟨3, some 0, none, (rawBF r0), (rawBF r0)⟩, ⟨4, some 1, none, (rawBF r1), (rawBF r1)⟩, ⟨5, some 2, none, (arrBF p0 p1), (arrBF p0 p1)⟩] : List BoxS) [] := ⟨by kernel_rfl, by kernel_rfl, by kernel_rfl, by kernel_rfl, by kernel_rfl, by kernel_rfl⟩
  refine region_st (F := [anyF, anyF, anyF, (eqF (.bool false))]) hP hst rfl rfl ?_ ?_ fin
  · show Steps pws_o0 171 Wb W0 a0 _ _ _ 4
    refine steps_snoc (k := 3) ?_ (s_assign (i := 3) hP (g := none) (isOp_of (by kernel_rfl) : IsOp pws_o0 3 none (.assign (.const (.bool false)))) (by kernel_rfl) (by kernel_rfl) (grd_none) (src_const _) rfl)
    refine steps_snoc (k := 2) ?_ (s_box (i := 2) (d := 5) hP 2 _ (isOp_of (by kernel_rfl) : IsOp pws_o0 2 none (.box 46 (.tmp 2))) (by kernel_rfl) rfl rfl rfl (by kernel_rfl) (by kernel_rfl) (by kernel_rfl) (by kernel_rfl) rfl (src_low hst 2 rfl (by kernel_rfl)) (fun w v h => boxA_run w v h))
    refine steps_snoc (k := 1) ?_ (s_box (i := 1) (d := 4) hP 1 _ (isOp_of (by kernel_rfl) : IsOp pws_o0 1 none (.box 24 (.tmp 1))) (by kernel_rfl) rfl rfl rfl (by kernel_rfl) (by kernel_rfl) (by kernel_rfl) (by kernel_rfl) rfl (src_low hst 1 rfl (by kernel_rfl)) (fun w v h => boxR_run w v h))
    refine steps_snoc (k := 0) ?_ (s_box (i := 0) (d := 3) hP 0 _ (isOp_of (by kernel_rfl) : IsOp pws_o0 0 none (.box 24 (.tmp 0))) (by kernel_rfl) rfl rfl rfl (by kernel_rfl) (by kernel_rfl) (by kernel_rfl) (by kernel_rfl) rfl (src_low hst 0 rfl (by kernel_rfl)) (fun w v h => boxR_run w v h))
    exact steps_nil
  · intro m a w hI hm
    exact ⟨(low_fact hst 0 rfl (by kernel_rfl) hI), (low_fact hst 1 rfl (by kernel_rfl) hI), (low_fact hst 2 rfl (by kernel_rfl) hI), (out_op hI hm 3 6 _ (by kernel_rfl) rfl), trivial⟩
set_option maxRecDepth 100000 in
theorem pws_r1 {Q : Exit → Act → World → Prop} {Wb W0 : World} {a0 : Act} {r0 r1 : RawArg} (hS : Sanity) (ht : P10 Wb) (_k0 : r0.Ok Wb) (_k1 : r1.Ok Wb) {p0 p1 : Int} (_hn : p0 < 0) (_hl : -9223372036854775808 ≤ p0) (hst : St Wb 171 [(0, (eqF r0.val_)), (1, (eqF r1.val_)), (2, (eqF (.agg #[.int .i64 p0, .int .i64 p1]))), (6, (eqF (.bool false)))] [(3, (rawBF r0)), (4, (rawBF r1)), (5, (arrBF p0 p1))] a0 W0)
    (fin : ∀ a w, St Wb 171 [(0, (eqF r0.val_)), (1, (eqF r1.val_)), (2, (eqF (.agg #[.int .i64 p0, .int .i64 p1]))), (6, (eqF (.bool false))), (7, (eqF (.bool true)))] [(3, (rawBF r0)), (4, (rawBF r1)), (5, (arrBF p0 p1))] a w → Q .normal a w) : (Code.region 1 pws_o1 false).wp Tryd.prog Q a0 W0 := by
  have hP : Plan pws_o1 171 ([⟨3, none, none, (rawBF r0), (rawBF r0)⟩, ⟨4, none, none, (rawBF r1), (rawBF r1)⟩, ⟨5, none, none, (arrBF p0 p1), (arrBF p0 p1)⟩] : List BoxS) [] := ⟨by kernel_rfl, by kernel_rfl, by kernel_rfl, by kernel_rfl, by kernel_rfl, by kernel_rfl⟩
  refine region_st (F := [(eqF (.bool true)), (eqF (.bool true))]) hP hst rfl rfl ?_ ?_ fin
  · show Steps pws_o1 171 Wb W0 a0 _ _ _ 2
    refine steps_snoc (k := 1) ?_ (s_assign (i := 1) hP (g := none) (isOp_of (by kernel_rfl) : IsOp pws_o1 1 none (.assign (.tmp 27))) (by kernel_rfl) (by kernel_rfl) (grd_none) (src_op (f := (eqF (.bool true))) 0 (by kernel_rfl) (by kernel_rfl) rfl) rfl)
    refine steps_snoc (k := 0) ?_ (s_call0 (i := 0) hP (g := none) (isOp_of (by kernel_rfl) : IsOp pws_o1 0 none (.call { callee := .value (.func 11), args := #[], argTypes := #[] })) (by kernel_rfl) (by kernel_rfl) (grd_none)  pwspl_quadrature_quadraturelaw01_sanity (fun w  hb  => kSanity hS ht hb) rfl)
    exact steps_nil
  · intro m a w hI hm
    exact ⟨(low_fact hst 0 rfl (by kernel_rfl) hI), (low_fact hst 1 rfl (by kernel_rfl) hI), (low_fact hst 2 rfl (by kernel_rfl) hI), (low_fact hst 3 rfl (by kernel_rfl) hI), (out_op hI hm 1 7 _ (by kernel_rfl) rfl), trivial⟩
set_option maxRecDepth 100000 in
theorem pws_r2 {Q : Exit → Act → World → Prop} {Wb W0 : World} {a0 : Act} {r0 r1 : RawArg} (_hS : Sanity) (_ht : P10 Wb) (k0 : r0.Ok Wb) (k1 : r1.Ok Wb) {p0 p1 : Int} (_hn : p0 < 0) (_hl : -9223372036854775808 ≤ p0) (hst : St Wb 171 [(0, (eqF r0.val_)), (1, (eqF r1.val_)), (2, (eqF (.agg #[.int .i64 p0, .int .i64 p1]))), (6, (eqF (.bool false))), (7, (eqF (.bool true)))] [(3, (rawBF r0)), (4, (rawBF r1)), (5, (arrBF p0 p1))] a0 W0)
    (fin : ∀ a w, St Wb 171 [(0, (eqF r0.val_)), (1, (eqF r1.val_)), (2, (eqF (.agg #[.int .i64 p0, .int .i64 p1]))), (6, (eqF (.bool false))), (7, (eqF (.bool true)))] [(3, (rawBF (r0.cut 2))), (4, (rawBF (r1.cut 1))), (5, (arrBF p0 p1))] a w → Q .normal a w) : (Code.region 2 pws_o2 true).wp Tryd.prog Q a0 W0 := by
  have hP : Plan pws_o2 171 ([⟨3, none, some 15, (rawBF r0), (rawBF (r0.cut 2))⟩, ⟨4, none, some 17, (rawBF r1), (rawBF (r1.cut 1))⟩, ⟨5, none, none, (arrBF p0 p1), (arrBF p0 p1)⟩] : List BoxS) [(0, 3, 0), (2, 3, 0), (7, 4, 0), (9, 4, 0), (14, 3, 0), (16, 4, 0)] := ⟨by kernel_rfl, by kernel_rfl, by kernel_rfl, by kernel_rfl, by kernel_rfl, by kernel_rfl⟩
  refine region_st (F := [anyF, (eqF (.slice r0.A r0.k r0.c)), anyF, (eqF (.slice r0.A r0.k r0.c)), (eqF (.int .i64 (r0.k : Int))), (eqF (.int .i64 ((min r0.k 2 : Nat) : Int))), (eqF (.slice r0.A (min r0.k 2) r0.c)), anyF, (eqF (.slice r1.A r1.k r1.c)), anyF, (eqF (.slice r1.A r1.k r1.c)), (eqF (.int .i64 (r1.k : Int))), (eqF (.int .i64 ((min r1.k 1 : Nat) : Int))), (eqF (.slice r1.A (min r1.k 1) r1.c)), anyF, anyF, anyF, anyF]) hP hst rfl rfl ?_ ?_ fin
  · show Steps pws_o2 171 Wb W0 a0 _ _ _ 18
    refine steps_snoc (k := 17) ?_ (s_storeAt (i := 17) (d := 43) 1 _ 16 (isOp_of (by kernel_rfl) : IsOp pws_o2 17 none (.store 22 (.tmp 43) (.tmp 41))) (by kernel_rfl) rfl rfl rfl (by kernel_rfl) (by kernel_rfl) (by kernel_rfl) (by kernel_rfl) (by kernel_rfl) (by kernel_rfl) (src_op (f := (eqF (.slice r1.A (min r1.k 1) r1.c))) 13 (by kernel_rfl) (by kernel_rfl) rfl) storeRawMag)
    refine steps_snoc (k := 16) ?_ (step_addr (i := 16) (d := 43) (g := none) hP (isOp_of (by kernel_rfl) : IsOp pws_o2 16 none (.fieldAddr 24 (.tmp 4) 0)) (by kernel_rfl) (by kernel_rfl) 0 rfl rfl _ 1 rfl rfl (by kernel_rfl) (grd_none) fldRaw0)
    refine steps_snoc (k := 15) ?_ (s_storeAt (i := 15) (d := 42) 0 _ 14 (isOp_of (by kernel_rfl) : IsOp pws_o2 15 none (.store 22 (.tmp 42) (.tmp 34))) (by kernel_rfl) rfl rfl rfl (by kernel_rfl) (by kernel_rfl) (by kernel_rfl) (by kernel_rfl) (by kernel_rfl) (by kernel_rfl) (src_op (f := (eqF (.slice r0.A (min r0.k 2) r0.c))) 6 (by kernel_rfl) (by kernel_rfl) rfl) storeRawMag)
    refine steps_snoc (k := 14) ?_ (step_addr (i := 14) (d := 42) (g := none) hP (isOp_of (by kernel_rfl) : IsOp pws_o2 14 none (.fieldAddr 24 (.tmp 3) 0)) (by kernel_rfl) (by kernel_rfl) 0 rfl rfl _ 0 rfl rfl (by kernel_rfl) (grd_none) fldRaw0)
    refine steps_snoc (k := 13) ?_ (s_op2 (i := 13) hP (g := none) (isOp_of (by kernel_rfl) : IsOp pws_o2 13 none (.slice 22 (.tmp 36) none (some (.tmp 40)) none)) (by kernel_rfl) (by kernel_rfl) (grd_none) (src_op (f := (eqF (.slice r1.A r1.k r1.c))) 8 (by kernel_rfl) (by kernel_rfl) rfl) (src_op (f := (eqF (.int .i64 ((min r1.k 1 : Nat) : Int)))) 12 (by kernel_rfl) (by kernel_rfl) rfl) (fun ρ w hx hy => h_sliceRaw k1 1 hx hy) rfl)
    refine steps_snoc (k := 12) ?_ (s_op2 (i := 12) hP (g := none) (isOp_of (by kernel_rfl) : IsOp pws_o2 12 none (.call { callee := .builtin .min, args := #[.tmp 39, .const (.int .i64 1)], argTypes := #[3, 3] })) (by kernel_rfl) (by kernel_rfl) (grd_none) (src_op (f := (eqF (.int .i64 (r1.k : Int)))) 11 (by kernel_rfl) (by kernel_rfl) rfl) (src_const _) (fun ρ w hx hy => h_min (by omega) hx hy) rfl)
    refine steps_snoc (k := 11) ?_ (s_op1 (i := 11) hP (g := none) (isOp_of (by kernel_rfl) : IsOp pws_o2 11 none (.call { callee := .builtin .len, args := #[.tmp 38], argTypes := #[22] })) (by kernel_rfl) (by kernel_rfl) (grd_none) (src_op (f := (eqF (.slice r1.A r1.k r1.c))) 10 (by kernel_rfl) (by kernel_rfl) rfl) (fun ρ w hx => h_len hx) rfl)
    refine steps_snoc (k := 10) ?_ (s_load (i := 10) hP (g := none) (isOp_of (by kernel_rfl) : IsOp pws_o2 10 none (.load 22 (.tmp 37))) (by kernel_rfl) (by kernel_rfl) (grd_none) (bsrc_at 9 (bsrc_old 1 _ rfl rfl rfl (by kernel_rfl) (by kernel_rfl)) (by kernel_rfl) (by kernel_rfl) (by kernel_rfl)) (fun w q h => loadRawMag w q h) rfl)
    refine steps_snoc (k := 9) ?_ (step_addr (i := 9) (d := 37) (g := none) hP (isOp_of (by kernel_rfl) : IsOp pws_o2 9 none (.fieldAddr 24 (.tmp 4) 0)) (by kernel_rfl) (by kernel_rfl) 0 rfl rfl _ 1 rfl rfl (by kernel_rfl) (grd_none) fldRaw0)
    refine steps_snoc (k := 8) ?_ (s_load (i := 8) hP (g := none) (isOp_of (by kernel_rfl) : IsOp pws_o2 8 none (.load 22 (.tmp 35))) (by kernel_rfl) (by kernel_rfl) (grd_none) (bsrc_at 7 (bsrc_old 1 _ rfl rfl rfl (by kernel_rfl) (by kernel_rfl)) (by kernel_rfl) (by kernel_rfl) (by kernel_rfl)) (fun w q h => loadRawMag w q h) rfl)
    refine steps_snoc (k := 7) ?_ (step_addr (i := 7) (d := 35) (g := none) hP (isOp_of (by kernel_rfl) : IsOp pws_o2 7 none (.fieldAddr 24 (.tmp 4) 0)) (by kernel_rfl) (by kernel_rfl) 0 rfl rfl _ 1 rfl rfl (by kernel_rfl) (grd_none) fldRaw0)
    refine steps_snoc (k := 6) ?_ (s_op2 (i := 6) hP (g := none) (isOp_of (by kernel_rfl) : IsOp pws_o2 6 none (.slice 22 (.tmp 29) none (some (.tmp 33)) none)) (by kernel_rfl) (by kernel_rfl) (grd_none) (src_op (f := (eqF (.slice r0.A r0.k r0.c))) 1 (by kernel_rfl) (by kernel_rfl) rfl) (src_op (f := (eqF (.int .i64 ((min r0.k 2 : Nat) : Int)))) 5 (by kernel_rfl) (by kernel_rfl) rfl) (fun ρ w hx hy => h_sliceRaw k0 2 hx hy) rfl)
    refine steps_snoc (k := 5) ?_ (s_op2 (i := 5) hP (g := none) (isOp_of (by kernel_rfl) : IsOp pws_o2 5 none (.call { callee := .builtin .min, args := #[.tmp 32, .const (.int .i64 2)], argTypes := #[3, 3] })) (by kernel_rfl) (by kernel_rfl) (grd_none) (src_op (f := (eqF (.int .i64 (r0.k : Int)))) 4 (by kernel_rfl) (by kernel_rfl) rfl) (src_const _) (fun ρ w hx hy => h_min (by omega) hx hy) rfl)
    refine steps_snoc (k := 4) ?_ (s_op1 (i := 4) hP (g := none) (isOp_of (by kernel_rfl) : IsOp pws_o2 4 none (.call { callee := .builtin .len, args := #[.tmp 31], argTypes := #[22] })) (by kernel_rfl) (by kernel_rfl) (grd_none) (src_op (f := (eqF (.slice r0.A r0.k r0.c))) 3 (by kernel_rfl) (by kernel_rfl) rfl) (fun ρ w hx => h_len hx) rfl)
    refine steps_snoc (k := 3) ?_ (s_load (i := 3) hP (g := none) (isOp_of (by kernel_rfl) : IsOp pws_o2 3 none (.load 22 (.tmp 30))) (by kernel_rfl) (by kernel_rfl) (grd_none) (bsrc_at 2 (bsrc_old 0 _ rfl rfl rfl (by kernel_rfl) (by kernel_rfl)) (by kernel_rfl) (by kernel_rfl) (by kernel_rfl)) (fun w q h => loadRawMag w q h) rfl)
    refine steps_snoc (k := 2) ?_ (step_addr (i := 2) (d := 30) (g := none) hP (isOp_of (by kernel_rfl) : IsOp pws_o2 2 none (.fieldAddr 24 (.tmp 3) 0)) (by kernel_rfl) (by kernel_rfl) 0 rfl rfl _ 0 rfl rfl (by kernel_rfl) (grd_none) fldRaw0)
    refine steps_snoc (k := 1) ?_ (s_load (i := 1) hP (g := none) (isOp_of (by kernel_rfl) : IsOp pws_o2 1 none (.load 22 (.tmp 28))) (by kernel_rfl) (by kernel_rfl) (grd_none) (bsrc_at 0 (bsrc_old 0 _ rfl rfl rfl (by kernel_rfl) (by kernel_rfl)) (by kernel_rfl) (by kernel_rfl) (by kernel_rfl)) (fun w q h => loadRawMag w q h) rfl)
    refine steps_snoc (k := 0) ?_ (step_addr (i := 0) (d := 28) (g := none) hP (isOp_of (by kernel_rfl) : IsOp pws_o2 0 none (.fieldAddr 24 (.tmp 3) 0)) (by kernel_rfl) (by kernel_rfl) 0 rfl rfl _ 0 rfl rfl (by kernel_rfl) (grd_none) fldRaw0)
    exact steps_nil
  · intro m a w hI hm
    exact ⟨(low_fact hst 0 rfl (by kernel_rfl) hI), (low_fact hst 1 rfl (by kernel_rfl) hI), (low_fact hst 2 rfl (by kernel_rfl) hI), (low_fact hst 3 rfl (by kernel_rfl) hI), (low_fact hst 4 rfl (by kernel_rfl) hI), trivial⟩
set_option maxRecDepth 100000 in
theorem pws_r3 {Q : Exit → Act → World → Prop} {Wb W0 : World} {a0 : Act} {r0 r1 : RawArg} (_hS : Sanity) (_ht : P10 Wb) (k0 : r0.Ok Wb) (k1 : r1.Ok Wb) {p0 p1 : Int} (_hn : p0 < 0) (_hl : -9223372036854775808 ≤ p0) (hst : St Wb 171 [(0, (eqF r0.val_)), (1, (eqF r1.val_)), (2, (eqF (.agg #[.int .i64 p0, .int .i64 p1]))), (6, (eqF (.bool false))), (7, (eqF (.bool true)))] [(3, (rawBF (r0.cut 2))), (4, (rawBF (r1.cut 1))), (5, (arrBF p0 p1))] a0 W0)
    (fin : ∀ a w, St Wb 171 [(0, (eqF r0.val_)), (1, (eqF r1.val_)), (2, (eqF (.agg #[.int .i64 p0, .int .i64 p1]))), (6, (eqF (.bool false))), (7, (eqF (.bool true)))] [(3, (rawBF (r0.cut 2))), (4, (rawBF (r1.cut 1))), (5, (arrBF p0 p1)), (8, (boxIF (r0.cut 2).int)), (9, (boxIF (r1.cut 1).int))] a w → Q .normal a w) : (Code.region 3 pws_o3 true).wp Tryd.prog Q a0 W0 := by
  have hP : Plan pws_o3 171 ([⟨3, none, none, (rawBF (r0.cut 2)), (rawBF (r0.cut 2))⟩, ⟨4, none, none, (rawBF (r1.cut 1)), (rawBF (r1.cut 1))⟩, ⟨5, none, none, (arrBF p0 p1), (arrBF p0 p1)⟩, ⟨8, some 4, some 6, zeroIF, (boxIF (r0.cut 2).int)⟩, ⟨9, some 5, some 7, zeroIF, (boxIF (r1.cut 1).int)⟩] : List BoxS) [] := ⟨by kernel_rfl, by kernel_rfl, by kernel_rfl, by kernel_rfl, by kernel_rfl, by kernel_rfl⟩
  refine region_st (F := [(eqF (r0.cut 2).val_), (intF (r0.cut 2).int), (eqF (r1.cut 1).val_), (intF (r1.cut 1).int), anyF, anyF, anyF, anyF]) hP hst rfl rfl ?_ ?_ fin
  · show Steps pws_o3 171 Wb W0 a0 _ _ _ 8
    refine steps_snoc (k := 7) ?_ (s_store (i := 7) 4 _ (isOp_of (by kernel_rfl) : IsOp pws_o3 7 none (.store 27 (.tmp 9) (.tmp 47))) (by kernel_rfl) rfl rfl rfl (by kernel_rfl) (by kernel_rfl) (by kernel_rfl) (src_op (f := (intF (r1.cut 1).int)) 3 (by kernel_rfl) (by kernel_rfl) rfl) (storeI_zero _))
    refine steps_snoc (k := 6) ?_ (s_store (i := 6) 3 _ (isOp_of (by kernel_rfl) : IsOp pws_o3 6 none (.store 27 (.tmp 8) (.tmp 45))) (by kernel_rfl) rfl rfl rfl (by kernel_rfl) (by kernel_rfl) (by kernel_rfl) (src_op (f := (intF (r0.cut 2).int)) 1 (by kernel_rfl) (by kernel_rfl) rfl) (storeI_zero _))
    refine steps_snoc (k := 5) ?_ (s_alloc (i := 5) (d := 9) hP 4 _ (isOp_of (by kernel_rfl) : IsOp pws_o3 5 none (.alloc 27)) (by kernel_rfl) rfl rfl rfl (by kernel_rfl) (by kernel_rfl) (by kernel_rfl) (by kernel_rfl) rfl allocI_run allocI_old)
    refine steps_snoc (k := 4) ?_ (s_alloc (i := 4) (d := 8) hP 3 _ (isOp_of (by kernel_rfl) : IsOp pws_o3 4 none (.alloc 27)) (by kernel_rfl) rfl rfl rfl (by kernel_rfl) (by kernel_rfl) (by kernel_rfl) (by kernel_rfl) rfl allocI_run allocI_old)
    refine steps_snoc (k := 3) ?_ (s_call1 (i := 3) hP (g := none) (isOp_of (by kernel_rfl) : IsOp pws_o3 3 none (.call { callee := .value (.func 12), args := #[.tmp 46], argTypes := #[24] })) (by kernel_rfl) (by kernel_rfl) (grd_none) (src_op (f := (eqF (r1.cut 1).val_)) 2 (by kernel_rfl) (by kernel_rfl) rfl) pwspl_quadrature_quadraturelaw01_made (fun w v0 hb h0 => kMade (k1.cut 1) hb h0) rfl)
    refine steps_snoc (k := 2) ?_ (s_load (i := 2) hP (g := none) (isOp_of (by kernel_rfl) : IsOp pws_o3 2 none (.load 24 (.tmp 4))) (by kernel_rfl) (by kernel_rfl) (grd_none) (bsrc_old 1 _ rfl rfl rfl (by kernel_rfl) (by kernel_rfl)) (fun w q h => loadR_raw w q h) rfl)
    refine steps_snoc (k := 1) ?_ (s_call1 (i := 1) hP (g := none) (isOp_of (by kernel_rfl) : IsOp pws_o3 1 none (.call { callee := .value (.func 12), args := #[.tmp 44], argTypes := #[24] })) (by kernel_rfl) (by kernel_rfl) (grd_none) (src_op (f := (eqF (r0.cut 2).val_)) 0 (by kernel_rfl) (by kernel_rfl) rfl) pwspl_quadrature_quadraturelaw01_made (fun w v0 hb h0 => kMade (k0.cut 2) hb h0) rfl)
    refine steps_snoc (k := 0) ?_ (s_load (i := 0) hP (g := none) (isOp_of (by kernel_rfl) : IsOp pws_o3 0 none (.load 24 (.tmp 3))) (by kernel_rfl) (by kernel_rfl) (grd_none) (bsrc_old 0 _ rfl rfl rfl (by kernel_rfl) (by kernel_rfl)) (fun w q h => loadR_raw w q h) rfl)
    exact steps_nil
  · intro m a w hI hm
    exact ⟨(low_fact hst 0 rfl (by kernel_rfl) hI), (low_fact hst 1 rfl (by kernel_rfl) hI), (low_fact hst 2 rfl (by kernel_rfl) hI), (low_fact hst 3 rfl (by kernel_rfl) hI), (low_fact hst 4 rfl (by kernel_rfl) hI), trivial⟩
set_option maxRecDepth 100000 in
theorem pws_r4 {Q : Exit → Act → World → Prop} {Wb W0 : World} {a0 : Act} {r0 r1 : RawArg} (_hS : Sanity) (_ht : P10 Wb) (_k0 : r0.Ok Wb) (_k1 : r1.Ok Wb) {p0 p1 : Int} (hn : p0 < 0) (_hl : -9223372036854775808 ≤ p0) (hst : St Wb 171 [(0, (eqF r0.val_)), (1, (eqF r1.val_)), (2, (eqF (.agg #[.int .i64 p0, .int .i64 p1]))), (6, (eqF (.bool false))), (7, (eqF (.bool true)))] [(3, (rawBF (r0.cut 2))), (4, (rawBF (r1.cut 1))), (5, (arrBF p0 p1)), (8, (boxIF (r0.cut 2).int)), (9, (boxIF (r1.cut 1).int))] a0 W0)
    (fin : ∀ a w, St Wb 171 [(0, (eqF r0.val_)), (1, (eqF r1.val_)), (2, (eqF (.agg #[.int .i64 p0, .int .i64 p1]))), (6, (eqF (.bool false))), (7, (eqF (.bool true))), (11, (eqF (.int .i64 1)))] [(3, (rawBF (r0.cut 2))), (4, (rawBF (r1.cut 1))), (5, (arrBF p0 p1)), (8, (boxIF (r0.cut 2).int)), (9, (boxIF (r1.cut 1).int)), (10, (boxIF 0))] a w → Q .normal a w) : (Code.region 4 pws_o4 false).wp Tryd.prog Q a0 W0 := by
  have hP : Plan pws_o4 171 ([⟨3, none, none, (rawBF (r0.cut 2)), (rawBF (r0.cut 2))⟩, ⟨4, none, none, (rawBF (r1.cut 1)), (rawBF (r1.cut 1))⟩, ⟨5, none, none, (arrBF p0 p1), (arrBF p0 p1)⟩, ⟨8, none, none, (boxIF (r0.cut 2).int), (boxIF (r0.cut 2).int)⟩, ⟨9, none, none, (boxIF (r1.cut 1).int), (boxIF (r1.cut 1).int)⟩, ⟨10, some 7, some 8, zeroIF, (boxIF 0)⟩] : List BoxS) [(1, 5, 0)] := ⟨by kernel_rfl, by kernel_rfl, by kernel_rfl, by kernel_rfl, by kernel_rfl, by kernel_rfl⟩
  refine region_st (F := [(intF (r0.cut 2).int), anyF, (eqF (.int .i64 p0)), (tup2F (intF 0) (eqF (.int .i64 1))), (tup2F (intF 0) (eqF (.int .i64 1))), (intF 0), (eqF (.int .i64 1)), anyF, anyF, (eqF (.int .i64 1))]) hP hst rfl rfl ?_ ?_ fin
  · show Steps pws_o4 171 Wb W0 a0 _ _ _ 10
    refine steps_snoc (k := 9) ?_ (s_assign (i := 9) hP (g := none) (isOp_of (by kernel_rfl) : IsOp pws_o4 9 none (.assign (.tmp 54))) (by kernel_rfl) (by kernel_rfl) (grd_none) (src_op (f := (eqF (.int .i64 1))) 6 (by kernel_rfl) (by kernel_rfl) rfl) rfl)
    refine steps_snoc (k := 8) ?_ (s_store (i := 8) 5 _ (isOp_of (by kernel_rfl) : IsOp pws_o4 8 none (.store 27 (.tmp 10) (.tmp 53))) (by kernel_rfl) rfl rfl rfl (by kernel_rfl) (by kernel_rfl) (by kernel_rfl) (src_op (f := (intF 0)) 5 (by kernel_rfl) (by kernel_rfl) rfl) (storeI_zero _))
    refine steps_snoc (k := 7) ?_ (s_alloc (i := 7) (d := 10) hP 5 _ (isOp_of (by kernel_rfl) : IsOp pws_o4 7 none (.alloc 27)) (by kernel_rfl) rfl rfl rfl (by kernel_rfl) (by kernel_rfl) (by kernel_rfl) (by kernel_rfl) rfl allocI_run allocI_old)
    refine steps_snoc (k := 6) ?_ (s_op1 (i := 6) hP (g := none) (isOp_of (by kernel_rfl) : IsOp pws_o4 6 none (.extract (.tmp 48) 1)) (by kernel_rfl) (by kernel_rfl) (grd_none) (src_op (f := (tup2F (intF 0) (eqF (.int .i64 1)))) 4 (by kernel_rfl) (by kernel_rfl) rfl) (fun ρ w hx => h_ext2_1 hx) rfl)
    refine steps_snoc (k := 5) ?_ (s_op1 (i := 5) hP (g := none) (isOp_of (by kernel_rfl) : IsOp pws_o4 5 none (.extract (.tmp 48) 0)) (by kernel_rfl) (by kernel_rfl) (grd_none) (src_op (f := (tup2F (intF 0) (eqF (.int .i64 1)))) 4 (by kernel_rfl) (by kernel_rfl) rfl) (fun ρ w hx => h_ext2_0 hx) rfl)
    refine steps_snoc (k := 4) ?_ (s_move (i := 4) hP (g := none) (isOp_of (by kernel_rfl) : IsOp pws_o4 4 none (.move (.tmp 52))) (by kernel_rfl) (by kernel_rfl) (grd_none) (src_op (f := (tup2F (intF 0) (eqF (.int .i64 1)))) 3 (by kernel_rfl) (by kernel_rfl) rfl) rfl)
    refine steps_snoc (k := 3) ?_ (s_call2 (i := 3) hP (g := none) (isOp_of (by kernel_rfl) : IsOp pws_o4 3 none (.call { callee := .value (.func 36), args := #[.tmp 49, .tmp 51], argTypes := #[27, 3] })) (by kernel_rfl) (by kernel_rfl) (grd_none) (src_op (f := (intF (r0.cut 2).int)) 0 (by kernel_rfl) (by kernel_rfl) rfl) (src_op (f := (eqF (.int .i64 p0))) 2 (by kernel_rfl) (by kernel_rfl) rfl) pwspl_quadrature_integer_Pow (fun w v0 v1 hb h0 h1 => kPowE h0 h1 (.inl hn) (by omega) (by omega)) rfl)
    refine steps_snoc (k := 2) ?_ (s_load (i := 2) hP (g := none) (isOp_of (by kernel_rfl) : IsOp pws_o4 2 none (.load 3 (.tmp 50))) (by kernel_rfl) (by kernel_rfl) (grd_none) (bsrc_at 1 (bsrc_old 2 _ rfl rfl rfl (by kernel_rfl) (by kernel_rfl)) (by kernel_rfl) (by kernel_rfl) (by kernel_rfl)) (fun w q h => loadA0 w q h) rfl)
    refine steps_snoc (k := 1) ?_ (step_index (i := 1) (d := 50) (g := none) hP (isOp_of (by kernel_rfl) : IsOp pws_o4 1 none (.indexAddr 46 (.tmp 5) (.const (.int .i64 0)))) (by kernel_rfl) (by kernel_rfl) 0 rfl rfl _ 2 rfl rfl (by kernel_rfl) (grd_none) idxA0)
    refine steps_snoc (k := 0) ?_ (s_load (i := 0) hP (g := none) (isOp_of (by kernel_rfl) : IsOp pws_o4 0 none (.load 27 (.tmp 8))) (by kernel_rfl) (by kernel_rfl) (grd_none) (bsrc_old 3 _ rfl rfl rfl (by kernel_rfl) (by kernel_rfl)) (fun w q h => loadI_int w q h) rfl)
    exact steps_nil
  · intro m a w hI hm
    exact ⟨(low_fact hst 0 rfl (by kernel_rfl) hI), (low_fact hst 1 rfl (by kernel_rfl) hI), (low_fact hst 2 rfl (by kernel_rfl) hI), (low_fact hst 3 rfl (by kernel_rfl) hI), (low_fact hst 4 rfl (by kernel_rfl) hI), (out_op hI hm 9 11 _ (by kernel_rfl) rfl), trivial⟩
set_option maxRecDepth 100000 in
theorem pws_r5 {Q : Exit → Act → World → Prop} {Wb W0 : World} {a0 : Act} {r0 r1 : RawArg} (_hS : Sanity) (_ht : P10 Wb) (_k0 : r0.Ok Wb) (_k1 : r1.Ok Wb) {p0 p1 : Int} (_hn : p0 < 0) (_hl : -9223372036854775808 ≤ p0) (hst : St Wb 171 [(0, (eqF r0.val_)), (1, (eqF r1.val_)), (2, (eqF (.agg #[.int .i64 p0, .int .i64 p1]))), (6, (eqF (.bool false))), (7, (eqF (.bool true))), (11, (eqF (.int .i64 1)))] [(3, (rawBF (r0.cut 2))), (4, (rawBF (r1.cut 1))), (5, (arrBF p0 p1)), (8, (boxIF (r0.cut 2).int)), (9, (boxIF (r1.cut 1).int)), (10, (boxIF 0))] a0 W0)
    (fin : ∀ a w, St Wb 171 [(0, (eqF r0.val_)), (1, (eqF r1.val_)), (2, (eqF (.agg #[.int .i64 p0, .int .i64 p1]))), (6, (eqF (.bool false))), (7, (eqF (.bool true))), (11, (eqF (.int .i64 1))), (66, (eqF (.bool true)))] [(3, (rawBF (r0.cut 2))), (4, (rawBF (r1.cut 1))), (5, (arrBF p0 p1)), (8, (boxIF (r0.cut 2).int)), (9, (boxIF (r1.cut 1).int)), (10, (boxIF 0))] a w → Q .normal a w) : (Code.region 5 pws_o5 false).wp Tryd.prog Q a0 W0 := by
  have hP : Plan pws_o5 171 ([⟨3, none, none, (rawBF (r0.cut 2)), (rawBF (r0.cut 2))⟩, ⟨4, none, none, (rawBF (r1.cut 1)), (rawBF (r1.cut 1))⟩, ⟨5, none, none, (arrBF p0 p1), (arrBF p0 p1)⟩, ⟨8, none, none, (boxIF (r0.cut 2).int), (boxIF (r0.cut 2).int)⟩, ⟨9, none, none, (boxIF (r1.cut 1).int), (boxIF (r1.cut 1).int)⟩, ⟨10, none, none, (boxIF 0), (boxIF 0)⟩] : List BoxS) [] := ⟨by kernel_rfl, by kernel_rfl, by kernel_rfl, by kernel_rfl, by kernel_rfl, by kernel_rfl⟩
  refine region_st (F := [(eqF (.int .i64 1)), (eqF (.bool true)), (eqF (.bool true)), anyF, anyF, anyF, (eqF (.bool true)), (eqF (.bool true)), anyF, anyF, anyF, (eqF (.bool true))]) hP hst rfl rfl ?_ ?_ fin
  · show Steps pws_o5 171 Wb W0 a0 _ _ _ 12
    refine steps_snoc (k := 11) ?_ (s_pickT (i := 11) hP (g := none) (isOp_of (by kernel_rfl) : IsOp pws_o5 11 none (.pick (.tmp 62) (.const (.bool true)) (.tmp 65))) (by kernel_rfl) (by kernel_rfl) (grd_none) (src_op (f := (eqF (.bool true))) 7 (by kernel_rfl) (by kernel_rfl) rfl) (src_const _) rfl)
    refine steps_snoc (k := 10) ?_ (s_skip (i := 10) hP (g := (some (7, false))) (isOp_of (by kernel_rfl) : IsOp pws_o5 10 (some (7, false)) (.binOp .gtr 3 (.tmp 64) (.const (.int .i64 256)) 3)) (by kernel_rfl) (by kernel_rfl) (grd_op (d := 62) (by kernel_rfl) (by kernel_rfl) rfl rfl) rfl)
    refine steps_snoc (k := 9) ?_ (s_skip (i := 9) hP (g := (some (7, false))) (isOp_of (by kernel_rfl) : IsOp pws_o5 9 (some (7, false)) (.load 3 (.tmp 63))) (by kernel_rfl) (by kernel_rfl) (grd_op (d := 62) (by kernel_rfl) (by kernel_rfl) rfl rfl) rfl)
    refine steps_snoc (k := 8) ?_ (s_skip (i := 8) hP (g := (some (7, false))) (isOp_of (by kernel_rfl) : IsOp pws_o5 8 (some (7, false)) (.indexAddr 46 (.tmp 5) (.const (.int .i64 0)))) (by kernel_rfl) (by kernel_rfl) (grd_op (d := 62) (by kernel_rfl) (by kernel_rfl) rfl rfl) rfl)
    refine steps_snoc (k := 7) ?_ (s_move (i := 7) hP (g := none) (isOp_of (by kernel_rfl) : IsOp pws_o5 7 none (.move (.tmp 61))) (by kernel_rfl) (by kernel_rfl) (grd_none) (src_op (f := (eqF (.bool true))) 6 (by kernel_rfl) (by kernel_rfl) rfl) rfl)
    refine steps_snoc (k := 6) ?_ (s_pickT (i := 6) hP (g := none) (isOp_of (by kernel_rfl) : IsOp pws_o5 6 none (.pick (.tmp 57) (.const (.bool true)) (.tmp 60))) (by kernel_rfl) (by kernel_rfl) (grd_none) (src_op (f := (eqF (.bool true))) 2 (by kernel_rfl) (by kernel_rfl) rfl) (src_const _) rfl)
    refine steps_snoc (k := 5) ?_ (s_skip (i := 5) hP (g := (some (2, false))) (isOp_of (by kernel_rfl) : IsOp pws_o5 5 (some (2, false)) (.binOp .lss 3 (.tmp 59) (.const (.int .i64 0)) 3)) (by kernel_rfl) (by kernel_rfl) (grd_op (d := 57) (by kernel_rfl) (by kernel_rfl) rfl rfl) rfl)
    refine steps_snoc (k := 4) ?_ (s_skip (i := 4) hP (g := (some (2, false))) (isOp_of (by kernel_rfl) : IsOp pws_o5 4 (some (2, false)) (.load 3 (.tmp 58))) (by kernel_rfl) (by kernel_rfl) (grd_op (d := 57) (by kernel_rfl) (by kernel_rfl) rfl rfl) rfl)
    refine steps_snoc (k := 3) ?_ (s_skip (i := 3) hP (g := (some (2, false))) (isOp_of (by kernel_rfl) : IsOp pws_o5 3 (some (2, false)) (.indexAddr 46 (.tmp 5) (.const (.int .i64 0)))) (by kernel_rfl) (by kernel_rfl) (grd_op (d := 57) (by kernel_rfl) (by kernel_rfl) rfl rfl) rfl)
    refine steps_snoc (k := 2) ?_ (s_move (i := 2) hP (g := none) (isOp_of (by kernel_rfl) : IsOp pws_o5 2 none (.move (.tmp 56))) (by kernel_rfl) (by kernel_rfl) (grd_none) (src_op (f := (eqF (.bool true))) 1 (by kernel_rfl) (by kernel_rfl) rfl) rfl)
    refine steps_snoc (k := 1) ?_ (s_op2 (i := 1) hP (g := none) (isOp_of (by kernel_rfl) : IsOp pws_o5 1 none (.binOp .neq 42 (.tmp 55) (.const (.int .i64 0)) 42)) (by kernel_rfl) (by kernel_rfl) (grd_none) (src_op (f := (eqF (.int .i64 1))) 0 (by kernel_rfl) (by kernel_rfl) rfl) (src_const _) (fun ρ w hx hy => h_neqI (r := true) (by decide) hx hy) rfl)
    refine steps_snoc (k := 0) ?_ (s_move (i := 0) hP (g := none) (isOp_of (by kernel_rfl) : IsOp pws_o5 0 none (.move (.tmp 11))) (by kernel_rfl) (by kernel_rfl) (grd_none) (src_low hst 5 rfl (by kernel_rfl)) rfl)
    exact steps_nil
  · intro m a w hI hm
    exact ⟨(low_fact hst 0 rfl (by kernel_rfl) hI), (low_fact hst 1 rfl (by kernel_rfl) hI), (low_fact hst 2 rfl (by kernel_rfl) hI), (low_fact hst 3 rfl (by kernel_rfl) hI), (low_fact hst 4 rfl (by kernel_rfl) hI), (low_fact hst 5 rfl (by kernel_rfl) hI), (out_op hI hm 11 66 _ (by kernel_rfl) rfl), trivial⟩
set_option maxRecDepth 100000 in
theorem pws_r6 {Q : Exit → Act → World → Prop} {Wb W0 : World} {a0 : Act} {r0 r1 : RawArg} (_hS : Sanity) (_ht : P10 Wb) (_k0 : r0.Ok Wb) (_k1 : r1.Ok Wb) {p0 p1 : Int} (_hn : p0 < 0) (_hl : -9223372036854775808 ≤ p0) (hst : St Wb 171 [(0, (eqF r0.val_)), (1, (eqF r1.val_)), (2, (eqF (.agg #[.int .i64 p0, .int .i64 p1]))), (6, (eqF (.bool false))), (7, (eqF (.bool true))), (11, (eqF (.int .i64 1))), (66, (eqF (.bool true)))] [(3, (rawBF (r0.cut 2))), (4, (rawBF (r1.cut 1))), (5, (arrBF p0 p1)), (8, (boxIF (r0.cut 2).int)), (9, (boxIF (r1.cut 1).int)), (10, (boxIF 0))] a0 W0)
    (fin : ∀ a w, St Wb 171 [(0, (eqF r0.val_)), (1, (eqF r1.val_)), (2, (eqF (.agg #[.int .i64 p0, .int .i64 p1]))), (6, (eqF (.bool true))), (7, (eqF (.bool true))), (11, (eqF (.int .i64 1))), (66, (eqF (.bool true)))] [(3, (rawBF (r0.cut 2))), (4, (rawBF (r1.cut 1))), (5, (arrBF p0 p1)), (8, (boxIF (r0.cut 2).int)), (9, (boxIF (r1.cut 1).int)), (10, (boxIF 0))] a w → Q .normal a w) : (Code.region 6 pws_o6 false).wp Tryd.prog Q a0 W0 := by
  have hP : Plan pws_o6 171 ([⟨3, none, none, (rawBF (r0.cut 2)), (rawBF (r0.cut 2))⟩, ⟨4, none, none, (rawBF (r1.cut 1)), (rawBF (r1.cut 1))⟩, ⟨5, none, none, (arrBF p0 p1), (arrBF p0 p1)⟩, ⟨8, none, none, (boxIF (r0.cut 2).int), (boxIF (r0.cut 2).int)⟩, ⟨9, none, none, (boxIF (r1.cut 1).int), (boxIF (r1.cut 1).int)⟩, ⟨10, none, none, (boxIF 0), (boxIF 0)⟩] : List BoxS) [(3, 5, 0)] := ⟨by kernel_rfl, by kernel_rfl, by kernel_rfl, by kernel_rfl, by kernel_rfl, by kernel_rfl⟩
  refine region_st (F := [(eqF (.int .i64 1)), (eqF (.bool true)), (eqF (.bool true)), anyF, (eqF (.int .i64 p0)), (eqF (.bool true)), (eqF (.bool true)), anyF, anyF, anyF, (eqF (.bool true)), (eqF (.bool true)), (eqF (.bool true)), (eqF (.bool true)), (eqF (.bool true)), (eqF (.bool true))]) hP hst rfl rfl ?_ ?_ fin
  · show Steps pws_o6 171 Wb W0 a0 _ _ _ 16
    refine steps_snoc (k := 15) ?_ (s_assign (i := 15) hP (g := none) (isOp_of (by kernel_rfl) : IsOp pws_o6 15 none (.assign (.tmp 81))) (by kernel_rfl) (by kernel_rfl) (grd_none) (src_op (f := (eqF (.bool true))) 14 (by kernel_rfl) (by kernel_rfl) rfl) rfl)
    refine steps_snoc (k := 14) ?_ (s_pickT (i := 14) hP (g := none) (isOp_of (by kernel_rfl) : IsOp pws_o6 14 none (.pick (.tmp 79) (.tmp 80) (.const (.bool false)))) (by kernel_rfl) (by kernel_rfl) (grd_none) (src_op (f := (eqF (.bool true))) 12 (by kernel_rfl) (by kernel_rfl) rfl) (src_op (f := (eqF (.bool true))) 13 (by kernel_rfl) (by kernel_rfl) rfl) rfl)
    refine steps_snoc (k := 13) ?_ (s_move (i := 13) hP (g := (some (12, true))) (isOp_of (by kernel_rfl) : IsOp pws_o6 13 (some (12, true)) (.move (.tmp 7))) (by kernel_rfl) (by kernel_rfl) (grd_op (d := 79) (by kernel_rfl) (by kernel_rfl) rfl rfl) (src_low hst 4 rfl (by kernel_rfl)) rfl)
    refine steps_snoc (k := 12) ?_ (s_move (i := 12) hP (g := none) (isOp_of (by kernel_rfl) : IsOp pws_o6 12 none (.move (.tmp 78))) (by kernel_rfl) (by kernel_rfl) (grd_none) (src_op (f := (eqF (.bool true))) 11 (by kernel_rfl) (by kernel_rfl) rfl) rfl)
    refine steps_snoc (k := 11) ?_ (s_pickT (i := 11) hP (g := none) (isOp_of (by kernel_rfl) : IsOp pws_o6 11 none (.pick (.tmp 69) (.tmp 77) (.const (.bool false)))) (by kernel_rfl) (by kernel_rfl) (grd_none) (src_op (f := (eqF (.bool true))) 2 (by kernel_rfl) (by kernel_rfl) rfl) (src_op (f := (eqF (.bool true))) 10 (by kernel_rfl) (by kernel_rfl) rfl) rfl)
    refine steps_snoc (k := 10) ?_ (s_pickT (i := 10) hP (g := (some (2, true))) (isOp_of (by kernel_rfl) : IsOp pws_o6 10 (some (2, true)) (.pick (.tmp 73) (.const (.bool true)) (.tmp 76))) (by kernel_rfl) (by kernel_rfl) (grd_op (d := 69) (by kernel_rfl) (by kernel_rfl) rfl rfl) (src_op (f := (eqF (.bool true))) 6 (by kernel_rfl) (by kernel_rfl) rfl) (src_const _) rfl)
    refine steps_snoc (k := 9) ?_ (s_skip (i := 9) hP (g := (some (6, false))) (isOp_of (by kernel_rfl) : IsOp pws_o6 9 (some (6, false)) (.binOp .gtr 3 (.tmp 75) (.const (.int .i64 256)) 3)) (by kernel_rfl) (by kernel_rfl) (grd_op (d := 73) (by kernel_rfl) (by kernel_rfl) rfl rfl) rfl)
    refine steps_snoc (k := 8) ?_ (s_skip (i := 8) hP (g := (some (6, false))) (isOp_of (by kernel_rfl) : IsOp pws_o6 8 (some (6, false)) (.load 3 (.tmp 74))) (by kernel_rfl) (by kernel_rfl) (grd_op (d := 73) (by kernel_rfl) (by kernel_rfl) rfl rfl) rfl)
    refine steps_snoc (k := 7) ?_ (s_skip (i := 7) hP (g := (some (6, false))) (isOp_of (by kernel_rfl) : IsOp pws_o6 7 (some (6, false)) (.indexAddr 46 (.tmp 5) (.const (.int .i64 0)))) (by kernel_rfl) (by kernel_rfl) (grd_op (d := 73) (by kernel_rfl) (by kernel_rfl) rfl rfl) rfl)
    refine steps_snoc (k := 6) ?_ (s_move (i := 6) hP (g := (some (2, true))) (isOp_of (by kernel_rfl) : IsOp pws_o6 6 (some (2, true)) (.move (.tmp 72))) (by kernel_rfl) (by kernel_rfl) (grd_op (d := 69) (by kernel_rfl) (by kernel_rfl) rfl rfl) (src_op (f := (eqF (.bool true))) 5 (by kernel_rfl) (by kernel_rfl) rfl) rfl)
    refine steps_snoc (k := 5) ?_ (s_op2 (i := 5) hP (g := (some (2, true))) (isOp_of (by kernel_rfl) : IsOp pws_o6 5 (some (2, true)) (.binOp .lss 3 (.tmp 71) (.const (.int .i64 0)) 3)) (by kernel_rfl) (by kernel_rfl) (grd_op (d := 69) (by kernel_rfl) (by kernel_rfl) rfl rfl) (src_op (f := (eqF (.int .i64 p0))) 4 (by kernel_rfl) (by kernel_rfl) rfl) (src_const _) (fun ρ w hx hy => h_lss (r := true) (by simp; omega) hx hy) rfl)
    refine steps_snoc (k := 4) ?_ (s_load (i := 4) hP (g := (some (2, true))) (isOp_of (by kernel_rfl) : IsOp pws_o6 4 (some (2, true)) (.load 3 (.tmp 70))) (by kernel_rfl) (by kernel_rfl) (grd_op (d := 69) (by kernel_rfl) (by kernel_rfl) rfl rfl) (bsrc_at 3 (bsrc_old 2 _ rfl rfl rfl (by kernel_rfl) (by kernel_rfl)) (by kernel_rfl) (by kernel_rfl) (by kernel_rfl)) (fun w q h => loadA0 w q h) rfl)
    refine steps_snoc (k := 3) ?_ (step_index (i := 3) (d := 70) (g := (some (2, true))) hP (isOp_of (by kernel_rfl) : IsOp pws_o6 3 (some (2, true)) (.indexAddr 46 (.tmp 5) (.const (.int .i64 0)))) (by kernel_rfl) (by kernel_rfl) 0 rfl rfl _ 2 rfl rfl (by kernel_rfl) (grd_op (d := 69) (by kernel_rfl) (by kernel_rfl) rfl rfl) idxA0)
    refine steps_snoc (k := 2) ?_ (s_move (i := 2) hP (g := none) (isOp_of (by kernel_rfl) : IsOp pws_o6 2 none (.move (.tmp 68))) (by kernel_rfl) (by kernel_rfl) (grd_none) (src_op (f := (eqF (.bool true))) 1 (by kernel_rfl) (by kernel_rfl) rfl) rfl)
    refine steps_snoc (k := 1) ?_ (s_op2 (i := 1) hP (g := none) (isOp_of (by kernel_rfl) : IsOp pws_o6 1 none (.binOp .eql 42 (.tmp 67) (.const (.int .i64 1)) 42)) (by kernel_rfl) (by kernel_rfl) (grd_none) (src_op (f := (eqF (.int .i64 1))) 0 (by kernel_rfl) (by kernel_rfl) rfl) (src_const _) (fun ρ w hx hy => h_eqlI (r := true) (by decide) hx hy) rfl)
    refine steps_snoc (k := 0) ?_ (s_move (i := 0) hP (g := none) (isOp_of (by kernel_rfl) : IsOp pws_o6 0 none (.move (.tmp 11))) (by kernel_rfl) (by kernel_rfl) (grd_none) (src_low hst 5 rfl (by kernel_rfl)) rfl)
    exact steps_nil
  · intro m a w hI hm
    exact ⟨(low_fact hst 0 rfl (by kernel_rfl) hI), (low_fact hst 1 rfl (by kernel_rfl) hI), (low_fact hst 2 rfl (by kernel_rfl) hI), (out_op hI hm 15 6 _ (by kernel_rfl) rfl), (low_fact hst 4 rfl (by kernel_rfl) hI), (low_fact hst 5 rfl (by kernel_rfl) hI), (low_fact hst 6 rfl (by kernel_rfl) hI), trivial⟩
set_option maxRecDepth 100000 in
theorem pws_r0b {Q : Exit → Act → World → Prop} {Wb W0 : World} {a0 : Act} {r0 r1 : RawArg} (_hS : Sanity) (_ht : P10 Wb) (_k0 : r0.Ok Wb) (_k1 : r1.Ok Wb) {p0 p1 : Int} (_hn : 256 < p0) (_hl : p0 ≤ 9223372036854775807) (hst : St Wb 171 [(0, (eqF r0.val_)), (1, (eqF r1.val_)), (2, (eqF (.agg #[.int .i64 p0, .int .i64 p1])))] [] a0 W0)
    (fin : ∀ a w, St Wb 171 [(0, (eqF r0.val_)), (1, (eqF r1.val_)), (2, (eqF (.agg #[.int .i64 p0, .int .i64 p1]))), (6, (eqF (.bool false)))] [(3, (rawBF r0)), (4, (rawBF r1)), (5, (arrBF p0 p1))] a w → Q .normal a w) : (Code.region 0 pws_o0 false).wp Tryd.prog Q a0 W0 := by
  have hP : Plan pws_o0 171 ([⟨3, some 0, none, (rawBF r0), (rawBF r0)⟩, ⟨4, some 1, none, (rawBF r1), (rawBF r1)⟩, ⟨5, some 2, none, (arrBF p0 p1), (arrBF p0 p1)⟩] : List BoxS) [] := ⟨by kernel_rfl, by kernel_rfl, by kernel_rfl, by kernel_rfl, by kernel_rfl, by kernel_rfl⟩
  refine region_st (F := [anyF, anyF, anyF, (eqF (.bool false))]) hP hst rfl rfl ?_ ?_ fin
  · show Steps pws_o0 171 Wb W0 a0 _ _ _ 4
    refine steps_snoc (k := 3) ?_ (s_assign (i := 3) hP (g := none) (isOp_of (by kernel_rfl) : IsOp pws_o0 3 none (.assign (.const (.bool false)))) (by kernel_rfl) (by kernel_rfl) (grd_none) (src_const _) rfl)
    refine steps_snoc (k := 2) ?_ (s_box (i := 2) (d := 5) hP 2 _ (isOp_of (by kernel_rfl) : IsOp pws_o0 2 none (.box 46 (.tmp 2))) (by kernel_rfl) rfl rfl rfl (by kernel_rfl) (by kernel_rfl) (by kernel_rfl) (by kernel_rfl) rfl (src_low hst 2 rfl (by kernel_rfl)) (fun w v h => boxA_run w v h))
    refine steps_snoc (k := 1) ?_ (s_box (i := 1) (d := 4) hP 1 _ (isOp_of (by kernel_rfl) : IsOp pws_o0 1 none (.box 24 (.tmp 1))) (by kernel_rfl) rfl rfl rfl (by kernel_rfl) (by kernel_rfl) (by kernel_rfl) (by kernel_rfl) rfl (src_low hst 1 rfl (by kernel_rfl)) (fun w v h => boxR_run w v h))
    refine steps_snoc (k := 0) ?_ (s_box (i := 0) (d := 3) hP 0 _ (isOp_of (by kernel_rfl) : IsOp pws_o0 0 none (.box 24 (.tmp 0))) (by kernel_rfl) rfl rfl rfl (by kernel_rfl) (by kernel_rfl) (by kernel_rfl) (by kernel_rfl) rfl (src_low hst 0 rfl (by kernel_rfl)) (fun w v h => boxR_run w v h))
    exact steps_nil
  · intro m a w hI hm
    exact ⟨(low_fact hst 0 rfl (by kernel_rfl) hI), (low_fact hst 1 rfl (by kernel_rfl) hI), (low_fact hst 2 rfl (by kernel_rfl) hI), (out_op hI hm 3 6 _ (by kernel_rfl) rfl), trivial⟩
set_option maxRecDepth 100000 in
theorem pws_r1b {Q : Exit → Act → World → Prop} {Wb W0 : World} {a0 : Act} {r0 r1 : RawArg} (hS : Sanity) (ht : P10 Wb) (_k0 : r0.Ok Wb) (_k1 : r1.Ok Wb) {p0 p1 : Int} (_hn : 256 < p0) (_hl : p0 ≤ 9223372036854775807) (hst : St Wb 171 [(0, (eqF r0.val_)), (1, (eqF r1.val_)), (2, (eqF (.agg #[.int .i64 p0, .int .i64 p1]))), (6, (eqF (.bool false)))] [(3, (rawBF r0)), (4, (rawBF r1)), (5, (arrBF p0 p1))] a0 W0)
    (fin : ∀ a w, St Wb 171 [(0, (eqF r0.val_)), (1, (eqF r1.val_)), (2, (eqF (.agg #[.int .i64 p0, .int .i64 p1]))), (6, (eqF (.bool false))), (7, (eqF (.bool true)))] [(3, (rawBF r0)), (4, (rawBF r1)), (5, (arrBF p0 p1))] a w → Q .normal a w) : (Code.region 1 pws_o1 false).wp Tryd.prog Q a0 W0 := by
  have hP : Plan pws_o1 171 ([⟨3, none, none, (rawBF r0), (rawBF r0)⟩, ⟨4, none, none, (rawBF r1), (rawBF r1)⟩, ⟨5, none, none, (arrBF p0 p1), (arrBF p0 p1)⟩] : List BoxS) [] := ⟨by kernel_rfl, by kernel_rfl, by kernel_rfl, by kernel_rfl, by kernel_rfl, by kernel_rfl⟩
  refine region_st (F := [(eqF (.bool true)), (eqF (.bool true))]) hP hst rfl rfl ?_ ?_ fin
  · show Steps pws_o1 171 Wb W0 a0 _ _ _ 2
    refine steps_snoc (k := 1) ?_ (s_assign (i := 1) hP (g := none) (isOp_of (by kernel_rfl) : IsOp pws_o1 1 none (.assign (.tmp 27))) (by kernel_rfl) (by kernel_rfl) (grd_none) (src_op (f := (eqF (.bool true))) 0 (by kernel_rfl) (by kernel_rfl) rfl) rfl)
    refine steps_snoc (k := 0) ?_ (s_call0 (i := 0) hP (g := none) (isOp_of (by kernel_rfl) : IsOp pws_o1 0 none (.call { callee := .value (.func 11), args := #[], argTypes := #[] })) (by kernel_rfl) (by kernel_rfl) (grd_none)  pwspl_quadrature_quadraturelaw01_sanity (fun w  hb  => kSanity hS ht hb) rfl)
    exact steps_nil
  · intro m a w hI hm
    exact ⟨(low_fact hst 0 rfl (by kernel_rfl) hI), (low_fact hst 1 rfl (by kernel_rfl) hI), (low_fact hst 2 rfl (by kernel_rfl) hI), (low_fact hst 3 rfl (by kernel_rfl) hI), (out_op hI hm 1 7 _ (by kernel_rfl) rfl), trivial⟩
set_option maxRecDepth 100000 in
theorem pws_r2b {Q : Exit → Act → World → Prop} {Wb W0 : World} {a0 : Act} {r0 r1 : RawArg} (_hS : Sanity) (_ht : P10 Wb) (k0 : r0.Ok Wb) (k1 : r1.Ok Wb) {p0 p1 : Int} (_hn : 256 < p0) (_hl : p0 ≤ 9223372036854775807) (hst : St Wb 171 [(0, (eqF r0.val_)), (1, (eqF r1.val_)), (2, (eqF (.agg #[.int .i64 p0, .int .i64 p1]))), (6, (eqF (.bool false))), (7, (eqF (.bool true)))] [(3, (rawBF r0)), (4, (rawBF r1)), (5, (arrBF p0 p1))] a0 W0)
    (fin : ∀ a w, St Wb 171 [(0, (eqF r0.val_)), (1, (eqF r1.val_)), (2, (eqF (.agg #[.int .i64 p0, .int .i64 p1]))), (6, (eqF (.bool false))), (7, (eqF (.bool true)))] [(3, (rawBF (r0.cut 2))), (4, (rawBF (r1.cut 1))), (5, (arrBF p0 p1))] a w → Q .normal a w) : (Code.region 2 pws_o2 true).wp Tryd.prog Q a0 W0 := by
  have hP : Plan pws_o2 171 ([⟨3, none, some 15, (rawBF r0), (rawBF (r0.cut 2))⟩, ⟨4, none, some 17, (rawBF r1), (rawBF (r1.cut 1))⟩, ⟨5, none, none, (arrBF p0 p1), (arrBF p0 p1)⟩] : List BoxS) [(0, 3, 0), (2, 3, 0), (7, 4, 0), (9, 4, 0), (14, 3, 0), (16, 4, 0)] := ⟨by kernel_rfl, by kernel_rfl, by kernel_rfl, by kernel_rfl, by kernel_rfl, by kernel_rfl⟩
  refine region_st (F := [anyF, (eqF (.slice r0.A r0.k r0.c)), anyF, (eqF (.slice r0.A r0.k r0.c)), (eqF (.int .i64 (r0.k : Int))), (eqF (.int .i64 ((min r0.k 2 : Nat) : Int))), (eqF (.slice r0.A (min r0.k 2) r0.c)), anyF, (eqF (.slice r1.A r1.k r1.c)), anyF, (eqF (.slice r1.A r1.k r1.c)), (eqF (.int .i64 (r1.k : Int))), (eqF (.int .i64 ((min r1.k 1 : Nat) : Int))), (eqF (.slice r1.A (min r1.k 1) r1.c)), anyF, anyF, anyF, anyF]) hP hst rfl rfl ?_ ?_ fin
  · show Steps pws_o2 171 Wb W0 a0 _ _ _ 18
    refine steps_snoc (k := 17) ?_ (s_storeAt (i := 17) (d := 43) 1 _ 16 (isOp_of (by kernel_rfl) : IsOp pws_o2 17 none (.store 22 (.tmp 43) (.tmp 41))) (by kernel_rfl) rfl rfl rfl (by kernel_rfl) (by kernel_rfl) (by kernel_rfl) (by kernel_rfl) (by kernel_rfl) (by kernel_rfl) (src_op (f := (eqF (.slice r1.A (min r1.k 1) r1.c))) 13 (by kernel_rfl) (by kernel_rfl) rfl) storeRawMag)
    refine steps_snoc (k := 16) ?_ (step_addr (i := 16) (d := 43) (g := none) hP (isOp_of (by kernel_rfl) : IsOp pws_o2 16 none (.fieldAddr 24 (.tmp 4) 0)) (by kernel_rfl) (by kernel_rfl) 0 rfl rfl _ 1 rfl rfl (by kernel_rfl) (grd_none) fldRaw0)
    refine steps_snoc (k := 15) ?_ (s_storeAt (i := 15) (d := 42) 0 _ 14 (isOp_of (by kernel_rfl) : IsOp pws_o2 15 none (.store 22 (.tmp 42) (.tmp 34))) (by kernel_rfl) rfl rfl rfl (by kernel_rfl) (by kernel_rfl) (by kernel_rfl) (by kernel_rfl) (by kernel_rfl) (by kernel_rfl) (src_op (f := (eqF (.slice r0.A (min r0.k 2) r0.c))) 6 (by kernel_rfl) (by kernel_rfl) rfl) storeRawMag)
    refine steps_snoc (k := 14) ?_ (step_addr (i := 14) (d := 42) (g := none) hP (isOp_of (by kernel_rfl) : IsOp pws_o2 14 none (.fieldAddr 24 (.tmp 3) 0)) (by kernel_rfl) (by kernel_rfl) 0 rfl rfl _ 0 rfl rfl (by kernel_rfl) (grd_none) fldRaw0)
    refine steps_snoc (k := 13) ?_ (s_op2 (i := 13) hP (g := none) (isOp_of (by kernel_rfl) : IsOp pws_o2 13 none (.slice 22 (.tmp 36) none (some (.tmp 40)) none)) (by kernel_rfl) (by kernel_rfl) (grd_none) (src_op (f := (eqF (.slice r1.A r1.k r1.c))) 8 (by kernel_rfl) (by kernel_rfl) rfl) (src_op (f := (eqF (.int .i64 ((min r1.k 1 : Nat) : Int)))) 12 (by kernel_rfl) (by kernel_rfl) rfl) (fun ρ w hx hy => h_sliceRaw k1 1 hx hy) rfl)
    refine steps_snoc (k := 12) ?_ (s_op2 (i := 12) hP (g := none) (isOp_of (by kernel_rfl) : IsOp pws_o2 12 none (.call { callee := .builtin .min, args := #[.tmp 39, .const (.int .i64 1)], argTypes := #[3, 3] })) (by kernel_rfl) (by kernel_rfl) (grd_none) (src_op (f := (eqF (.int .i64 (r1.k : Int)))) 11 (by kernel_rfl) (by kernel_rfl) rfl) (src_const _) (fun ρ w hx hy => h_min (by omega) hx hy) rfl)
    refine steps_snoc (k := 11) ?_ (s_op1 (i := 11) hP (g := none) (isOp_of (by kernel_rfl) : IsOp pws_o2 11 none (.call { callee := .builtin .len, args := #[.tmp 38], argTypes := #[22] })) (by kernel_rfl) (by kernel_rfl) (grd_none) (src_op (f := (eqF (.slice r1.A r1.k r1.c))) 10 (by kernel_rfl) (by kernel_rfl) rfl) (fun ρ w hx => h_len hx) rfl)
    refine steps_snoc (k := 10) ?_ (s_load (i := 10) hP (g := none) (isOp_of (by kernel_rfl) : IsOp pws_o2 10 none (.load 22 (.tmp 37))) (by kernel_rfl) (by kernel_rfl) (grd_none) (bsrc_at 9 (bsrc_old 1 _ rfl rfl rfl (by kernel_rfl) (by kernel_rfl)) (by kernel_rfl) (by kernel_rfl) (by kernel_rfl)) (fun w q h => loadRawMag w q h) rfl)
    refine steps_snoc (k := 9) ?_ (step_addr (i := 9) (d := 37) (g := none) hP (isOp_of (by kernel_rfl) : IsOp pws_o2 9 none (.fieldAddr 24 (.tmp 4) 0)) (by kernel_rfl) (by kernel_rfl) 0 rfl rfl _ 1 rfl rfl (by kernel_rfl) (grd_none) fldRaw0)
    refine steps_snoc (k := 8) ?_ (s_load (i := 8) hP (g := none) (isOp_of (by kernel_rfl) : IsOp pws_o2 8 none (.load 22 (.tmp 35))) (by kernel_rfl) (by kernel_rfl) (grd_none) (bsrc_at 7 (bsrc_old 1 _ rfl rfl rfl (by kernel_rfl) (by kernel_rfl)) (by kernel_rfl) (by kernel_rfl) (by kernel_rfl)) (fun w q h => loadRawMag w q h) rfl)
    refine steps_snoc (k := 7) ?_ (step_addr (i := 7) (d := 35) (g := none) hP (isOp_of (by kernel_rfl) : IsOp pws_o2 7 none (.fieldAddr 24 (.tmp 4) 0)) (by kernel_rfl) (by kernel_rfl) 0 rfl rfl _ 1 rfl rfl (by kernel_rfl) (grd_none) fldRaw0)
    refine steps_snoc (k := 6) ?_ (s_op2 (i := 6) hP (g := none) (isOp_of (by kernel_rfl) : IsOp pws_o2 6 none (.slice 22 (.tmp 29) none (some (.tmp 33)) none)) (by kernel_rfl) (by kernel_rfl) (grd_none) (src_op (f := (eqF (.slice r0.A r0.k r0.c))) 1 (by kernel_rfl) (by kernel_rfl) rfl) (src_op (f := (eqF (.int .i64 ((min r0.k 2 : Nat) : Int)))) 5 (by kernel_rfl) (by kernel_rfl) rfl) (fun ρ w hx hy => h_sliceRaw k0 2 hx hy) rfl)
    refine steps_snoc (k := 5) ?_ (s_op2 (i := 5) hP (g := none) (isOp_of (by kernel_rfl) : IsOp pws_o2 5 none (.call { callee := .builtin .min, args := #[.tmp 32, .const (.int .i64 2)], argTypes := #[3, 3] })) (by kernel_rfl) (by kernel_rfl) (grd_none) (src_op (f := (eqF (.int .i64 (r0.k : Int)))) 4 (by kernel_rfl) (by kernel_rfl) rfl) (src_const _) (fun ρ w hx hy => h_min (by omega) hx hy) rfl)
    refine steps_snoc (k := 4) ?_ (s_op1 (i := 4) hP (g := none) (isOp_of (by kernel_rfl) : IsOp pws_o2 4 none (.call { callee := .builtin .len, args := #[.tmp 31], argTypes := #[22] })) (by kernel_rfl) (by kernel_rfl) (grd_none) (src_op (f := (eqF (.slice r0.A r0.k r0.c))) 3 (by kernel_rfl) (by kernel_rfl) rfl) (fun ρ w hx => h_len hx) rfl)
    refine steps_snoc (k := 3) ?_ (s_load (i := 3) hP (g := none) (isOp_of (by kernel_rfl) : IsOp pws_o2 3 none (.load 22 (.tmp 30))) (by kernel_rfl) (by kernel_rfl) (grd_none) (bsrc_at 2 (bsrc_old 0 _ rfl rfl rfl (by kernel_rfl) (by kernel_rfl)) (by kernel_rfl) (by kernel_rfl) (by kernel_rfl)) (fun w q h => loadRawMag w q h) rfl)
    refine steps_snoc (k := 2) ?_ (step_addr (i := 2) (d := 30) (g := none) hP (isOp_of (by kernel_rfl) : IsOp pws_o2 2 none (.fieldAddr 24 (.tmp 3) 0)) (by kernel_rfl) (by kernel_rfl) 0 rfl rfl _ 0 rfl rfl (by kernel_rfl) (grd_none) fldRaw0)
    refine steps_snoc (k := 1) ?_ (s_load (i := 1) hP (g := none) (isOp_of (by kernel_rfl) : IsOp pws_o2 1 none (.load 22 (.tmp 28))) (by kernel_rfl) (by kernel_rfl) (grd_none) (bsrc_at 0 (bsrc_old 0 _ rfl rfl rfl (by kernel_rfl) (by kernel_rfl)) (by kernel_rfl) (by kernel_rfl) (by kernel_rfl)) (fun w q h => loadRawMag w q h) rfl)
    refine steps_snoc (k := 0) ?_ (step_addr (i := 0) (d := 28) (g := none) hP (isOp_of (by kernel_rfl) : IsOp pws_o2 0 none (.fieldAddr 24 (.tmp 3) 0)) (by kernel_rfl) (by kernel_rfl) 0 rfl rfl _ 0 rfl rfl (by kernel_rfl) (grd_none) fldRaw0)
    exact steps_nil
  · intro m a w hI hm
    exact ⟨(low_fact hst 0 rfl (by kernel_rfl) hI), (low_fact hst 1 rfl (by kernel_rfl) hI), (low_fact hst 2 rfl (by kernel_rfl) hI), (low_fact hst 3 rfl (by kernel_rfl) hI), (low_fact hst 4 rfl (by kernel_rfl) hI), trivial⟩
set_option maxRecDepth 100000 in
theorem pws_r3b {Q : Exit → Act → World → Prop} {Wb W0 : World} {a0 : Act} {r0 r1 : RawArg} (_hS : Sanity) (_ht : P10 Wb) (k0 : r0.Ok Wb) (k1 : r1.Ok Wb) {p0 p1 : Int} (_hn : 256 < p0) (_hl : p0 ≤ 9223372036854775807) (hst : St Wb 171 [(0, (eqF r0.val_)), (1, (eqF r1.val_)), (2, (eqF (.agg #[.int .i64 p0, .int .i64 p1]))), (6, (eqF (.bool false))), (7, (eqF (.bool true)))] [(3, (rawBF (r0.cut 2))), (4, (rawBF (r1.cut 1))), (5, (arrBF p0 p1))] a0 W0)
    (fin : ∀ a w, St Wb 171 [(0, (eqF r0.val_)), (1, (eqF r1.val_)), (2, (eqF (.agg #[.int .i64 p0, .int .i64 p1]))), (6, (eqF (.bool false))), (7, (eqF (.bool true)))] [(3, (rawBF (r0.cut 2))), (4, (rawBF (r1.cut 1))), (5, (arrBF p0 p1)), (8, (boxIF (r0.cut 2).int)), (9, (boxIF (r1.cut 1).int))] a w → Q .normal a w) : (Code.region 3 pws_o3 true).wp Tryd.prog Q a0 W0 := by
  have hP : Plan pws_o3 171 ([⟨3, none, none, (rawBF (r0.cut 2)), (rawBF (r0.cut 2))⟩, ⟨4, none, none, (rawBF (r1.cut 1)), (rawBF (r1.cut 1))⟩, ⟨5, none, none, (arrBF p0 p1), (arrBF p0 p1)⟩, ⟨8, some 4, some 6, zeroIF, (boxIF (r0.cut 2).int)⟩, ⟨9, some 5, some 7, zeroIF, (boxIF (r1.cut 1).int)⟩] : List BoxS) [] := ⟨by kernel_rfl, by kernel_rfl, by kernel_rfl, by kernel_rfl, by kernel_rfl, by kernel_rfl⟩
  refine region_st (F := [(eqF (r0.cut 2).val_), (intF (r0.cut 2).int), (eqF (r1.cut 1).val_), (intF (r1.cut 1).int), anyF, anyF, anyF, anyF]) hP hst rfl rfl ?_ ?_ fin
  · show Steps pws_o3 171 Wb W0 a0 _ _ _ 8
    refine steps_snoc (k := 7) ?_ (s_store (i := 7) 4 _ (isOp_of (by kernel_rfl) : IsOp pws_o3 7 none (.store 27 (.tmp 9) (.tmp 47))) (by kernel_rfl) rfl rfl rfl (by kernel_rfl) (by kernel_rfl) (by kernel_rfl) (src_op (f := (intF (r1.cut 1).int)) 3 (by kernel_rfl) (by kernel_rfl) rfl) (storeI_zero _))
    refine steps_snoc (k := 6) ?_ (s_store (i := 6) 3 _ (isOp_of (by kernel_rfl) : IsOp pws_o3 6 none (.store 27 (.tmp 8) (.tmp 45))) (by kernel_rfl) rfl rfl rfl (by kernel_rfl) (by kernel_rfl) (by kernel_rfl) (src_op (f := (intF (r0.cut 2).int)) 1 (by kernel_rfl) (by kernel_rfl) rfl) (storeI_zero _))
    refine steps_snoc (k := 5) ?_ (s_alloc (i := 5) (d := 9) hP 4 _ (isOp_of (by kernel_rfl) : IsOp pws_o3 5 none (.alloc 27)) (by kernel_rfl) rfl rfl rfl (by kernel_rfl) (by kernel_rfl) (by kernel_rfl) (by kernel_rfl) rfl allocI_run allocI_old)
    refine steps_snoc (k := 4) ?_ (s_alloc (i := 4) (d := 8) hP 3 _ (isOp_of (by kernel_rfl) : IsOp pws_o3 4 none (.alloc 27)) (by kernel_rfl) rfl rfl rfl (by kernel_rfl) (by kernel_rfl) (by kernel_rfl) (by kernel_rfl) rfl allocI_run allocI_old)
    refine steps_snoc (k := 3) ?_ (s_call1 (i := 3) hP (g := none) (isOp_of (by kernel_rfl) : IsOp pws_o3 3 none (.call { callee := .value (.func 12), args := #[.tmp 46], argTypes := #[24] })) (by kernel_rfl) (by kernel_rfl) (grd_none) (src_op (f := (eqF (r1.cut 1).val_)) 2 (by kernel_rfl) (by kernel_rfl) rfl) pwspl_quadrature_quadraturelaw01_made (fun w v0 hb h0 => kMade (k1.cut 1) hb h0) rfl)
    refine steps_snoc (k := 2) ?_ (s_load (i := 2) hP (g := none) (isOp_of (by kernel_rfl) : IsOp pws_o3 2 none (.load 24 (.tmp 4))) (by kernel_rfl) (by kernel_rfl) (grd_none) (bsrc_old 1 _ rfl rfl rfl (by kernel_rfl) (by kernel_rfl)) (fun w q h => loadR_raw w q h) rfl)
    refine steps_snoc (k := 1) ?_ (s_call1 (i := 1) hP (g := none) (isOp_of (by kernel_rfl) : IsOp pws_o3 1 none (.call { callee := .value (.func 12), args := #[.tmp 44], argTypes := #[24] })) (by kernel_rfl) (by kernel_rfl) (grd_none) (src_op (f := (eqF (r0.cut 2).val_)) 0 (by kernel_rfl) (by kernel_rfl) rfl) pwspl_quadrature_quadraturelaw01_made (fun w v0 hb h0 => kMade (k0.cut 2) hb h0) rfl)
    refine steps_snoc (k := 0) ?_ (s_load (i := 0) hP (g := none) (isOp_of (by kernel_rfl) : IsOp pws_o3 0 none (.load 24 (.tmp 3))) (by kernel_rfl) (by kernel_rfl) (grd_none) (bsrc_old 0 _ rfl rfl rfl (by kernel_rfl) (by kernel_rfl)) (fun w q h => loadR_raw w q h) rfl)
    exact steps_nil
  · intro m a w hI hm
    exact ⟨(low_fact hst 0 rfl (by kernel_rfl) hI), (low_fact hst 1 rfl (by kernel_rfl) hI), (low_fact hst 2 rfl (by kernel_rfl) hI), (low_fact hst 3 rfl (by kernel_rfl) hI), (low_fact hst 4 rfl (by kernel_rfl) hI), trivial⟩
set_option maxRecDepth 100000 in
theorem pws_r4b {Q : Exit → Act → World → Prop} {Wb W0 : World} {a0 : Act} {r0 r1 : RawArg} (_hS : Sanity) (_ht : P10 Wb) (_k0 : r0.Ok Wb) (_k1 : r1.Ok Wb) {p0 p1 : Int} (hn : 256 < p0) (_hl : p0 ≤ 9223372036854775807) (hst : St Wb 171 [(0, (eqF r0.val_)), (1, (eqF r1.val_)), (2, (eqF (.agg #[.int .i64 p0, .int .i64 p1]))), (6, (eqF (.bool false))), (7, (eqF (.bool true)))] [(3, (rawBF (r0.cut 2))), (4, (rawBF (r1.cut 1))), (5, (arrBF p0 p1)), (8, (boxIF (r0.cut 2).int)), (9, (boxIF (r1.cut 1).int))] a0 W0)
    (fin : ∀ a w, St Wb 171 [(0, (eqF r0.val_)), (1, (eqF r1.val_)), (2, (eqF (.agg #[.int .i64 p0, .int .i64 p1]))), (6, (eqF (.bool false))), (7, (eqF (.bool true))), (11, (eqF (.int .i64 1)))] [(3, (rawBF (r0.cut 2))), (4, (rawBF (r1.cut 1))), (5, (arrBF p0 p1)), (8, (boxIF (r0.cut 2).int)), (9, (boxIF (r1.cut 1).int)), (10, (boxIF 0))] a w → Q .normal a w) : (Code.region 4 pws_o4 false).wp Tryd.prog Q a0 W0 := by
  have hP : Plan pws_o4 171 ([⟨3, none, none, (rawBF (r0.cut 2)), (rawBF (r0.cut 2))⟩, ⟨4, none, none, (rawBF (r1.cut 1)), (rawBF (r1.cut 1))⟩, ⟨5, none, none, (arrBF p0 p1), (arrBF p0 p1)⟩, ⟨8, none, none, (boxIF (r0.cut 2).int), (boxIF (r0.cut 2).int)⟩, ⟨9, none, none, (boxIF (r1.cut 1).int), (boxIF (r1.cut 1).int)⟩, ⟨10, some 7, some 8, zeroIF, (boxIF 0)⟩] : List BoxS) [(1, 5, 0)] := ⟨by kernel_rfl, by kernel_rfl, by kernel_rfl, by kernel_rfl, by kernel_rfl, by kernel_rfl⟩
  refine region_st (F := [(intF (r0.cut 2).int), anyF, (eqF (.int .i64 p0)), (tup2F (intF 0) (eqF (.int .i64 1))), (tup2F (intF 0) (eqF (.int .i64 1))), (intF 0), (eqF (.int .i64 1)), anyF, anyF, (eqF (.int .i64 1))]) hP hst rfl rfl ?_ ?_ fin
  · show Steps pws_o4 171 Wb W0 a0 _ _ _ 10
    refine steps_snoc (k := 9) ?_ (s_assign (i := 9) hP (g := none) (isOp_of (by kernel_rfl) : IsOp pws_o4 9 none (.assign (.tmp 54))) (by kernel_rfl) (by kernel_rfl) (grd_none) (src_op (f := (eqF (.int .i64 1))) 6 (by kernel_rfl) (by kernel_rfl) rfl) rfl)
    refine steps_snoc (k := 8) ?_ (s_store (i := 8) 5 _ (isOp_of (by kernel_rfl) : IsOp pws_o4 8 none (.store 27 (.tmp 10) (.tmp 53))) (by kernel_rfl) rfl rfl rfl (by kernel_rfl) (by kernel_rfl) (by kernel_rfl) (src_op (f := (intF 0)) 5 (by kernel_rfl) (by kernel_rfl) rfl) (storeI_zero _))
    refine steps_snoc (k := 7) ?_ (s_alloc (i := 7) (d := 10) hP 5 _ (isOp_of (by kernel_rfl) : IsOp pws_o4 7 none (.alloc 27)) (by kernel_rfl) rfl rfl rfl (by kernel_rfl) (by kernel_rfl) (by kernel_rfl) (by kernel_rfl) rfl allocI_run allocI_old)
    refine steps_snoc (k := 6) ?_ (s_op1 (i := 6) hP (g := none) (isOp_of (by kernel_rfl) : IsOp pws_o4 6 none (.extract (.tmp 48) 1)) (by kernel_rfl) (by kernel_rfl) (grd_none) (src_op (f := (tup2F (intF 0) (eqF (.int .i64 1)))) 4 (by kernel_rfl) (by kernel_rfl) rfl) (fun ρ w hx => h_ext2_1 hx) rfl)
    refine steps_snoc (k := 5) ?_ (s_op1 (i := 5) hP (g := none) (isOp_of (by kernel_rfl) : IsOp pws_o4 5 none (.extract (.tmp 48) 0)) (by kernel_rfl) (by kernel_rfl) (grd_none) (src_op (f := (tup2F (intF 0) (eqF (.int .i64 1)))) 4 (by kernel_rfl) (by kernel_rfl) rfl) (fun ρ w hx => h_ext2_0 hx) rfl)
    refine steps_snoc (k := 4) ?_ (s_move (i := 4) hP (g := none) (isOp_of (by kernel_rfl) : IsOp pws_o4 4 none (.move (.tmp 52))) (by kernel_rfl) (by kernel_rfl) (grd_none) (src_op (f := (tup2F (intF 0) (eqF (.int .i64 1)))) 3 (by kernel_rfl) (by kernel_rfl) rfl) rfl)
    refine steps_snoc (k := 3) ?_ (s_call2 (i := 3) hP (g := none) (isOp_of (by kernel_rfl) : IsOp pws_o4 3 none (.call { callee := .value (.func 36), args := #[.tmp 49, .tmp 51], argTypes := #[27, 3] })) (by kernel_rfl) (by kernel_rfl) (grd_none) (src_op (f := (intF (r0.cut 2).int)) 0 (by kernel_rfl) (by kernel_rfl) rfl) (src_op (f := (eqF (.int .i64 p0))) 2 (by kernel_rfl) (by kernel_rfl) rfl) pwspl_quadrature_integer_Pow (fun w v0 v1 hb h0 h1 => kPowE h0 h1 (.inr hn) (by omega) (by omega)) rfl)
    refine steps_snoc (k := 2) ?_ (s_load (i := 2) hP (g := none) (isOp_of (by kernel_rfl) : IsOp pws_o4 2 none (.load 3 (.tmp 50))) (by kernel_rfl) (by kernel_rfl) (grd_none) (bsrc_at 1 (bsrc_old 2 _ rfl rfl rfl (by kernel_rfl) (by kernel_rfl)) (by kernel_rfl) (by kernel_rfl) (by kernel_rfl)) (fun w q h => loadA0 w q h) rfl)
    refine steps_snoc (k := 1) ?_ (step_index (i := 1) (d := 50) (g := none) hP (isOp_of (by kernel_rfl) : IsOp pws_o4 1 none (.indexAddr 46 (.tmp 5) (.const (.int .i64 0)))) (by kernel_rfl) (by kernel_rfl) 0 rfl rfl _ 2 rfl rfl (by kernel_rfl) (grd_none) idxA0)
    refine steps_snoc (k := 0) ?_ (s_load (i := 0) hP (g := none) (isOp_of (by kernel_rfl) : IsOp pws_o4 0 none (.load 27 (.tmp 8))) (by kernel_rfl) (by kernel_rfl) (grd_none) (bsrc_old 3 _ rfl rfl rfl (by kernel_rfl) (by kernel_rfl)) (fun w q h => loadI_int w q h) rfl)
    exact steps_nil
  · intro m a w hI hm
    exact ⟨(low_fact hst 0 rfl (by kernel_rfl) hI), (low_fact hst 1 rfl (by kernel_rfl) hI), (low_fact hst 2 rfl (by kernel_rfl) hI), (low_fact hst 3 rfl (by kernel_rfl) hI), (low_fact hst 4 rfl (by kernel_rfl) hI), (out_op hI hm 9 11 _ (by kernel_rfl) rfl), trivial⟩
set_option maxRecDepth 100000 in
theorem pws_r5b {Q : Exit → Act → World → Prop} {Wb W0 : World} {a0 : Act} {r0 r1 : RawArg} (_hS : Sanity) (_ht : P10 Wb) (_k0 : r0.Ok Wb) (_k1 : r1.Ok Wb) {p0 p1 : Int} (_hn : 256 < p0) (_hl : p0 ≤ 9223372036854775807) (hst : St Wb 171 [(0, (eqF r0.val_)), (1, (eqF r1.val_)), (2, (eqF (.agg #[.int .i64 p0, .int .i64 p1]))), (6, (eqF (.bool false))), (7, (eqF (.bool true))), (11, (eqF (.int .i64 1)))] [(3, (rawBF (r0.cut 2))), (4, (rawBF (r1.cut 1))), (5, (arrBF p0 p1)), (8, (boxIF (r0.cut 2).int)), (9, (boxIF (r1.cut 1).int)), (10, (boxIF 0))] a0 W0)
    (fin : ∀ a w, St Wb 171 [(0, (eqF r0.val_)), (1, (eqF r1.val_)), (2, (eqF (.agg #[.int .i64 p0, .int .i64 p1]))), (6, (eqF (.bool false))), (7, (eqF (.bool true))), (11, (eqF (.int .i64 1))), (66, (eqF (.bool true)))] [(3, (rawBF (r0.cut 2))), (4, (rawBF (r1.cut 1))), (5, (arrBF p0 p1)), (8, (boxIF (r0.cut 2).int)), (9, (boxIF (r1.cut 1).int)), (10, (boxIF 0))] a w → Q .normal a w) : (Code.region 5 pws_o5 false).wp Tryd.prog Q a0 W0 := by
  have hP : Plan pws_o5 171 ([⟨3, none, none, (rawBF (r0.cut 2)), (rawBF (r0.cut 2))⟩, ⟨4, none, none, (rawBF (r1.cut 1)), (rawBF (r1.cut 1))⟩, ⟨5, none, none, (arrBF p0 p1), (arrBF p0 p1)⟩, ⟨8, none, none, (boxIF (r0.cut 2).int), (boxIF (r0.cut 2).int)⟩, ⟨9, none, none, (boxIF (r1.cut 1).int), (boxIF (r1.cut 1).int)⟩, ⟨10, none, none, (boxIF 0), (boxIF 0)⟩] : List BoxS) [] := ⟨by kernel_rfl, by kernel_rfl, by kernel_rfl, by kernel_rfl, by kernel_rfl, by kernel_rfl⟩
  refine region_st (F := [(eqF (.int .i64 1)), (eqF (.bool true)), (eqF (.bool true)), anyF, anyF, anyF, (eqF (.bool true)), (eqF (.bool true)), anyF, anyF, anyF, (eqF (.bool true))]) hP hst rfl rfl ?_ ?_ fin
  · show Steps pws_o5 171 Wb W0 a0 _ _ _ 12
    refine steps_snoc (k := 11) ?_ (s_pickT (i := 11) hP (g := none) (isOp_of (by kernel_rfl) : IsOp pws_o5 11 none (.pick (.tmp 62) (.const (.bool true)) (.tmp 65))) (by kernel_rfl) (by kernel_rfl) (grd_none) (src_op (f := (eqF (.bool true))) 7 (by kernel_rfl) (by kernel_rfl) rfl) (src_const _) rfl)
    refine steps_snoc (k := 10) ?_ (s_skip (i := 10) hP (g := (some (7, false))) (isOp_of (by kernel_rfl) : IsOp pws_o5 10 (some (7, false)) (.binOp .gtr 3 (.tmp 64) (.const (.int .i64 256)) 3)) (by kernel_rfl) (by kernel_rfl) (grd_op (d := 62) (by kernel_rfl) (by kernel_rfl) rfl rfl) rfl)
    refine steps_snoc (k := 9) ?_ (s_skip (i := 9) hP (g := (some (7, false))) (isOp_of (by kernel_rfl) : IsOp pws_o5 9 (some (7, false)) (.load 3 (.tmp 63))) (by kernel_rfl) (by kernel_rfl) (grd_op (d := 62) (by kernel_rfl) (by kernel_rfl) rfl rfl) rfl)
    refine steps_snoc (k := 8) ?_ (s_skip (i := 8) hP (g := (some (7, false))) (isOp_of (by kernel_rfl) : IsOp pws_o5 8 (some (7, false)) (.indexAddr 46 (.tmp 5) (.const (.int .i64 0)))) (by kernel_rfl) (by kernel_rfl) (grd_op (d := 62) (by kernel_rfl) (by kernel_rfl) rfl rfl) rfl)
    refine steps_snoc (k := 7) ?_ (s_move (i := 7) hP (g := none) (isOp_of (by kernel_rfl) : IsOp pws_o5 7 none (.move (.tmp 61))) (by kernel_rfl) (by kernel_rfl) (grd_none) (src_op (f := (eqF (.bool true))) 6 (by kernel_rfl) (by kernel_rfl) rfl) rfl)
    refine steps_snoc (k := 6) ?_ (s_pickT (i := 6) hP (g := none) (isOp_of (by kernel_rfl) : IsOp pws_o5 6 none (.pick (.tmp 57) (.const (.bool true)) (.tmp 60))) (by kernel_rfl) (by kernel_rfl) (grd_none) (src_op (f := (eqF (.bool true))) 2 (by kernel_rfl) (by kernel_rfl) rfl) (src_const _) rfl)
    refine steps_snoc (k := 5) ?_ (s_skip (i := 5) hP (g := (some (2, false))) (isOp_of (by kernel_rfl) : IsOp pws_o5 5 (some (2, false)) (.binOp .lss 3 (.tmp 59) (.const (.int .i64 0)) 3)) (by kernel_rfl) (by kernel_rfl) (grd_op (d := 57) (by kernel_rfl) (by kernel_rfl) rfl rfl) rfl)
    refine steps_snoc (k := 4) ?_ (s_skip (i := 4) hP (g := (some (2, false))) (isOp_of (by kernel_rfl) : IsOp pws_o5 4 (some (2, false)) (.load 3 (.tmp 58))) (by kernel_rfl) (by kernel_rfl) (grd_op (d := 57) (by kernel_rfl) (by kernel_rfl) rfl rfl) rfl)
    refine steps_snoc (k := 3) ?_ (s_skip (i := 3) hP (g := (some (2, false))) (isOp_of (by kernel_rfl) : IsOp pws_o5 3 (some (2, false)) (.indexAddr 46 (.tmp 5) (.const (.int .i64 0)))) (by kernel_rfl) (by kernel_rfl) (grd_op (d := 57) (by kernel_rfl) (by kernel_rfl) rfl rfl) rfl)
    refine steps_snoc (k := 2) ?_ (s_move (i := 2) hP (g := none) (isOp_of (by kernel_rfl) : IsOp pws_o5 2 none (.move (.tmp 56))) (by kernel_rfl) (by kernel_rfl) (grd_none) (src_op (f := (eqF (.bool true))) 1 (by kernel_rfl) (by kernel_rfl) rfl) rfl)
    refine steps_snoc (k := 1) ?_ (s_op2 (i := 1) hP (g := none) (isOp_of (by kernel_rfl) : IsOp pws_o5 1 none (.binOp .neq 42 (.tmp 55) (.const (.int .i64 0)) 42)) (by kernel_rfl) (by kernel_rfl) (grd_none) (src_op (f := (eqF (.int .i64 1))) 0 (by kernel_rfl) (by kernel_rfl) rfl) (src_const _) (fun ρ w hx hy => h_neqI (r := true) (by decide) hx hy) rfl)
    refine steps_snoc (k := 0) ?_ (s_move (i := 0) hP (g := none) (isOp_of (by kernel_rfl) : IsOp pws_o5 0 none (.move (.tmp 11))) (by kernel_rfl) (by kernel_rfl) (grd_none) (src_low hst 5 rfl (by kernel_rfl)) rfl)
    exact steps_nil
  · intro m a w hI hm
    exact ⟨(low_fact hst 0 rfl (by kernel_rfl) hI), (low_fact hst 1 rfl (by kernel_rfl) hI), (low_fact hst 2 rfl (by kernel_rfl) hI), (low_fact hst 3 rfl (by kernel_rfl) hI), (low_fact hst 4 rfl (by kernel_rfl) hI), (low_fact hst 5 rfl (by kernel_rfl) hI), (out_op hI hm 11 66 _ (by kernel_rfl) rfl), trivial⟩
set_option maxRecDepth 100000 in
theorem pws_r6b {Q : Exit → Act → World → Prop} {Wb W0 : World} {a0 : Act} {r0 r1 : RawArg} (_hS : Sanity) (_ht : P10 Wb) (_k0 : r0.Ok Wb) (_k1 : r1.Ok Wb) {p0 p1 : Int} (_hn : 256 < p0) (_hl : p0 ≤ 9223372036854775807) (hst : St Wb 171 [(0, (eqF r0.val_)), (1, (eqF r1.val_)), (2, (eqF (.agg #[.int .i64 p0, .int .i64 p1]))), (6, (eqF (.bool false))), (7, (eqF (.bool true))), (11, (eqF (.int .i64 1))), (66, (eqF (.bool true)))] [(3, (rawBF (r0.cut 2))), (4, (rawBF (r1.cut 1))), (5, (arrBF p0 p1)), (8, (boxIF (r0.cut 2).int)), (9, (boxIF (r1.cut 1).int)), (10, (boxIF 0))] a0 W0)
    (fin : ∀ a w, St Wb 171 [(0, (eqF r0.val_)), (1, (eqF r1.val_)), (2, (eqF (.agg #[.int .i64 p0, .int .i64 p1]))), (6, (eqF (.bool true))), (7, (eqF (.bool true))), (11, (eqF (.int .i64 1))), (66, (eqF (.bool true)))] [(3, (rawBF (r0.cut 2))), (4, (rawBF (r1.cut 1))), (5, (arrBF p0 p1)), (8, (boxIF (r0.cut 2).int)), (9, (boxIF (r1.cut 1).int)), (10, (boxIF 0))] a w → Q .normal a w) : (Code.region 6 pws_o6 false).wp Tryd.prog Q a0 W0 := by
  have hP : Plan pws_o6 171 ([⟨3, none, none, (rawBF (r0.cut 2)), (rawBF (r0.cut 2))⟩, ⟨4, none, none, (rawBF (r1.cut 1)), (rawBF (r1.cut 1))⟩, ⟨5, none, none, (arrBF p0 p1), (arrBF p0 p1)⟩, ⟨8, none, none, (boxIF (r0.cut 2).int), (boxIF (r0.cut 2).int)⟩, ⟨9, none, none, (boxIF (r1.cut 1).int), (boxIF (r1.cut 1).int)⟩, ⟨10, none, none, (boxIF 0), (boxIF 0)⟩] : List BoxS) [(3, 5, 0), (7, 5, 0)] := ⟨by kernel_rfl, by kernel_rfl, by kernel_rfl, by kernel_rfl, by kernel_rfl, by kernel_rfl⟩
  refine region_st (F := [(eqF (.int .i64 1)), (eqF (.bool true)), (eqF (.bool true)), anyF, (eqF (.int .i64 p0)), (eqF (.bool false)), (eqF (.bool false)), anyF, (eqF (.int .i64 p0)), (eqF (.bool true)), (eqF (.bool true)), (eqF (.bool true)), (eqF (.bool true)), (eqF (.bool true)), (eqF (.bool true)), (eqF (.bool true))]) hP hst rfl rfl ?_ ?_ fin
  · show Steps pws_o6 171 Wb W0 a0 _ _ _ 16
    refine steps_snoc (k := 15) ?_ (s_assign (i := 15) hP (g := none) (isOp_of (by kernel_rfl) : IsOp pws_o6 15 none (.assign (.tmp 81))) (by kernel_rfl) (by kernel_rfl) (grd_none) (src_op (f := (eqF (.bool true))) 14 (by kernel_rfl) (by kernel_rfl) rfl) rfl)
    refine steps_snoc (k := 14) ?_ (s_pickT (i := 14) hP (g := none) (isOp_of (by kernel_rfl) : IsOp pws_o6 14 none (.pick (.tmp 79) (.tmp 80) (.const (.bool false)))) (by kernel_rfl) (by kernel_rfl) (grd_none) (src_op (f := (eqF (.bool true))) 12 (by kernel_rfl) (by kernel_rfl) rfl) (src_op (f := (eqF (.bool true))) 13 (by kernel_rfl) (by kernel_rfl) rfl) rfl)
    refine steps_snoc (k := 13) ?_ (s_move (i := 13) hP (g := (some (12, true))) (isOp_of (by kernel_rfl) : IsOp pws_o6 13 (some (12, true)) (.move (.tmp 7))) (by kernel_rfl) (by kernel_rfl) (grd_op (d := 79) (by kernel_rfl) (by kernel_rfl) rfl rfl) (src_low hst 4 rfl (by kernel_rfl)) rfl)
    refine steps_snoc (k := 12) ?_ (s_move (i := 12) hP (g := none) (isOp_of (by kernel_rfl) : IsOp pws_o6 12 none (.move (.tmp 78))) (by kernel_rfl) (by kernel_rfl) (grd_none) (src_op (f := (eqF (.bool true))) 11 (by kernel_rfl) (by kernel_rfl) rfl) rfl)
    refine steps_snoc (k := 11) ?_ (s_pickT (i := 11) hP (g := none) (isOp_of (by kernel_rfl) : IsOp pws_o6 11 none (.pick (.tmp 69) (.tmp 77) (.const (.bool false)))) (by kernel_rfl) (by kernel_rfl) (grd_none) (src_op (f := (eqF (.bool true))) 2 (by kernel_rfl) (by kernel_rfl) rfl) (src_op (f := (eqF (.bool true))) 10 (by kernel_rfl) (by kernel_rfl) rfl) rfl)
    refine steps_snoc (k := 10) ?_ (s_pickF (i := 10) hP (g := (some (2, true))) (isOp_of (by kernel_rfl) : IsOp pws_o6 10 (some (2, true)) (.pick (.tmp 73) (.const (.bool true)) (.tmp 76))) (by kernel_rfl) (by kernel_rfl) (grd_op (d := 69) (by kernel_rfl) (by kernel_rfl) rfl rfl) (src_op (f := (eqF (.bool false))) 6 (by kernel_rfl) (by kernel_rfl) rfl) (src_op (f := (eqF (.bool true))) 9 (by kernel_rfl) (by kernel_rfl) rfl) rfl)
    refine steps_snoc (k := 9) ?_ (s_op2 (i := 9) hP (g := (some (6, false))) (isOp_of (by kernel_rfl) : IsOp pws_o6 9 (some (6, false)) (.binOp .gtr 3 (.tmp 75) (.const (.int .i64 256)) 3)) (by kernel_rfl) (by kernel_rfl) (grd_op (d := 73) (by kernel_rfl) (by kernel_rfl) rfl rfl) (src_op (f := (eqF (.int .i64 p0))) 8 (by kernel_rfl) (by kernel_rfl) rfl) (src_const _) (fun ρ w hx hy => h_gtr (r := true) (by simp; omega) hx hy) rfl)
    refine steps_snoc (k := 8) ?_ (s_load (i := 8) hP (g := (some (6, false))) (isOp_of (by kernel_rfl) : IsOp pws_o6 8 (some (6, false)) (.load 3 (.tmp 74))) (by kernel_rfl) (by kernel_rfl) (grd_op (d := 73) (by kernel_rfl) (by kernel_rfl) rfl rfl) (bsrc_at 7 (bsrc_old 2 _ rfl rfl rfl (by kernel_rfl) (by kernel_rfl)) (by kernel_rfl) (by kernel_rfl) (by kernel_rfl)) (fun w q h => loadA0 w q h) rfl)
    refine steps_snoc (k := 7) ?_ (step_index (i := 7) (d := 74) (g := (some (6, false))) hP (isOp_of (by kernel_rfl) : IsOp pws_o6 7 (some (6, false)) (.indexAddr 46 (.tmp 5) (.const (.int .i64 0)))) (by kernel_rfl) (by kernel_rfl) 0 rfl rfl _ 2 rfl rfl (by kernel_rfl) (grd_op (d := 73) (by kernel_rfl) (by kernel_rfl) rfl rfl) idxA0)
    refine steps_snoc (k := 6) ?_ (s_move (i := 6) hP (g := (some (2, true))) (isOp_of (by kernel_rfl) : IsOp pws_o6 6 (some (2, true)) (.move (.tmp 72))) (by kernel_rfl) (by kernel_rfl) (grd_op (d := 69) (by kernel_rfl) (by kernel_rfl) rfl rfl) (src_op (f := (eqF (.bool false))) 5 (by kernel_rfl) (by kernel_rfl) rfl) rfl)
    refine steps_snoc (k := 5) ?_ (s_op2 (i := 5) hP (g := (some (2, true))) (isOp_of (by kernel_rfl) : IsOp pws_o6 5 (some (2, true)) (.binOp .lss 3 (.tmp 71) (.const (.int .i64 0)) 3)) (by kernel_rfl) (by kernel_rfl) (grd_op (d := 69) (by kernel_rfl) (by kernel_rfl) rfl rfl) (src_op (f := (eqF (.int .i64 p0))) 4 (by kernel_rfl) (by kernel_rfl) rfl) (src_const _) (fun ρ w hx hy => h_lss (r := false) (by simp; omega) hx hy) rfl)
    refine steps_snoc (k := 4) ?_ (s_load (i := 4) hP (g := (some (2, true))) (isOp_of (by kernel_rfl) : IsOp pws_o6 4 (some (2, true)) (.load 3 (.tmp 70))) (by kernel_rfl) (by kernel_rfl) (grd_op (d := 69) (by kernel_rfl) (by kernel_rfl) rfl rfl) (bsrc_at 3 (bsrc_old 2 _ rfl rfl rfl (by kernel_rfl) (by kernel_rfl)) (by kernel_rfl) (by kernel_rfl) (by kernel_rfl)) (fun w q h => loadA0 w q h) rfl)
    refine steps_snoc (k := 3) ?_ (step_index (i := 3) (d := 70) (g := (some (2, true))) hP (isOp_of (by kernel_rfl) : IsOp pws_o6 3 (some (2, true)) (.indexAddr 46 (.tmp 5) (.const (.int .i64 0)))) (by kernel_rfl) (by kernel_rfl) 0 rfl rfl _ 2 rfl rfl (by kernel_rfl) (grd_op (d := 69) (by kernel_rfl) (by kernel_rfl) rfl rfl) idxA0)
    refine steps_snoc (k := 2) ?_ (s_move (i := 2) hP (g := none) (isOp_of (by kernel_rfl) : IsOp pws_o6 2 none (.move (.tmp 68))) (by kernel_rfl) (by kernel_rfl) (grd_none) (src_op (f := (eqF (.bool true))) 1 (by kernel_rfl) (by kernel_rfl) rfl) rfl)
    refine steps_snoc (k := 1) ?_ (s_op2 (i := 1) hP (g := none) (isOp_of (by kernel_rfl) : IsOp pws_o6 1 none (.binOp .eql 42 (.tmp 67) (.const (.int .i64 1)) 42)) (by kernel_rfl) (by kernel_rfl) (grd_none) (src_op (f := (eqF (.int .i64 1))) 0 (by kernel_rfl) (by kernel_rfl) rfl) (src_const _) (fun ρ w hx hy => h_eqlI (r := true) (by decide) hx hy) rfl)
    refine steps_snoc (k := 0) ?_ (s_move (i := 0) hP (g := none) (isOp_of (by kernel_rfl) : IsOp pws_o6 0 none (.move (.tmp 11))) (by kernel_rfl) (by kernel_rfl) (grd_none) (src_low hst 5 rfl (by kernel_rfl)) rfl)
    exact steps_nil
  · intro m a w hI hm
    exact ⟨(low_fact hst 0 rfl (by kernel_rfl) hI), (low_fact hst 1 rfl (by kernel_rfl) hI), (low_fact hst 2 rfl (by kernel_rfl) hI), (out_op hI hm 15 6 _ (by kernel_rfl) rfl), (low_fact hst 4 rfl (by kernel_rfl) hI), (low_fact hst 5 rfl (by kernel_rfl) hI), (low_fact hst 6 rfl (by kernel_rfl) hI), trivial⟩
set_option maxRecDepth 100000 in
theorem pws_r0c {Q : Exit → Act → World → Prop} {Wb W0 : World} {a0 : Act} {r0 r1 : RawArg} (_hS : Sanity) (_ht : P10 Wb) (_k0 : r0.Ok Wb) (_k1 : r1.Ok Wb) {p0 p1 : Int} {n m q : Nat} (_hp : p0 = (n : Int)) (_hn : n ≤ 256) (_hm : p0.tmod 20 = (m : Int)) (_hq : (IntKind.u64.wrap p1).tmod 20 = (q : Int)) (_hm2 : m ≤ 19) (_hq2 : q ≤ 19) (hst : St Wb 171 [(0, (eqF r0.val_)), (1, (eqF r1.val_)), (2, (eqF (.agg #[.int .i64 p0, .int .i64 p1])))] [] a0 W0)
    (fin : ∀ a w, St Wb 171 [(0, (eqF r0.val_)), (1, (eqF r1.val_)), (2, (eqF (.agg #[.int .i64 p0, .int .i64 p1]))), (6, (eqF (.bool false)))] [(3, (rawBF r0)), (4, (rawBF r1)), (5, (arrBF p0 p1))] a w → Q .normal a w) : (Code.region 0 pws_o0 false).wp Tryd.prog Q a0 W0 := by
  have hP : Plan pws_o0 171 ([⟨3, some 0, none, (rawBF r0), (rawBF r0)⟩, ⟨4, some 1, none, (rawBF r1), (rawBF r1)⟩, ⟨5, some 2, none, (arrBF p0 p1), (arrBF p0 p1)⟩] : List BoxS) [] := ⟨by kernel_rfl, by kernel_rfl, by kernel_rfl, by kernel_rfl, by kernel_rfl, by kernel_rfl⟩
  refine region_st (F := [anyF, anyF, anyF, (eqF (.bool false))]) hP hst rfl rfl ?_ ?_ fin
  · show Steps pws_o0 171 Wb W0 a0 _ _ _ 4
    refine steps_snoc (k := 3) ?_ (s_assign (i := 3) hP (g := none) (isOp_of (by kernel_rfl) : IsOp pws_o0 3 none (.assign (.const (.bool false)))) (by kernel_rfl) (by kernel_rfl) (grd_none) (src_const _) rfl)
    refine steps_snoc (k := 2) ?_ (s_box (i := 2) (d := 5) hP 2 _ (isOp_of (by kernel_rfl) : IsOp pws_o0 2 none (.box 46 (.tmp 2))) (by kernel_rfl) rfl rfl rfl (by kernel_rfl) (by kernel_rfl) (by kernel_rfl) (by kernel_rfl) rfl (src_low hst 2 rfl (by kernel_rfl)) (fun w v h => boxA_run w v h))
    refine steps_snoc (k := 1) ?_ (s_box (i := 1) (d := 4) hP 1 _ (isOp_of (by kernel_rfl) : IsOp pws_o0 1 none (.box 24 (.tmp 1))) (by kernel_rfl) rfl rfl rfl (by kernel_rfl) (by kernel_rfl) (by kernel_rfl) (by kernel_rfl) rfl (src_low hst 1 rfl (by kernel_rfl)) (fun w v h => boxR_run w v h))
    refine steps_snoc (k := 0) ?_ (s_box (i := 0) (d := 3) hP 0 _ (isOp_of (by kernel_rfl) : IsOp pws_o0 0 none (.box 24 (.tmp 0))) (by kernel_rfl) rfl rfl rfl (by kernel_rfl) (by kernel_rfl) (by kernel_rfl) (by kernel_rfl) rfl (src_low hst 0 rfl (by kernel_rfl)) (fun w v h => boxR_run w v h))
    exact steps_nil
  · intro m a w hI hm
    exact ⟨(low_fact hst 0 rfl (by kernel_rfl) hI), (low_fact hst 1 rfl (by kernel_rfl) hI), (low_fact hst 2 rfl (by kernel_rfl) hI), (out_op hI hm 3 6 _ (by kernel_rfl) rfl), trivial⟩
set_option maxRecDepth 100000 in
theorem pws_r1c {Q : Exit → Act → World → Prop} {Wb W0 : World} {a0 : Act} {r0 r1 : RawArg} (hS : Sanity) (ht : P10 Wb) (_k0 : r0.Ok Wb) (_k1 : r1.Ok Wb) {p0 p1 : Int} {n m q : Nat} (_hp : p0 = (n : Int)) (_hn : n ≤ 256) (_hm : p0.tmod 20 = (m : Int)) (_hq : (IntKind.u64.wrap p1).tmod 20 = (q : Int)) (_hm2 : m ≤ 19) (_hq2 : q ≤ 19) (hst : St Wb 171 [(0, (eqF r0.val_)), (1, (eqF r1.val_)), (2, (eqF (.agg #[.int .i64 p0, .int .i64 p1]))), (6, (eqF (.bool false)))] [(3, (rawBF r0)), (4, (rawBF r1)), (5, (arrBF p0 p1))] a0 W0)
    (fin : ∀ a w, St Wb 171 [(0, (eqF r0.val_)), (1, (eqF r1.val_)), (2, (eqF (.agg #[.int .i64 p0, .int .i64 p1]))), (6, (eqF (.bool false))), (7, (eqF (.bool true)))] [(3, (rawBF r0)), (4, (rawBF r1)), (5, (arrBF p0 p1))] a w → Q .normal a w) : (Code.region 1 pws_o1 false).wp Tryd.prog Q a0 W0 := by
  have hP : Plan pws_o1 171 ([⟨3, none, none, (rawBF r0), (rawBF r0)⟩, ⟨4, none, none, (rawBF r1), (rawBF r1)⟩, ⟨5, none, none, (arrBF p0 p1), (arrBF p0 p1)⟩] : List BoxS) [] := ⟨by kernel_rfl, by kernel_rfl, by kernel_rfl, by kernel_rfl, by kernel_rfl, by kernel_rfl⟩
  refine region_st (F := [(eqF (.bool true)), (eqF (.bool true))]) hP hst rfl rfl ?_ ?_ fin
  · show Steps pws_o1 171 Wb W0 a0 _ _ _ 2
    refine steps_snoc (k := 1) ?_ (s_assign (i := 1) hP (g := none) (isOp_of (by kernel_rfl) : IsOp pws_o1 1 none (.assign (.tmp 27))) (by kernel_rfl) (by kernel_rfl) (grd_none) (src_op (f := (eqF (.bool true))) 0 (by kernel_rfl) (by kernel_rfl) rfl) rfl)
    refine steps_snoc (k := 0) ?_ (s_call0 (i := 0) hP (g := none) (isOp_of (by kernel_rfl) : IsOp pws_o1 0 none (.call { callee := .value (.func 11), args := #[], argTypes := #[] })) (by kernel_rfl) (by kernel_rfl) (grd_none)  pwspl_quadrature_quadraturelaw01_sanity (fun w  hb  => kSanity hS ht hb) rfl)
    exact steps_nil
  · intro m a w hI hm
    exact ⟨(low_fact hst 0 rfl (by kernel_rfl) hI), (low_fact hst 1 rfl (by kernel_rfl) hI), (low_fact hst 2 rfl (by kernel_rfl) hI), (low_fact hst 3 rfl (by kernel_rfl) hI), (out_op hI hm 1 7 _ (by kernel_rfl) rfl), trivial⟩
set_option maxRecDepth 100000 in
theorem pws_r2c {Q : Exit → Act → World → Prop} {Wb W0 : World} {a0 : Act} {r0 r1 : RawArg} (_hS : Sanity) (_ht : P10 Wb) (k0 : r0.Ok Wb) (k1 : r1.Ok Wb) {p0 p1 : Int} {n m q : Nat} (_hp : p0 = (n : Int)) (_hn : n ≤ 256) (_hm : p0.tmod 20 = (m : Int)) (_hq : (IntKind.u64.wrap p1).tmod 20 = (q : Int)) (_hm2 : m ≤ 19) (_hq2 : q ≤ 19) (hst : St Wb 171 [(0, (eqF r0.val_)), (1, (eqF r1.val_)), (2, (eqF (.agg #[.int .i64 p0, .int .i64 p1]))), (6, (eqF (.bool false))), (7, (eqF (.bool true)))] [(3, (rawBF r0)), (4, (rawBF r1)), (5, (arrBF p0 p1))] a0 W0)
    (fin : ∀ a w, St Wb 171 [(0, (eqF r0.val_)), (1, (eqF r1.val_)), (2, (eqF (.agg #[.int .i64 p0, .int .i64 p1]))), (6, (eqF (.bool false))), (7, (eqF (.bool true)))] [(3, (rawBF (r0.cut 2))), (4, (rawBF (r1.cut 1))), (5, (arrBF p0 p1))] a w → Q .normal a w) : (Code.region 2 pws_o2 true).wp Tryd.prog Q a0 W0 := by
  have hP : Plan pws_o2 171 ([⟨3, none, some 15, (rawBF r0), (rawBF (r0.cut 2))⟩, ⟨4, none, some 17, (rawBF r1), (rawBF (r1.cut 1))⟩, ⟨5, none, none, (arrBF p0 p1), (arrBF p0 p1)⟩] : List BoxS) [(0, 3, 0), (2, 3, 0), (7, 4, 0), (9, 4, 0), (14, 3, 0), (16, 4, 0)] := ⟨by kernel_rfl, by kernel_rfl, by kernel_rfl, by kernel_rfl, by kernel_rfl, by kernel_rfl⟩
  refine region_st (F := [anyF, (eqF (.slice r0.A r0.k r0.c)), anyF, (eqF (.slice r0.A r0.k r0.c)), (eqF (.int .i64 (r0.k : Int))), (eqF (.int .i64 ((min r0.k 2 : Nat) : Int))), (eqF (.slice r0.A (min r0.k 2) r0.c)), anyF, (eqF (.slice r1.A r1.k r1.c)), anyF, (eqF (.slice r1.A r1.k r1.c)), (eqF (.int .i64 (r1.k : Int))), (eqF (.int .i64 ((min r1.k 1 : Nat) : Int))), (eqF (.slice r1.A (min r1.k 1) r1.c)), anyF, anyF, anyF, anyF]) hP hst rfl rfl ?_ ?_ fin
  · show Steps pws_o2 171 Wb W0 a0 _ _ _ 18
    refine steps_snoc (k := 17) ?_ (s_storeAt (i := 17) (d := 43) 1 _ 16 (isOp_of (by kernel_rfl) : IsOp pws_o2 17 none (.store 22 (.tmp 43) (.tmp 41))) (by kernel_rfl) rfl rfl rfl (by kernel_rfl) (by kernel_rfl) (by kernel_rfl) (by kernel_rfl) (by kernel_rfl) (by kernel_rfl) (src_op (f := (eqF (.slice r1.A (min r1.k 1) r1.c))) 13 (by kernel_rfl) (by kernel_rfl) rfl) storeRawMag)
    refine steps_snoc (k := 16) ?_ (step_addr (i := 16) (d := 43) (g := none) hP (isOp_of (by kernel_rfl) : IsOp pws_o2 16 none (.fieldAddr 24 (.tmp 4) 0)) (by kernel_rfl) (by kernel_rfl) 0 rfl rfl _ 1 rfl rfl (by kernel_rfl) (grd_none) fldRaw0)
    refine steps_snoc (k := 15) ?_ (s_storeAt (i := 15) (d := 42) 0 _ 14 (isOp_of (by kernel_rfl) : IsOp pws_o2 15 none (.store 22 (.tmp 42) (.tmp 34))) (by kernel_rfl) rfl rfl rfl (by kernel_rfl) (by kernel_rfl) (by kernel_rfl) (by kernel_rfl) (by kernel_rfl) (by kernel_rfl) (src_op (f := (eqF (.slice r0.A (min r0.k 2) r0.c))) 6 (by kernel_rfl) (by kernel_rfl) rfl) storeRawMag)
    refine steps_snoc (k := 14) ?_ (step_addr (i := 14) (d := 42) (g := none) hP (isOp_of (by kernel_rfl) : IsOp pws_o2 14 none (.fieldAddr 24 (.tmp 3) 0)) (by kernel_rfl) (by kernel_rfl) 0 rfl rfl _ 0 rfl rfl (by kernel_rfl) (grd_none) fldRaw0)
    refine steps_snoc (k := 13) ?_ (s_op2 (i := 13) hP (g := none) (isOp_of (by kernel_rfl) : IsOp pws_o2 13 none (.slice 22 (.tmp 36) none (some (.tmp 40)) none)) (by kernel_rfl) (by kernel_rfl) (grd_none) (src_op (f := (eqF (.slice r1.A r1.k r1.c))) 8 (by kernel_rfl) (by kernel_rfl) rfl) (src_op (f := (eqF (.int .i64 ((min r1.k 1 : Nat) : Int)))) 12 (by kernel_rfl) (by kernel_rfl) rfl) (fun ρ w hx hy => h_sliceRaw k1 1 hx hy) rfl)
    refine steps_snoc (k := 12) ?_ (s_op2 (i := 12) hP (g := none) (isOp_of (by kernel_rfl) : IsOp pws_o2 12 none (.call { callee := .builtin .min, args := #[.tmp 39, .const (.int .i64 1)], argTypes := #[3, 3] })) (by kernel_rfl) (by kernel_rfl) (grd_none) (src_op (f := (eqF (.int .i64 (r1.k : Int)))) 11 (by kernel_rfl) (by kernel_rfl) rfl) (src_const _) (fun ρ w hx hy => h_min (by omega) hx hy) rfl)
    refine steps_snoc (k := 11) ?_ (s_op1 (i := 11) hP (g := none) (isOp_of (by kernel_rfl) : IsOp pws_o2 11 none (.call { callee := .builtin .len, args := #[.tmp 38], argTypes := #[22] })) (by kernel_rfl) (by kernel_rfl) (grd_none) (src_op (f := (eqF (.slice r1.A r1.k r1.c))) 10 (by kernel_rfl) (by kernel_rfl) rfl) (fun ρ w hx => h_len hx) rfl)
    refine steps_snoc (k := 10) ?_ (s_load (i := 10) hP (g := none) (isOp_of (by kernel_rfl) : IsOp pws_o2 10 none (.load 22 (.tmp 37))) (by kernel_rfl) (by kernel_rfl) (grd_none) (bsrc_at 9 (bsrc_old 1 _ rfl rfl rfl (by kernel_rfl) (by kernel_rfl)) (by kernel_rfl) (by kernel_rfl) (by kernel_rfl)) (fun w q h => loadRawMag w q h) rfl)
    refine steps_snoc (k := 9) ?_ (step_addr (i := 9) (d := 37) (g := none) hP (isOp_of (by kernel_rfl) : IsOp pws_o2 9 none (.fieldAddr 24 (.tmp 4) 0)) (by kernel_rfl) (by kernel_rfl) 0 rfl rfl _ 1 rfl rfl (by kernel_rfl) (grd_none) fldRaw0)
    refine steps_snoc (k := 8) ?_ (s_load (i := 8) hP (g := none) (isOp_of (by kernel_rfl) : IsOp pws_o2 8 none (.load 22 (.tmp 35))) (by kernel_rfl) (by kernel_rfl) (grd_none) (bsrc_at 7 (bsrc_old 1 _ rfl rfl rfl (by kernel_rfl) (by kernel_rfl)) (by kernel_rfl) (by kernel_rfl) (by kernel_rfl)) (fun w q h => loadRawMag w q h) rfl)
    refine steps_snoc (k := 7) ?_ (step_addr (i := 7) (d := 35) (g := none) hP (isOp_of (by kernel_rfl) : IsOp pws_o2 7 none (.fieldAddr 24 (.tmp 4) 0)) (by kernel_rfl) (by kernel_rfl) 0 rfl rfl _ 1 rfl rfl (by kernel_rfl) (grd_none) fldRaw0)
    refine steps_snoc (k := 6) ?_ (s_op2 (i := 6) hP (g := none) (isOp_of (by kernel_rfl) : IsOp pws_o2 6 none (.slice 22 (.tmp 29) none (some (.tmp 33)) none)) (by kernel_rfl) (by kernel_rfl) (grd_none) (src_op (f := (eqF (.slice r0.A r0.k r0.c))) 1 (by kernel_rfl) (by kernel_rfl) rfl) (src_op (f := (eqF (.int .i64 ((min r0.k 2 : Nat) : Int)))) 5 (by kernel_rfl) (by kernel_rfl) rfl) (fun ρ w hx hy => h_sliceRaw k0 2 hx hy) rfl)
    refine steps_snoc (k := 5) ?_ (s_op2 (i := 5) hP (g := none) (isOp_of (by kernel_rfl) : IsOp pws_o2 5 none (.call { callee := .builtin .min, args := #[.tmp 32, .const (.int .i64 2)], argTypes := #[3, 3] })) (by kernel_rfl) (by kernel_rfl) (grd_none) (src_op (f := (eqF (.int .i64 (r0.k : Int)))) 4 (by kernel_rfl) (by kernel_rfl) rfl) (src_const _) (fun ρ w hx hy => h_min (by omega) hx hy) rfl)
    refine steps_snoc (k := 4) ?_ (s_op1 (i := 4) hP (g := none) (isOp_of (by kernel_rfl) : IsOp pws_o2 4 none (.call { callee := .builtin .len, args := #[.tmp 31], argTypes := #[22] })) (by kernel_rfl) (by kernel_rfl) (grd_none) (src_op (f := (eqF (.slice r0.A r0.k r0.c))) 3 (by kernel_rfl) (by kernel_rfl) rfl) (fun ρ w hx => h_len hx) rfl)
    refine steps_snoc (k := 3) ?_ (s_load (i := 3) hP (g := none) (isOp_of (by kernel_rfl) : IsOp pws_o2 3 none (.load 22 (.tmp 30))) (by kernel_rfl) (by kernel_rfl) (grd_none) (bsrc_at 2 (bsrc_old 0 _ rfl rfl rfl (by kernel_rfl) (by kernel_rfl)) (by kernel_rfl) (by kernel_rfl) (by kernel_rfl)) (fun w q h => loadRawMag w q h) rfl)
    refine steps_snoc (k := 2) ?_ (step_addr (i := 2) (d := 30) (g := none) hP (isOp_of (by kernel_rfl) : IsOp pws_o2 2 none (.fieldAddr 24 (.tmp 3) 0)) (by kernel_rfl) (by kernel_rfl) 0 rfl rfl _ 0 rfl rfl (by kernel_rfl) (grd_none) fldRaw0)
    refine steps_snoc (k := 1) ?_ (s_load (i := 1) hP (g := none) (isOp_of (by kernel_rfl) : IsOp pws_o2 1 none (.load 22 (.tmp 28))) (by kernel_rfl) (by kernel_rfl) (grd_none) (bsrc_at 0 (bsrc_old 0 _ rfl rfl rfl (by kernel_rfl) (by kernel_rfl)) (by kernel_rfl) (by kernel_rfl) (by kernel_rfl)) (fun w q h => loadRawMag w q h) rfl)
    refine steps_snoc (k := 0) ?_ (step_addr (i := 0) (d := 28) (g := none) hP (isOp_of (by kernel_rfl) : IsOp pws_o2 0 none (.fieldAddr 24 (.tmp 3) 0)) (by kernel_rfl) (by kernel_rfl) 0 rfl rfl _ 0 rfl rfl (by kernel_rfl) (grd_none) fldRaw0)
    exact steps_nil
  · intro m a w hI hm
    exact ⟨(low_fact hst 0 rfl (by kernel_rfl) hI), (low_fact hst 1 rfl (by kernel_rfl) hI), (low_fact hst 2 rfl (by kernel_rfl) hI), (low_fact hst 3 rfl (by kernel_rfl) hI), (low_fact hst 4 rfl (by kernel_rfl) hI), trivial⟩
set_option maxRecDepth 100000 in
theorem pws_r3c {Q : Exit → Act → World → Prop} {Wb W0 : World} {a0 : Act} {r0 r1 : RawArg} (_hS : Sanity) (_ht : P10 Wb) (k0 : r0.Ok Wb) (k1 : r1.Ok Wb) {p0 p1 : Int} {n m q : Nat} (_hp : p0 = (n : Int)) (_hn : n ≤ 256) (_hm : p0.tmod 20 = (m : Int)) (_hq : (IntKind.u64.wrap p1).tmod 20 = (q : Int)) (_hm2 : m ≤ 19) (_hq2 : q ≤ 19) (hst : St Wb 171 [(0, (eqF r0.val_)), (1, (eqF r1.val_)), (2, (eqF (.agg #[.int .i64 p0, .int .i64 p1]))), (6, (eqF (.bool false))), (7, (eqF (.bool true)))] [(3, (rawBF (r0.cut 2))), (4, (rawBF (r1.cut 1))), (5, (arrBF p0 p1))] a0 W0)
    (fin : ∀ a w, St Wb 171 [(0, (eqF r0.val_)), (1, (eqF r1.val_)), (2, (eqF (.agg #[.int .i64 p0, .int .i64 p1]))), (6, (eqF (.bool false))), (7, (eqF (.bool true)))] [(3, (rawBF (r0.cut 2))), (4, (rawBF (r1.cut 1))), (5, (arrBF p0 p1)), (8, (boxIF (r0.cut 2).int)), (9, (boxIF (r1.cut 1).int))] a w → Q .normal a w) : (Code.region 3 pws_o3 true).wp Tryd.prog Q a0 W0 := by
  have hP : Plan pws_o3 171 ([⟨3, none, none, (rawBF (r0.cut 2)), (rawBF (r0.cut 2))⟩, ⟨4, none, none, (rawBF (r1.cut 1)), (rawBF (r1.cut 1))⟩, ⟨5, none, none, (arrBF p0 p1), (arrBF p0 p1)⟩, ⟨8, some 4, some 6, zeroIF, (boxIF (r0.cut 2).int)⟩, ⟨9, some 5, some 7, zeroIF, (boxIF (r1.cut 1).int)⟩] : List BoxS) [] := ⟨by kernel_rfl, by kernel_rfl, by kernel_rfl, by kernel_rfl, by kernel_rfl, by kernel_rfl⟩
  refine region_st (F := [(eqF (r0.cut 2).val_), (intF (r0.cut 2).int), (eqF (r1.cut 1).val_), (intF (r1.cut 1).int), anyF, anyF, anyF, anyF]) hP hst rfl rfl ?_ ?_ fin
  · show Steps pws_o3 171 Wb W0 a0 _ _ _ 8
    refine steps_snoc (k := 7) ?_ (s_store (i := 7) 4 _ (isOp_of (by kernel_rfl) : IsOp pws_o3 7 none (.store 27 (.tmp 9) (.tmp 47))) (by kernel_rfl) rfl rfl rfl (by kernel_rfl) (by kernel_rfl) (by kernel_rfl) (src_op (f := (intF (r1.cut 1).int)) 3 (by kernel_rfl) (by kernel_rfl) rfl) (storeI_zero _))
    refine steps_snoc (k := 6) ?_ (s_store (i := 6) 3 _ (isOp_of (by kernel_rfl) : IsOp pws_o3 6 none (.store 27 (.tmp 8) (.tmp 45))) (by kernel_rfl) rfl rfl rfl (by kernel_rfl) (by kernel_rfl) (by kernel_rfl) (src_op (f := (intF (r0.cut 2).int)) 1 (by kernel_rfl) (by kernel_rfl) rfl) (storeI_zero _))
    refine steps_snoc (k := 5) ?_ (s_alloc (i := 5) (d := 9) hP 4 _ (isOp_of (by kernel_rfl) : IsOp pws_o3 5 none (.alloc 27)) (by kernel_rfl) rfl rfl rfl (by kernel_rfl) (by kernel_rfl) (by kernel_rfl) (by kernel_rfl) rfl allocI_run allocI_old)
    refine steps_snoc (k := 4) ?_ (s_alloc (i := 4) (d := 8) hP 3 _ (isOp_of (by kernel_rfl) : IsOp pws_o3 4 none (.alloc 27)) (by kernel_rfl) rfl rfl rfl (by kernel_rfl) (by kernel_rfl) (by kernel_rfl) (by kernel_rfl) rfl allocI_run allocI_old)
    refine steps_snoc (k := 3) ?_ (s_call1 (i := 3) hP (g := none) (isOp_of (by kernel_rfl) : IsOp pws_o3 3 none (.call { callee := .value (.func 12), args := #[.tmp 46], argTypes := #[24] })) (by kernel_rfl) (by kernel_rfl) (grd_none) (src_op (f := (eqF (r1.cut 1).val_)) 2 (by kernel_rfl) (by kernel_rfl) rfl) pwspl_quadrature_quadraturelaw01_made (fun w v0 hb h0 => kMade (k1.cut 1) hb h0) rfl)
    refine steps_snoc (k := 2) ?_ (s_load (i := 2) hP (g := none) (isOp_of (by kernel_rfl) : IsOp pws_o3 2 none (.load 24 (.tmp 4))) (by kernel_rfl) (by kernel_rfl) (grd_none) (bsrc_old 1 _ rfl rfl rfl (by kernel_rfl) (by kernel_rfl)) (fun w q h => loadR_raw w q h) rfl)
    refine steps_snoc (k := 1) ?_ (s_call1 (i := 1) hP (g := none) (isOp_of (by kernel_rfl) : IsOp pws_o3 1 none (.call { callee := .value (.func 12), args := #[.tmp 44], argTypes := #[24] })) (by kernel_rfl) (by kernel_rfl) (grd_none) (src_op (f := (eqF (r0.cut 2).val_)) 0 (by kernel_rfl) (by kernel_rfl) rfl) pwspl_quadrature_quadraturelaw01_made (fun w v0 hb h0 => kMade (k0.cut 2) hb h0) rfl)
    refine steps_snoc (k := 0) ?_ (s_load (i := 0) hP (g := none) (isOp_of (by kernel_rfl) : IsOp pws_o3 0 none (.load 24 (.tmp 3))) (by kernel_rfl) (by kernel_rfl) (grd_none) (bsrc_old 0 _ rfl rfl rfl (by kernel_rfl) (by kernel_rfl)) (fun w q h => loadR_raw w q h) rfl)
    exact steps_nil
  · intro m a w hI hm
    exact ⟨(low_fact hst 0 rfl (by kernel_rfl) hI), (low_fact hst 1 rfl (by kernel_rfl) hI), (low_fact hst 2 rfl (by kernel_rfl) hI), (low_fact hst 3 rfl (by kernel_rfl) hI), (low_fact hst 4 rfl (by kernel_rfl) hI), trivial⟩
set_option maxRecDepth 100000 in
theorem pws_r4c {Q : Exit → Act → World → Prop} {Wb W0 : World} {a0 : Act} {r0 r1 : RawArg} (_hS : Sanity) (_ht : P10 Wb) (k0 : r0.Ok Wb) (_k1 : r1.Ok Wb) {p0 p1 : Int} {n m q : Nat} (hp : p0 = (n : Int)) (hn : n ≤ 256) (_hm : p0.tmod 20 = (m : Int)) (_hq : (IntKind.u64.wrap p1).tmod 20 = (q : Int)) (_hm2 : m ≤ 19) (_hq2 : q ≤ 19) (hst : St Wb 171 [(0, (eqF r0.val_)), (1, (eqF r1.val_)), (2, (eqF (.agg #[.int .i64 p0, .int .i64 p1]))), (6, (eqF (.bool false))), (7, (eqF (.bool true)))] [(3, (rawBF (r0.cut 2))), (4, (rawBF (r1.cut 1))), (5, (arrBF p0 p1)), (8, (boxIF (r0.cut 2).int)), (9, (boxIF (r1.cut 1).int))] a0 W0)
    (fin : ∀ a w, St Wb 171 [(0, (eqF r0.val_)), (1, (eqF r1.val_)), (2, (eqF (.agg #[.int .i64 p0, .int .i64 p1]))), (6, (eqF (.bool false))), (7, (eqF (.bool true))), (11, (eqF (.int .i64 0)))] [(3, (rawBF (r0.cut 2))), (4, (rawBF (r1.cut 1))), (5, (arrBF p0 p1)), (8, (boxIF (r0.cut 2).int)), (9, (boxIF (r1.cut 1).int)), (10, (boxIF ((r0.cut 2).int ^ n)))] a w → Q .normal a w) : (Code.region 4 pws_o4 false).wp Tryd.prog Q a0 W0 := by
  have hP : Plan pws_o4 171 ([⟨3, none, none, (rawBF (r0.cut 2)), (rawBF (r0.cut 2))⟩, ⟨4, none, none, (rawBF (r1.cut 1)), (rawBF (r1.cut 1))⟩, ⟨5, none, none, (arrBF p0 p1), (arrBF p0 p1)⟩, ⟨8, none, none, (boxIF (r0.cut 2).int), (boxIF (r0.cut 2).int)⟩, ⟨9, none, none, (boxIF (r1.cut 1).int), (boxIF (r1.cut 1).int)⟩, ⟨10, some 7, some 8, zeroIF, (boxIF ((r0.cut 2).int ^ n))⟩] : List BoxS) [(1, 5, 0)] := ⟨by kernel_rfl, by kernel_rfl, by kernel_rfl, by kernel_rfl, by kernel_rfl, by kernel_rfl⟩
  refine region_st (F := [(intF (r0.cut 2).int), anyF, (eqF (.int .i64 p0)), (tup2F (intF ((r0.cut 2).int ^ n)) (eqF (.int .i64 0))), (tup2F (intF ((r0.cut 2).int ^ n)) (eqF (.int .i64 0))), (intF ((r0.cut 2).int ^ n)), (eqF (.int .i64 0)), anyF, anyF, (eqF (.int .i64 0))]) hP hst rfl rfl ?_ ?_ fin
  · show Steps pws_o4 171 Wb W0 a0 _ _ _ 10
    refine steps_snoc (k := 9) ?_ (s_assign (i := 9) hP (g := none) (isOp_of (by kernel_rfl) : IsOp pws_o4 9 none (.assign (.tmp 54))) (by kernel_rfl) (by kernel_rfl) (grd_none) (src_op (f := (eqF (.int .i64 0))) 6 (by kernel_rfl) (by kernel_rfl) rfl) rfl)
    refine steps_snoc (k := 8) ?_ (s_store (i := 8) 5 _ (isOp_of (by kernel_rfl) : IsOp pws_o4 8 none (.store 27 (.tmp 10) (.tmp 53))) (by kernel_rfl) rfl rfl rfl (by kernel_rfl) (by kernel_rfl) (by kernel_rfl) (src_op (f := (intF ((r0.cut 2).int ^ n))) 5 (by kernel_rfl) (by kernel_rfl) rfl) (storeI_zero _))
    refine steps_snoc (k := 7) ?_ (s_alloc (i := 7) (d := 10) hP 5 _ (isOp_of (by kernel_rfl) : IsOp pws_o4 7 none (.alloc 27)) (by kernel_rfl) rfl rfl rfl (by kernel_rfl) (by kernel_rfl) (by kernel_rfl) (by kernel_rfl) rfl allocI_run allocI_old)
    refine steps_snoc (k := 6) ?_ (s_op1 (i := 6) hP (g := none) (isOp_of (by kernel_rfl) : IsOp pws_o4 6 none (.extract (.tmp 48) 1)) (by kernel_rfl) (by kernel_rfl) (grd_none) (src_op (f := (tup2F (intF ((r0.cut 2).int ^ n)) (eqF (.int .i64 0)))) 4 (by kernel_rfl) (by kernel_rfl) rfl) (fun ρ w hx => h_ext2_1 hx) rfl)
    refine steps_snoc (k := 5) ?_ (s_op1 (i := 5) hP (g := none) (isOp_of (by kernel_rfl) : IsOp pws_o4 5 none (.extract (.tmp 48) 0)) (by kernel_rfl) (by kernel_rfl) (grd_none) (src_op (f := (tup2F (intF ((r0.cut 2).int ^ n)) (eqF (.int .i64 0)))) 4 (by kernel_rfl) (by kernel_rfl) rfl) (fun ρ w hx => h_ext2_0 hx) rfl)
    refine steps_snoc (k := 4) ?_ (s_move (i := 4) hP (g := none) (isOp_of (by kernel_rfl) : IsOp pws_o4 4 none (.move (.tmp 52))) (by kernel_rfl) (by kernel_rfl) (grd_none) (src_op (f := (tup2F (intF ((r0.cut 2).int ^ n)) (eqF (.int .i64 0)))) 3 (by kernel_rfl) (by kernel_rfl) rfl) rfl)
    refine steps_snoc (k := 3) ?_ (s_call2 (i := 3) hP (g := none) (isOp_of (by kernel_rfl) : IsOp pws_o4 3 none (.call { callee := .value (.func 36), args := #[.tmp 49, .tmp 51], argTypes := #[27, 3] })) (by kernel_rfl) (by kernel_rfl) (grd_none) (src_op (f := (intF (r0.cut 2).int)) 0 (by kernel_rfl) (by kernel_rfl) rfl) (src_op (f := (eqF (.int .i64 p0))) 2 (by kernel_rfl) (by kernel_rfl) rfl) pwspl_quadrature_integer_Pow (fun w v0 v1 hb h0 h1 => kPow h0 (hp ▸ h1) (k0.cutSm 2) (by omega) hn) rfl)
    refine steps_snoc (k := 2) ?_ (s_load (i := 2) hP (g := none) (isOp_of (by kernel_rfl) : IsOp pws_o4 2 none (.load 3 (.tmp 50))) (by kernel_rfl) (by kernel_rfl) (grd_none) (bsrc_at 1 (bsrc_old 2 _ rfl rfl rfl (by kernel_rfl) (by kernel_rfl)) (by kernel_rfl) (by kernel_rfl) (by kernel_rfl)) (fun w q h => loadA0 w q h) rfl)
    refine steps_snoc (k := 1) ?_ (step_index (i := 1) (d := 50) (g := none) hP (isOp_of (by kernel_rfl) : IsOp pws_o4 1 none (.indexAddr 46 (.tmp 5) (.const (.int .i64 0)))) (by kernel_rfl) (by kernel_rfl) 0 rfl rfl _ 2 rfl rfl (by kernel_rfl) (grd_none) idxA0)
    refine steps_snoc (k := 0) ?_ (s_load (i := 0) hP (g := none) (isOp_of (by kernel_rfl) : IsOp pws_o4 0 none (.load 27 (.tmp 8))) (by kernel_rfl) (by kernel_rfl) (grd_none) (bsrc_old 3 _ rfl rfl rfl (by kernel_rfl) (by kernel_rfl)) (fun w q h => loadI_int w q h) rfl)
    exact steps_nil
  · intro m a w hI hm
    exact ⟨(low_fact hst 0 rfl (by kernel_rfl) hI), (low_fact hst 1 rfl (by kernel_rfl) hI), (low_fact hst 2 rfl (by kernel_rfl) hI), (low_fact hst 3 rfl (by kernel_rfl) hI), (low_fact hst 4 rfl (by kernel_rfl) hI), (out_op hI hm 9 11 _ (by kernel_rfl) rfl), trivial⟩
set_option maxRecDepth 100000 in
theorem pws_r5c {Q : Exit → Act → World → Prop} {Wb W0 : World} {a0 : Act} {r0 r1 : RawArg} (_hS : Sanity) (_ht : P10 Wb) (_k0 : r0.Ok Wb) (_k1 : r1.Ok Wb) {p0 p1 : Int} {n m q : Nat} (_hp : p0 = (n : Int)) (_hn : n ≤ 256) (_hm : p0.tmod 20 = (m : Int)) (_hq : (IntKind.u64.wrap p1).tmod 20 = (q : Int)) (_hm2 : m ≤ 19) (_hq2 : q ≤ 19) (hst : St Wb 171 [(0, (eqF r0.val_)), (1, (eqF r1.val_)), (2, (eqF (.agg #[.int .i64 p0, .int .i64 p1]))), (6, (eqF (.bool false))), (7, (eqF (.bool true))), (11, (eqF (.int .i64 0)))] [(3, (rawBF (r0.cut 2))), (4, (rawBF (r1.cut 1))), (5, (arrBF p0 p1)), (8, (boxIF (r0.cut 2).int)), (9, (boxIF (r1.cut 1).int)), (10, (boxIF ((r0.cut 2).int ^ n)))] a0 W0)
    (fin : ∀ a w, St Wb 171 [(0, (eqF r0.val_)), (1, (eqF r1.val_)), (2, (eqF (.agg #[.int .i64 p0, .int .i64 p1]))), (6, (eqF (.bool false))), (7, (eqF (.bool true))), (11, (eqF (.int .i64 0))), (66, (eqF (.bool false)))] [(3, (rawBF (r0.cut 2))), (4, (rawBF (r1.cut 1))), (5, (arrBF p0 p1)), (8, (boxIF (r0.cut 2).int)), (9, (boxIF (r1.cut 1).int)), (10, (boxIF ((r0.cut 2).int ^ n)))] a w → Q .normal a w) : (Code.region 5 pws_o5 false).wp Tryd.prog Q a0 W0 := by
  have hP : Plan pws_o5 171 ([⟨3, none, none, (rawBF (r0.cut 2)), (rawBF (r0.cut 2))⟩, ⟨4, none, none, (rawBF (r1.cut 1)), (rawBF (r1.cut 1))⟩, ⟨5, none, none, (arrBF p0 p1), (arrBF p0 p1)⟩, ⟨8, none, none, (boxIF (r0.cut 2).int), (boxIF (r0.cut 2).int)⟩, ⟨9, none, none, (boxIF (r1.cut 1).int), (boxIF (r1.cut 1).int)⟩, ⟨10, none, none, (boxIF ((r0.cut 2).int ^ n)), (boxIF ((r0.cut 2).int ^ n))⟩] : List BoxS) [(3, 5, 0), (8, 5, 0)] := ⟨by kernel_rfl, by kernel_rfl, by kernel_rfl, by kernel_rfl, by kernel_rfl, by kernel_rfl⟩
  refine region_st (F := [(eqF (.int .i64 0)), (eqF (.bool false)), (eqF (.bool false)), anyF, (eqF (.int .i64 p0)), (eqF (.bool false)), (eqF (.bool false)), (eqF (.bool false)), anyF, (eqF (.int .i64 p0)), (eqF (.bool false)), (eqF (.bool false))]) hP hst rfl rfl ?_ ?_ fin
  · show Steps pws_o5 171 Wb W0 a0 _ _ _ 12
    refine steps_snoc (k := 11) ?_ (s_pickF (i := 11) hP (g := none) (isOp_of (by kernel_rfl) : IsOp pws_o5 11 none (.pick (.tmp 62) (.const (.bool true)) (.tmp 65))) (by kernel_rfl) (by kernel_rfl) (grd_none) (src_op (f := (eqF (.bool false))) 7 (by kernel_rfl) (by kernel_rfl) rfl) (src_op (f := (eqF (.bool false))) 10 (by kernel_rfl) (by kernel_rfl) rfl) rfl)
    refine steps_snoc (k := 10) ?_ (s_op2 (i := 10) hP (g := (some (7, false))) (isOp_of (by kernel_rfl) : IsOp pws_o5 10 (some (7, false)) (.binOp .gtr 3 (.tmp 64) (.const (.int .i64 256)) 3)) (by kernel_rfl) (by kernel_rfl) (grd_op (d := 62) (by kernel_rfl) (by kernel_rfl) rfl rfl) (src_op (f := (eqF (.int .i64 p0))) 9 (by kernel_rfl) (by kernel_rfl) rfl) (src_const _) (fun ρ w hx hy => h_gtr (r := false) (by simp; omega) hx hy) rfl)
    refine steps_snoc (k := 9) ?_ (s_load (i := 9) hP (g := (some (7, false))) (isOp_of (by kernel_rfl) : IsOp pws_o5 9 (some (7, false)) (.load 3 (.tmp 63))) (by kernel_rfl) (by kernel_rfl) (grd_op (d := 62) (by kernel_rfl) (by kernel_rfl) rfl rfl) (bsrc_at 8 (bsrc_old 2 _ rfl rfl rfl (by kernel_rfl) (by kernel_rfl)) (by kernel_rfl) (by kernel_rfl) (by kernel_rfl)) (fun w q h => loadA0 w q h) rfl)
    refine steps_snoc (k := 8) ?_ (step_index (i := 8) (d := 63) (g := (some (7, false))) hP (isOp_of (by kernel_rfl) : IsOp pws_o5 8 (some (7, false)) (.indexAddr 46 (.tmp 5) (.const (.int .i64 0)))) (by kernel_rfl) (by kernel_rfl) 0 rfl rfl _ 2 rfl rfl (by kernel_rfl) (grd_op (d := 62) (by kernel_rfl) (by kernel_rfl) rfl rfl) idxA0)
    refine steps_snoc (k := 7) ?_ (s_move (i := 7) hP (g := none) (isOp_of (by kernel_rfl) : IsOp pws_o5 7 none (.move (.tmp 61))) (by kernel_rfl) (by kernel_rfl) (grd_none) (src_op (f := (eqF (.bool false))) 6 (by kernel_rfl) (by kernel_rfl) rfl) rfl)
    refine steps_snoc (k := 6) ?_ (s_pickF (i := 6) hP (g := none) (isOp_of (by kernel_rfl) : IsOp pws_o5 6 none (.pick (.tmp 57) (.const (.bool true)) (.tmp 60))) (by kernel_rfl) (by kernel_rfl) (grd_none) (src_op (f := (eqF (.bool false))) 2 (by kernel_rfl) (by kernel_rfl) rfl) (src_op (f := (eqF (.bool false))) 5 (by kernel_rfl) (by kernel_rfl) rfl) rfl)
    refine steps_snoc (k := 5) ?_ (s_op2 (i := 5) hP (g := (some (2, false))) (isOp_of (by kernel_rfl) : IsOp pws_o5 5 (some (2, false)) (.binOp .lss 3 (.tmp 59) (.const (.int .i64 0)) 3)) (by kernel_rfl) (by kernel_rfl) (grd_op (d := 57) (by kernel_rfl) (by kernel_rfl) rfl rfl) (src_op (f := (eqF (.int .i64 p0))) 4 (by kernel_rfl) (by kernel_rfl) rfl) (src_const _) (fun ρ w hx hy => h_lss (r := false) (by simp; omega) hx hy) rfl)
    refine steps_snoc (k := 4) ?_ (s_load (i := 4) hP (g := (some (2, false))) (isOp_of (by kernel_rfl) : IsOp pws_o5 4 (some (2, false)) (.load 3 (.tmp 58))) (by kernel_rfl) (by kernel_rfl) (grd_op (d := 57) (by kernel_rfl) (by kernel_rfl) rfl rfl) (bsrc_at 3 (bsrc_old 2 _ rfl rfl rfl (by kernel_rfl) (by kernel_rfl)) (by kernel_rfl) (by kernel_rfl) (by kernel_rfl)) (fun w q h => loadA0 w q h) rfl)
    refine steps_snoc (k := 3) ?_ (step_index (i := 3) (d := 58) (g := (some (2, false))) hP (isOp_of (by kernel_rfl) : IsOp pws_o5 3 (some (2, false)) (.indexAddr 46 (.tmp 5) (.const (.int .i64 0)))) (by kernel_rfl) (by kernel_rfl) 0 rfl rfl _ 2 rfl rfl (by kernel_rfl) (grd_op (d := 57) (by kernel_rfl) (by kernel_rfl) rfl rfl) idxA0)
    refine steps_snoc (k := 2) ?_ (s_move (i := 2) hP (g := none) (isOp_of (by kernel_rfl) : IsOp pws_o5 2 none (.move (.tmp 56))) (by kernel_rfl) (by kernel_rfl) (grd_none) (src_op (f := (eqF (.bool false))) 1 (by kernel_rfl) (by kernel_rfl) rfl) rfl)
    refine steps_snoc (k := 1) ?_ (s_op2 (i := 1) hP (g := none) (isOp_of (by kernel_rfl) : IsOp pws_o5 1 none (.binOp .neq 42 (.tmp 55) (.const (.int .i64 0)) 42)) (by kernel_rfl) (by kernel_rfl) (grd_none) (src_op (f := (eqF (.int .i64 0))) 0 (by kernel_rfl) (by kernel_rfl) rfl) (src_const _) (fun ρ w hx hy => h_neqI (r := false) (by decide) hx hy) rfl)
    refine steps_snoc (k := 0) ?_ (s_move (i := 0) hP (g := none) (isOp_of (by kernel_rfl) : IsOp pws_o5 0 none (.move (.tmp 11))) (by kernel_rfl) (by kernel_rfl) (grd_none) (src_low hst 5 rfl (by kernel_rfl)) rfl)
    exact steps_nil
  · intro m a w hI hm
    exact ⟨(low_fact hst 0 rfl (by kernel_rfl) hI), (low_fact hst 1 rfl (by kernel_rfl) hI), (low_fact hst 2 rfl (by kernel_rfl) hI), (low_fact hst 3 rfl (by kernel_rfl) hI), (low_fact hst 4 rfl (by kernel_rfl) hI), (low_fact hst 5 rfl (by kernel_rfl) hI), (out_op hI hm 11 66 _ (by kernel_rfl) rfl), trivial⟩
set_option maxRecDepth 100000 in
theorem pws_r7 {Q : Exit → Act → World → Prop} {Wb W0 : World} {a0 : Act} {r0 r1 : RawArg} (_hS : Sanity) (_ht : P10 Wb) (_k0 : r0.Ok Wb) (_k1 : r1.Ok Wb) {p0 p1 : Int} {n m q : Nat} (_hp : p0 = (n : Int)) (_hn : n ≤ 256) (hm : p0.tmod 20 = (m : Int)) (hq : (IntKind.u64.wrap p1).tmod 20 = (q : Int)) (_hm2 : m ≤ 19) (_hq2 : q ≤ 19) (hst : St Wb 171 [(0, (eqF r0.val_)), (1, (eqF r1.val_)), (2, (eqF (.agg #[.int .i64 p0, .int .i64 p1]))), (6, (eqF (.bool false))), (7, (eqF (.bool true))), (11, (eqF (.int .i64 0))), (66, (eqF (.bool false)))] [(3, (rawBF (r0.cut 2))), (4, (rawBF (r1.cut 1))), (5, (arrBF p0 p1)), (8, (boxIF (r0.cut 2).int)), (9, (boxIF (r1.cut 1).int)), (10, (boxIF ((r0.cut 2).int ^ n)))] a0 W0)
    (fin : ∀ a w, St Wb 171 [(0, (eqF r0.val_)), (1, (eqF r1.val_)), (2, (eqF (.agg #[.int .i64 p0, .int .i64 p1]))), (6, (eqF (.bool false))), (7, (eqF (.bool true))), (11, (eqF (.int .i64 0))), (12, (eqF (.int .i64 (m : Int)))), (13, (eqF (.int .i64 (q : Int)))), (66, (eqF (.bool false)))] [(3, (rawBF (r0.cut 2))), (4, (rawBF (r1.cut 1))), (5, (arrBF p0 p1)), (8, (boxIF (r0.cut 2).int)), (9, (boxIF (r1.cut 1).int)), (10, (boxIF ((r0.cut 2).int ^ n)))] a w → Q .normal a w) : (Code.region 7 pws_o7 true).wp Tryd.prog Q a0 W0 := by
  have hP : Plan pws_o7 171 ([⟨3, none, none, (rawBF (r0.cut 2)), (rawBF (r0.cut 2))⟩, ⟨4, none, none, (rawBF (r1.cut 1)), (rawBF (r1.cut 1))⟩, ⟨5, none, none, (arrBF p0 p1), (arrBF p0 p1)⟩, ⟨8, none, none, (boxIF (r0.cut 2).int), (boxIF (r0.cut 2).int)⟩, ⟨9, none, none, (boxIF (r1.cut 1).int), (boxIF (r1.cut 1).int)⟩, ⟨10, none, none, (boxIF ((r0.cut 2).int ^ n)), (boxIF ((r0.cut 2).int ^ n))⟩] : List BoxS) [(0, 5, 0), (3, 5, 1)] := ⟨by kernel_rfl, by kernel_rfl, by kernel_rfl, by kernel_rfl, by kernel_rfl, by kernel_rfl⟩
  refine region_st (F := [anyF, (eqF (.int .i64 p0)), (eqF (.int .i64 (m : Int))), anyF, (eqF (.int .i64 p1)), (eqF (.int .u64 (IntKind.u64.wrap p1))), (eqF (.int .u64 (q : Int))), (eqF (.int .i64 (q : Int))), (eqF (.int .i64 (m : Int))), (eqF (.int .i64 (q : Int)))]) hP hst rfl rfl ?_ ?_ fin
  · show Steps pws_o7 171 Wb W0 a0 _ _ _ 10
    refine steps_snoc (k := 9) ?_ (s_assign (i := 9) hP (g := none) (isOp_of (by kernel_rfl) : IsOp pws_o7 9 none (.assign (.tmp 89))) (by kernel_rfl) (by kernel_rfl) (grd_none) (src_op (f := (eqF (.int .i64 (q : Int)))) 7 (by kernel_rfl) (by kernel_rfl) rfl) rfl)
    refine steps_snoc (k := 8) ?_ (s_assign (i := 8) hP (g := none) (isOp_of (by kernel_rfl) : IsOp pws_o7 8 none (.assign (.tmp 84))) (by kernel_rfl) (by kernel_rfl) (grd_none) (src_op (f := (eqF (.int .i64 (m : Int)))) 2 (by kernel_rfl) (by kernel_rfl) rfl) rfl)
    refine steps_snoc (k := 7) ?_ (s_op1 (i := 7) hP (g := none) (isOp_of (by kernel_rfl) : IsOp pws_o7 7 none (.convert 49 3 (.tmp 88))) (by kernel_rfl) (by kernel_rfl) (grd_none) (src_op (f := (eqF (.int .u64 (q : Int)))) 6 (by kernel_rfl) (by kernel_rfl) rfl) (fun ρ w hx => h_conv_ui (by rw [IntKind.wrap_i64]; omega) hx) rfl)
    refine steps_snoc (k := 6) ?_ (s_op2 (i := 6) hP (g := none) (isOp_of (by kernel_rfl) : IsOp pws_o7 6 none (.binOp .rem 49 (.tmp 87) (.const (.int .u64 20)) 49)) (by kernel_rfl) (by kernel_rfl) (grd_none) (src_op (f := (eqF (.int .u64 (IntKind.u64.wrap p1)))) 5 (by kernel_rfl) (by kernel_rfl) rfl) (src_const _) (fun ρ w hx hy => h_rem (z := (q : Int)) (by decide) hq hx hy) rfl)
    refine steps_snoc (k := 5) ?_ (s_op1 (i := 5) hP (g := none) (isOp_of (by kernel_rfl) : IsOp pws_o7 5 none (.convert 3 49 (.tmp 86))) (by kernel_rfl) (by kernel_rfl) (grd_none) (src_op (f := (eqF (.int .i64 p1))) 4 (by kernel_rfl) (by kernel_rfl) rfl) (fun ρ w hx => h_conv_iu rfl hx) rfl)
    refine steps_snoc (k := 4) ?_ (s_load (i := 4) hP (g := none) (isOp_of (by kernel_rfl) : IsOp pws_o7 4 none (.load 3 (.tmp 85))) (by kernel_rfl) (by kernel_rfl) (grd_none) (bsrc_at 3 (bsrc_old 2 _ rfl rfl rfl (by kernel_rfl) (by kernel_rfl)) (by kernel_rfl) (by kernel_rfl) (by kernel_rfl)) (fun w q h => loadA1 w q h) rfl)
    refine steps_snoc (k := 3) ?_ (step_index (i := 3) (d := 85) (g := none) hP (isOp_of (by kernel_rfl) : IsOp pws_o7 3 none (.indexAddr 46 (.tmp 5) (.const (.int .i64 1)))) (by kernel_rfl) (by kernel_rfl) 1 rfl rfl _ 2 rfl rfl (by kernel_rfl) (grd_none) idxA1)
    refine steps_snoc (k := 2) ?_ (s_op2 (i := 2) hP (g := none) (isOp_of (by kernel_rfl) : IsOp pws_o7 2 none (.binOp .rem 3 (.tmp 83) (.const (.int .i64 20)) 3)) (by kernel_rfl) (by kernel_rfl) (grd_none) (src_op (f := (eqF (.int .i64 p0))) 1 (by kernel_rfl) (by kernel_rfl) rfl) (src_const _) (fun ρ w hx hy => h_rem (z := (m : Int)) (by decide) hm hx hy) rfl)
    refine steps_snoc (k := 1) ?_ (s_load (i := 1) hP (g := none) (isOp_of (by kernel_rfl) : IsOp pws_o7 1 none (.load 3 (.tmp 82))) (by kernel_rfl) (by kernel_rfl) (grd_none) (bsrc_at 0 (bsrc_old 2 _ rfl rfl rfl (by kernel_rfl) (by kernel_rfl)) (by kernel_rfl) (by kernel_rfl) (by kernel_rfl)) (fun w q h => loadA0 w q h) rfl)
    refine steps_snoc (k := 0) ?_ (step_index (i := 0) (d := 82) (g := none) hP (isOp_of (by kernel_rfl) : IsOp pws_o7 0 none (.indexAddr 46 (.tmp 5) (.const (.int .i64 0)))) (by kernel_rfl) (by kernel_rfl) 0 rfl rfl _ 2 rfl rfl (by kernel_rfl) (grd_none) idxA0)
    exact steps_nil
  · intro m a w hI hm
    exact ⟨(low_fact hst 0 rfl (by kernel_rfl) hI), (low_fact hst 1 rfl (by kernel_rfl) hI), (low_fact hst 2 rfl (by kernel_rfl) hI), (low_fact hst 3 rfl (by kernel_rfl) hI), (low_fact hst 4 rfl (by kernel_rfl) hI), (low_fact hst 5 rfl (by kernel_rfl) hI), (out_op hI hm 8 12 _ (by kernel_rfl) rfl), (out_op hI hm 9 13 _ (by kernel_rfl) rfl), (low_fact hst 6 rfl (by kernel_rfl) hI), trivial⟩
set_option maxRecDepth 100000 in
theorem pws_r8 {Q : Exit → Act → World → Prop} {Wb W0 : World} {a0 : Act} {r0 r1 : RawArg} (_hS : Sanity) (_ht : P10 Wb) (k0 : r0.Ok Wb) (_k1 : r1.Ok Wb) {p0 p1 : Int} {n m q : Nat} (_hp : p0 = (n : Int)) (_hn : n ≤ 256) (_hm : p0.tmod 20 = (m : Int)) (_hq : (IntKind.u64.wrap p1).tmod 20 = (q : Int)) (_hm2 : m ≤ 19) (_hq2 : q ≤ 19) (hst : St Wb 171 [(0, (eqF r0.val_)), (1, (eqF r1.val_)), (2, (eqF (.agg #[.int .i64 p0, .int .i64 p1]))), (6, (eqF (.bool false))), (7, (eqF (.bool true))), (11, (eqF (.int .i64 0))), (12, (eqF (.int .i64 (m : Int)))), (13, (eqF (.int .i64 (q : Int)))), (66, (eqF (.bool false)))] [(3, (rawBF (r0.cut 2))), (4, (rawBF (r1.cut 1))), (5, (arrBF p0 p1)), (8, (boxIF (r0.cut 2).int)), (9, (boxIF (r1.cut 1).int)), (10, (boxIF ((r0.cut 2).int ^ n)))] a0 W0)
    (fin : ∀ a w, St Wb 171 [(0, (eqF r0.val_)), (1, (eqF r1.val_)), (2, (eqF (.agg #[.int .i64 p0, .int .i64 p1]))), (6, (eqF (.bool false))), (7, (eqF (.bool true))), (11, (eqF (.int .i64 0))), (12, (eqF (.int .i64 (m : Int)))), (13, (eqF (.int .i64 (q : Int)))), (15, (eqF (.int .i64 0))), (66, (eqF (.bool false)))] [(3, (rawBF (r0.cut 2))), (4, (rawBF (r1.cut 1))), (5, (arrBF p0 p1)), (8, (boxIF (r0.cut 2).int)), (9, (boxIF (r1.cut 1).int)), (10, (boxIF ((r0.cut 2).int ^ n))), (14, (boxIF ((r0.cut 2).int ^ m)))] a w → Q .normal a w) : (Code.region 8 pws_o8 false).wp Tryd.prog Q a0 W0 := by
  have hP : Plan pws_o8 171 ([⟨3, none, none, (rawBF (r0.cut 2)), (rawBF (r0.cut 2))⟩, ⟨4, none, none, (rawBF (r1.cut 1)), (rawBF (r1.cut 1))⟩, ⟨5, none, none, (arrBF p0 p1), (arrBF p0 p1)⟩, ⟨8, none, none, (boxIF (r0.cut 2).int), (boxIF (r0.cut 2).int)⟩, ⟨9, none, none, (boxIF (r1.cut 1).int), (boxIF (r1.cut 1).int)⟩, ⟨10, none, none, (boxIF ((r0.cut 2).int ^ n)), (boxIF ((r0.cut 2).int ^ n))⟩, ⟨14, some 6, some 7, zeroIF, (boxIF ((r0.cut 2).int ^ m))⟩] : List BoxS) [] := ⟨by kernel_rfl, by kernel_rfl, by kernel_rfl, by kernel_rfl, by kernel_rfl, by kernel_rfl⟩
  refine region_st (F := [(intF (r0.cut 2).int), (eqF (.int .i64 (m : Int))), (tup2F (intF ((r0.cut 2).int ^ m)) (eqF (.int .i64 0))), (tup2F (intF ((r0.cut 2).int ^ m)) (eqF (.int .i64 0))), (intF ((r0.cut 2).int ^ m)), (eqF (.int .i64 0)), anyF, anyF, (eqF (.int .i64 0))]) hP hst rfl rfl ?_ ?_ fin
  · show Steps pws_o8 171 Wb W0 a0 _ _ _ 9
    refine steps_snoc (k := 8) ?_ (s_assign (i := 8) hP (g := none) (isOp_of (by kernel_rfl) : IsOp pws_o8 8 none (.assign (.tmp 95))) (by kernel_rfl) (by kernel_rfl) (grd_none) (src_op (f := (eqF (.int .i64 0))) 5 (by kernel_rfl) (by kernel_rfl) rfl) rfl)
    refine steps_snoc (k := 7) ?_ (s_store (i := 7) 6 _ (isOp_of (by kernel_rfl) : IsOp pws_o8 7 none (.store 27 (.tmp 14) (.tmp 94))) (by kernel_rfl) rfl rfl rfl (by kernel_rfl) (by kernel_rfl) (by kernel_rfl) (src_op (f := (intF ((r0.cut 2).int ^ m))) 4 (by kernel_rfl) (by kernel_rfl) rfl) (storeI_zero _))
    refine steps_snoc (k := 6) ?_ (s_alloc (i := 6) (d := 14) hP 6 _ (isOp_of (by kernel_rfl) : IsOp pws_o8 6 none (.alloc 27)) (by kernel_rfl) rfl rfl rfl (by kernel_rfl) (by kernel_rfl) (by kernel_rfl) (by kernel_rfl) rfl allocI_run allocI_old)
    refine steps_snoc (k := 5) ?_ (s_op1 (i := 5) hP (g := none) (isOp_of (by kernel_rfl) : IsOp pws_o8 5 none (.extract (.tmp 90) 1)) (by kernel_rfl) (by kernel_rfl) (grd_none) (src_op (f := (tup2F (intF ((r0.cut 2).int ^ m)) (eqF (.int .i64 0)))) 3 (by kernel_rfl) (by kernel_rfl) rfl) (fun ρ w hx => h_ext2_1 hx) rfl)
    refine steps_snoc (k := 4) ?_ (s_op1 (i := 4) hP (g := none) (isOp_of (by kernel_rfl) : IsOp pws_o8 4 none (.extract (.tmp 90) 0)) (by kernel_rfl) (by kernel_rfl) (grd_none) (src_op (f := (tup2F (intF ((r0.cut 2).int ^ m)) (eqF (.int .i64 0)))) 3 (by kernel_rfl) (by kernel_rfl) rfl) (fun ρ w hx => h_ext2_0 hx) rfl)
    refine steps_snoc (k := 3) ?_ (s_move (i := 3) hP (g := none) (isOp_of (by kernel_rfl) : IsOp pws_o8 3 none (.move (.tmp 93))) (by kernel_rfl) (by kernel_rfl) (grd_none) (src_op (f := (tup2F (intF ((r0.cut 2).int ^ m)) (eqF (.int .i64 0)))) 2 (by kernel_rfl) (by kernel_rfl) rfl) rfl)
    refine steps_snoc (k := 2) ?_ (s_call2 (i := 2) hP (g := none) (isOp_of (by kernel_rfl) : IsOp pws_o8 2 none (.call { callee := .value (.func 36), args := #[.tmp 91, .tmp 92], argTypes := #[27, 3] })) (by kernel_rfl) (by kernel_rfl) (grd_none) (src_op (f := (intF (r0.cut 2).int)) 0 (by kernel_rfl) (by kernel_rfl) rfl) (src_op (f := (eqF (.int .i64 (m : Int)))) 1 (by kernel_rfl) (by kernel_rfl) rfl) pwspl_quadrature_integer_Pow (fun w v0 v1 hb h0 h1 => kPow h0 h1 (k0.cutSm 2) (by omega) (by omega)) rfl)
    refine steps_snoc (k := 1) ?_ (s_move (i := 1) hP (g := none) (isOp_of (by kernel_rfl) : IsOp pws_o8 1 none (.move (.tmp 12))) (by kernel_rfl) (by kernel_rfl) (grd_none) (src_low hst 6 rfl (by kernel_rfl)) rfl)
    refine steps_snoc (k := 0) ?_ (s_load (i := 0) hP (g := none) (isOp_of (by kernel_rfl) : IsOp pws_o8 0 none (.load 27 (.tmp 8))) (by kernel_rfl) (by kernel_rfl) (grd_none) (bsrc_old 3 _ rfl rfl rfl (by kernel_rfl) (by kernel_rfl)) (fun w q h => loadI_int w q h) rfl)
    exact steps_nil
  · intro m a w hI hm
    exact ⟨(low_fact hst 0 rfl (by kernel_rfl) hI), (low_fact hst 1 rfl (by kernel_rfl) hI), (low_fact hst 2 rfl (by kernel_rfl) hI), (low_fact hst 3 rfl (by kernel_rfl) hI), (low_fact hst 4 rfl (by kernel_rfl) hI), (low_fact hst 5 rfl (by kernel_rfl) hI), (low_fact hst 6 rfl (by kernel_rfl) hI), (low_fact hst 7 rfl (by kernel_rfl) hI), (out_op hI hm 8 15 _ (by kernel_rfl) rfl), (low_fact hst 8 rfl (by kernel_rfl) hI), trivial⟩
set_option maxRecDepth 100000 in
theorem pws_r9 {Q : Exit → Act → World → Prop} {Wb W0 : World} {a0 : Act} {r0 r1 : RawArg} (_hS : Sanity) (_ht : P10 Wb) (k0 : r0.Ok Wb) (_k1 : r1.Ok Wb) {p0 p1 : Int} {n m q : Nat} (_hp : p0 = (n : Int)) (_hn : n ≤ 256) (_hm : p0.tmod 20 = (m : Int)) (_hq : (IntKind.u64.wrap p1).tmod 20 = (q : Int)) (_hm2 : m ≤ 19) (_hq2 : q ≤ 19) (hst : St Wb 171 [(0, (eqF r0.val_)), (1, (eqF r1.val_)), (2, (eqF (.agg #[.int .i64 p0, .int .i64 p1]))), (6, (eqF (.bool false))), (7, (eqF (.bool true))), (11, (eqF (.int .i64 0))), (12, (eqF (.int .i64 (m : Int)))), (13, (eqF (.int .i64 (q : Int)))), (15, (eqF (.int .i64 0))), (66, (eqF (.bool false)))] [(3, (rawBF (r0.cut 2))), (4, (rawBF (r1.cut 1))), (5, (arrBF p0 p1)), (8, (boxIF (r0.cut 2).int)), (9, (boxIF (r1.cut 1).int)), (10, (boxIF ((r0.cut 2).int ^ n))), (14, (boxIF ((r0.cut 2).int ^ m)))] a0 W0)
    (fin : ∀ a w, St Wb 171 [(0, (eqF r0.val_)), (1, (eqF r1.val_)), (2, (eqF (.agg #[.int .i64 p0, .int .i64 p1]))), (6, (eqF (.bool false))), (7, (eqF (.bool true))), (11, (eqF (.int .i64 0))), (12, (eqF (.int .i64 (m : Int)))), (13, (eqF (.int .i64 (q : Int)))), (15, (eqF (.int .i64 0))), (17, (eqF (.int .i64 0))), (66, (eqF (.bool false)))] [(3, (rawBF (r0.cut 2))), (4, (rawBF (r1.cut 1))), (5, (arrBF p0 p1)), (8, (boxIF (r0.cut 2).int)), (9, (boxIF (r1.cut 1).int)), (10, (boxIF ((r0.cut 2).int ^ n))), (14, (boxIF ((r0.cut 2).int ^ m))), (16, (boxIF ((r0.cut 2).int ^ q)))] a w → Q .normal a w) : (Code.region 9 pws_o9 false).wp Tryd.prog Q a0 W0 := by
  have hP : Plan pws_o9 171 ([⟨3, none, none, (rawBF (r0.cut 2)), (rawBF (r0.cut 2))⟩, ⟨4, none, none, (rawBF (r1.cut 1)), (rawBF (r1.cut 1))⟩, ⟨5, none, none, (arrBF p0 p1), (arrBF p0 p1)⟩, ⟨8, none, none, (boxIF (r0.cut 2).int), (boxIF (r0.cut 2).int)⟩, ⟨9, none, none, (boxIF (r1.cut 1).int), (boxIF (r1.cut 1).int)⟩, ⟨10, none, none, (boxIF ((r0.cut 2).int ^ n)), (boxIF ((r0.cut 2).int ^ n))⟩, ⟨14, none, none, (boxIF ((r0.cut 2).int ^ m)), (boxIF ((r0.cut 2).int ^ m))⟩, ⟨16, some 6, some 7, zeroIF, (boxIF ((r0.cut 2).int ^ q))⟩] : List BoxS) [] := ⟨by kernel_rfl, by kernel_rfl, by kernel_rfl, by kernel_rfl, by kernel_rfl, by kernel_rfl⟩
  refine region_st (F := [(intF (r0.cut 2).int), (eqF (.int .i64 (q : Int))), (tup2F (intF ((r0.cut 2).int ^ q)) (eqF (.int .i64 0))), (tup2F (intF ((r0.cut 2).int ^ q)) (eqF (.int .i64 0))), (intF ((r0.cut 2).int ^ q)), (eqF (.int .i64 0)), anyF, anyF, (eqF (.int .i64 0))]) hP hst rfl rfl ?_ ?_ fin
  · show Steps pws_o9 171 Wb W0 a0 _ _ _ 9
    refine steps_snoc (k := 8) ?_ (s_assign (i := 8) hP (g := none) (isOp_of (by kernel_rfl) : IsOp pws_o9 8 none (.assign (.tmp 101))) (by kernel_rfl) (by kernel_rfl) (grd_none) (src_op (f := (eqF (.int .i64 0))) 5 (by kernel_rfl) (by kernel_rfl) rfl) rfl)
    refine steps_snoc (k := 7) ?_ (s_store (i := 7) 7 _ (isOp_of (by kernel_rfl) : IsOp pws_o9 7 none (.store 27 (.tmp 16) (.tmp 100))) (by kernel_rfl) rfl rfl rfl (by kernel_rfl) (by kernel_rfl) (by kernel_rfl) (src_op (f := (intF ((r0.cut 2).int ^ q))) 4 (by kernel_rfl) (by kernel_rfl) rfl) (storeI_zero _))
    refine steps_snoc (k := 6) ?_ (s_alloc (i := 6) (d := 16) hP 7 _ (isOp_of (by kernel_rfl) : IsOp pws_o9 6 none (.alloc 27)) (by kernel_rfl) rfl rfl rfl (by kernel_rfl) (by kernel_rfl) (by kernel_rfl) (by kernel_rfl) rfl allocI_run allocI_old)
    refine steps_snoc (k := 5) ?_ (s_op1 (i := 5) hP (g := none) (isOp_of (by kernel_rfl) : IsOp pws_o9 5 none (.extract (.tmp 96) 1)) (by kernel_rfl) (by kernel_rfl) (grd_none) (src_op (f := (tup2F (intF ((r0.cut 2).int ^ q)) (eqF (.int .i64 0)))) 3 (by kernel_rfl) (by kernel_rfl) rfl) (fun ρ w hx => h_ext2_1 hx) rfl)
    refine steps_snoc (k := 4) ?_ (s_op1 (i := 4) hP (g := none) (isOp_of (by kernel_rfl) : IsOp pws_o9 4 none (.extract (.tmp 96) 0)) (by kernel_rfl) (by kernel_rfl) (grd_none) (src_op (f := (tup2F (intF ((r0.cut 2).int ^ q)) (eqF (.int .i64 0)))) 3 (by kernel_rfl) (by kernel_rfl) rfl) (fun ρ w hx => h_ext2_0 hx) rfl)
    refine steps_snoc (k := 3) ?_ (s_move (i := 3) hP (g := none) (isOp_of (by kernel_rfl) : IsOp pws_o9 3 none (.move (.tmp 99))) (by kernel_rfl) (by kernel_rfl) (grd_none) (src_op (f := (tup2F (intF ((r0.cut 2).int ^ q)) (eqF (.int .i64 0)))) 2 (by kernel_rfl) (by kernel_rfl) rfl) rfl)
    refine steps_snoc (k := 2) ?_ (s_call2 (i := 2) hP (g := none) (isOp_of (by kernel_rfl) : IsOp pws_o9 2 none (.call { callee := .value (.func 36), args := #[.tmp 97, .tmp 98], argTypes := #[27, 3] })) (by kernel_rfl) (by kernel_rfl) (grd_none) (src_op (f := (intF (r0.cut 2).int)) 0 (by kernel_rfl) (by kernel_rfl) rfl) (src_op (f := (eqF (.int .i64 (q : Int)))) 1 (by kernel_rfl) (by kernel_rfl) rfl) pwspl_quadrature_integer_Pow (fun w v0 v1 hb h0 h1 => kPow h0 h1 (k0.cutSm 2) (by omega) (by omega)) rfl)
    refine steps_snoc (k := 1) ?_ (s_move (i := 1) hP (g := none) (isOp_of (by kernel_rfl) : IsOp pws_o9 1 none (.move (.tmp 13))) (by kernel_rfl) (by kernel_rfl) (grd_none) (src_low hst 7 rfl (by kernel_rfl)) rfl)
    refine steps_snoc (k := 0) ?_ (s_load (i := 0) hP (g := none) (isOp_of (by kernel_rfl) : IsOp pws_o9 0 none (.load 27 (.tmp 8))) (by kernel_rfl) (by kernel_rfl) (grd_none) (bsrc_old 3 _ rfl rfl rfl (by kernel_rfl) (by kernel_rfl)) (fun w q h => loadI_int w q h) rfl)
    exact steps_nil
  · intro m a w hI hm
    exact ⟨(low_fact hst 0 rfl (by kernel_rfl) hI), (low_fact hst 1 rfl (by kernel_rfl) hI), (low_fact hst 2 rfl (by kernel_rfl) hI), (low_fact hst 3 rfl (by kernel_rfl) hI), (low_fact hst 4 rfl (by kernel_rfl) hI), (low_fact hst 5 rfl (by kernel_rfl) hI), (low_fact hst 6 rfl (by kernel_rfl) hI), (low_fact hst 7 rfl (by kernel_rfl) hI), (low_fact hst 8 rfl (by kernel_rfl) hI), (out_op hI hm 8 17 _ (by kernel_rfl) rfl), (low_fact hst 9 rfl (by kernel_rfl) hI), trivial⟩
set_option maxRecDepth 100000 in
theorem pws_r10 {Q : Exit → Act → World → Prop} {Wb W0 : World} {a0 : Act} {r0 r1 : RawArg} (_hS : Sanity) (_ht : P10 Wb) (k0 : r0.Ok Wb) (_k1 : r1.Ok Wb) {p0 p1 : Int} {n m q : Nat} (_hp : p0 = (n : Int)) (_hn : n ≤ 256) (_hm : p0.tmod 20 = (m : Int)) (_hq : (IntKind.u64.wrap p1).tmod 20 = (q : Int)) (_hm2 : m ≤ 19) (_hq2 : q ≤ 19) (hst : St Wb 171 [(0, (eqF r0.val_)), (1, (eqF r1.val_)), (2, (eqF (.agg #[.int .i64 p0, .int .i64 p1]))), (6, (eqF (.bool false))), (7, (eqF (.bool true))), (11, (eqF (.int .i64 0))), (12, (eqF (.int .i64 (m : Int)))), (13, (eqF (.int .i64 (q : Int)))), (15, (eqF (.int .i64 0))), (17, (eqF (.int .i64 0))), (66, (eqF (.bool false)))] [(3, (rawBF (r0.cut 2))), (4, (rawBF (r1.cut 1))), (5, (arrBF p0 p1)), (8, (boxIF (r0.cut 2).int)), (9, (boxIF (r1.cut 1).int)), (10, (boxIF ((r0.cut 2).int ^ n))), (14, (boxIF ((r0.cut 2).int ^ m))), (16, (boxIF ((r0.cut 2).int ^ q)))] a0 W0)
    (fin : ∀ a w, St Wb 171 [(0, (eqF r0.val_)), (1, (eqF r1.val_)), (2, (eqF (.agg #[.int .i64 p0, .int .i64 p1]))), (6, (eqF (.bool false))), (7, (eqF (.bool true))), (11, (eqF (.int .i64 0))), (12, (eqF (.int .i64 (m : Int)))), (13, (eqF (.int .i64 (q : Int)))), (15, (eqF (.int .i64 0))), (17, (eqF (.int .i64 0))), (19, (eqF (.int .i64 0))), (66, (eqF (.bool false)))] [(3, (rawBF (r0.cut 2))), (4, (rawBF (r1.cut 1))), (5, (arrBF p0 p1)), (8, (boxIF (r0.cut 2).int)), (9, (boxIF (r1.cut 1).int)), (10, (boxIF ((r0.cut 2).int ^ n))), (14, (boxIF ((r0.cut 2).int ^ m))), (16, (boxIF ((r0.cut 2).int ^ q))), (18, (boxIF ((r0.cut 2).int ^ (m + q : Nat))))] a w → Q .normal a w) : (Code.region 10 pws_o10 false).wp Tryd.prog Q a0 W0 := by
  have hP : Plan pws_o10 171 ([⟨3, none, none, (rawBF (r0.cut 2)), (rawBF (r0.cut 2))⟩, ⟨4, none, none, (rawBF (r1.cut 1)), (rawBF (r1.cut 1))⟩, ⟨5, none, none, (arrBF p0 p1), (arrBF p0 p1)⟩, ⟨8, none, none, (boxIF (r0.cut 2).int), (boxIF (r0.cut 2).int)⟩, ⟨9, none, none, (boxIF (r1.cut 1).int), (boxIF (r1.cut 1).int)⟩, ⟨10, none, none, (boxIF ((r0.cut 2).int ^ n)), (boxIF ((r0.cut 2).int ^ n))⟩, ⟨14, none, none, (boxIF ((r0.cut 2).int ^ m)), (boxIF ((r0.cut 2).int ^ m))⟩, ⟨16, none, none, (boxIF ((r0.cut 2).int ^ q)), (boxIF ((r0.cut 2).int ^ q))⟩, ⟨18, some 8, some 9, zeroIF, (boxIF ((r0.cut 2).int ^ (m + q : Nat)))⟩] : List BoxS) [] := ⟨by kernel_rfl, by kernel_rfl, by kernel_rfl, by kernel_rfl, by kernel_rfl, by kernel_rfl⟩
  refine region_st (F := [(intF (r0.cut 2).int), (eqF (.int .i64 (m : Int))), (eqF (.int .i64 (q : Int))), (eqF (.int .i64 ((m + q : Nat) : Int))), (tup2F (intF ((r0.cut 2).int ^ (m + q : Nat))) (eqF (.int .i64 0))), (tup2F (intF ((r0.cut 2).int ^ (m + q : Nat))) (eqF (.int .i64 0))), (intF ((r0.cut 2).int ^ (m + q : Nat))), (eqF (.int .i64 0)), anyF, anyF, (eqF (.int .i64 0))]) hP hst rfl rfl ?_ ?_ fin
  · show Steps pws_o10 171 Wb W0 a0 _ _ _ 11
    refine steps_snoc (k := 10) ?_ (s_assign (i := 10) hP (g := none) (isOp_of (by kernel_rfl) : IsOp pws_o10 10 none (.assign (.tmp 109))) (by kernel_rfl) (by kernel_rfl) (grd_none) (src_op (f := (eqF (.int .i64 0))) 7 (by kernel_rfl) (by kernel_rfl) rfl) rfl)
    refine steps_snoc (k := 9) ?_ (s_store (i := 9) 8 _ (isOp_of (by kernel_rfl) : IsOp pws_o10 9 none (.store 27 (.tmp 18) (.tmp 108))) (by kernel_rfl) rfl rfl rfl (by kernel_rfl) (by kernel_rfl) (by kernel_rfl) (src_op (f := (intF ((r0.cut 2).int ^ (m + q : Nat)))) 6 (by kernel_rfl) (by kernel_rfl) rfl) (storeI_zero _))
    refine steps_snoc (k := 8) ?_ (s_alloc (i := 8) (d := 18) hP 8 _ (isOp_of (by kernel_rfl) : IsOp pws_o10 8 none (.alloc 27)) (by kernel_rfl) rfl rfl rfl (by kernel_rfl) (by kernel_rfl) (by kernel_rfl) (by kernel_rfl) rfl allocI_run allocI_old)
    refine steps_snoc (k := 7) ?_ (s_op1 (i := 7) hP (g := none) (isOp_of (by kernel_rfl) : IsOp pws_o10 7 none (.extract (.tmp 102) 1)) (by kernel_rfl) (by kernel_rfl) (grd_none) (src_op (f := (tup2F (intF ((r0.cut 2).int ^ (m + q : Nat))) (eqF (.int .i64 0)))) 5 (by kernel_rfl) (by kernel_rfl) rfl) (fun ρ w hx => h_ext2_1 hx) rfl)
    refine steps_snoc (k := 6) ?_ (s_op1 (i := 6) hP (g := none) (isOp_of (by kernel_rfl) : IsOp pws_o10 6 none (.extract (.tmp 102) 0)) (by kernel_rfl) (by kernel_rfl) (grd_none) (src_op (f := (tup2F (intF ((r0.cut 2).int ^ (m + q : Nat))) (eqF (.int .i64 0)))) 5 (by kernel_rfl) (by kernel_rfl) rfl) (fun ρ w hx => h_ext2_0 hx) rfl)
    refine steps_snoc (k := 5) ?_ (s_move (i := 5) hP (g := none) (isOp_of (by kernel_rfl) : IsOp pws_o10 5 none (.move (.tmp 107))) (by kernel_rfl) (by kernel_rfl) (grd_none) (src_op (f := (tup2F (intF ((r0.cut 2).int ^ (m + q : Nat))) (eqF (.int .i64 0)))) 4 (by kernel_rfl) (by kernel_rfl) rfl) rfl)
    refine steps_snoc (k := 4) ?_ (s_call2 (i := 4) hP (g := none) (isOp_of (by kernel_rfl) : IsOp pws_o10 4 none (.call { callee := .value (.func 36), args := #[.tmp 103, .tmp 106], argTypes := #[27, 3] })) (by kernel_rfl) (by kernel_rfl) (grd_none) (src_op (f := (intF (r0.cut 2).int)) 0 (by kernel_rfl) (by kernel_rfl) rfl) (src_op (f := (eqF (.int .i64 ((m + q : Nat) : Int)))) 3 (by kernel_rfl) (by kernel_rfl) rfl) pwspl_quadrature_integer_Pow (fun w v0 v1 hb h0 h1 => kPow h0 h1 (k0.cutSm 2) (by omega) (by omega)) rfl)
    refine steps_snoc (k := 3) ?_ (s_op2 (i := 3) hP (g := none) (isOp_of (by kernel_rfl) : IsOp pws_o10 3 none (.binOp .add 3 (.tmp 104) (.tmp 105) 3)) (by kernel_rfl) (by kernel_rfl) (grd_none) (src_op (f := (eqF (.int .i64 (m : Int)))) 1 (by kernel_rfl) (by kernel_rfl) rfl) (src_op (f := (eqF (.int .i64 (q : Int)))) 2 (by kernel_rfl) (by kernel_rfl) rfl) (fun ρ w hx hy => h_add (z := ((m + q : Nat) : Int)) (by rw [IntKind.wrap_i64]; omega) hx hy) rfl)
    refine steps_snoc (k := 2) ?_ (s_move (i := 2) hP (g := none) (isOp_of (by kernel_rfl) : IsOp pws_o10 2 none (.move (.tmp 13))) (by kernel_rfl) (by kernel_rfl) (grd_none) (src_low hst 7 rfl (by kernel_rfl)) rfl)
    refine steps_snoc (k := 1) ?_ (s_move (i := 1) hP (g := none) (isOp_of (by kernel_rfl) : IsOp pws_o10 1 none (.move (.tmp 12))) (by kernel_rfl) (by kernel_rfl) (grd_none) (src_low hst 6 rfl (by kernel_rfl)) rfl)
    refine steps_snoc (k := 0) ?_ (s_load (i := 0) hP (g := none) (isOp_of (by kernel_rfl) : IsOp pws_o10 0 none (.load 27 (.tmp 8))) (by kernel_rfl) (by kernel_rfl) (grd_none) (bsrc_old 3 _ rfl rfl rfl (by kernel_rfl) (by kernel_rfl)) (fun w q h => loadI_int w q h) rfl)
    exact steps_nil
  · intro m a w hI hm
    exact ⟨(low_fact hst 0 rfl (by kernel_rfl) hI), (low_fact hst 1 rfl (by kernel_rfl) hI), (low_fact hst 2 rfl (by kernel_rfl) hI), (low_fact hst 3 rfl (by kernel_rfl) hI), (low_fact hst 4 rfl (by kernel_rfl) hI), (low_fact hst 5 rfl (by kernel_rfl) hI), (low_fact hst 6 rfl (by kernel_rfl) hI), (low_fact hst 7 rfl (by kernel_rfl) hI), (low_fact hst 8 rfl (by kernel_rfl) hI), (low_fact hst 9 rfl (by kernel_rfl) hI), (out_op hI hm 10 19 _ (by kernel_rfl) rfl), (low_fact hst 10 rfl (by kernel_rfl) hI), trivial⟩
set_option maxRecDepth 100000 in
theorem pws_r11 {Q : Exit → Act → World → Prop} {Wb W0 : World} {a0 : Act} {r0 r1 : RawArg} (_hS : Sanity) (_ht : P10 Wb) (_k0 : r0.Ok Wb) (k1 : r1.Ok Wb) {p0 p1 : Int} {n m q : Nat} (_hp : p0 = (n : Int)) (_hn : n ≤ 256) (_hm : p0.tmod 20 = (m : Int)) (_hq : (IntKind.u64.wrap p1).tmod 20 = (q : Int)) (_hm2 : m ≤ 19) (_hq2 : q ≤ 19) (hst : St Wb 171 [(0, (eqF r0.val_)), (1, (eqF r1.val_)), (2, (eqF (.agg #[.int .i64 p0, .int .i64 p1]))), (6, (eqF (.bool false))), (7, (eqF (.bool true))), (11, (eqF (.int .i64 0))), (12, (eqF (.int .i64 (m : Int)))), (13, (eqF (.int .i64 (q : Int)))), (15, (eqF (.int .i64 0))), (17, (eqF (.int .i64 0))), (19, (eqF (.int .i64 0))), (66, (eqF (.bool false)))] [(3, (rawBF (r0.cut 2))), (4, (rawBF (r1.cut 1))), (5, (arrBF p0 p1)), (8, (boxIF (r0.cut 2).int)), (9, (boxIF (r1.cut 1).int)), (10, (boxIF ((r0.cut 2).int ^ n))), (14, (boxIF ((r0.cut 2).int ^ m))), (16, (boxIF ((r0.cut 2).int ^ q))), (18, (boxIF ((r0.cut 2).int ^ (m + q : Nat))))] a0 W0)
    (fin : ∀ a w, St Wb 171 [(0, (eqF r0.val_)), (1, (eqF r1.val_)), (2, (eqF (.agg #[.int .i64 p0, .int .i64 p1]))), (6, (eqF (.bool false))), (7, (eqF (.bool true))), (11, (eqF (.int .i64 0))), (12, (eqF (.int .i64 (m : Int)))), (13, (eqF (.int .i64 (q : Int)))), (15, (eqF (.int .i64 0))), (17, (eqF (.int .i64 0))), (19, (eqF (.int .i64 0))), (21, (eqF (.int .i64 0))), (66, (eqF (.bool false)))] [(3, (rawBF (r0.cut 2))), (4, (rawBF (r1.cut 1))), (5, (arrBF p0 p1)), (8, (boxIF (r0.cut 2).int)), (9, (boxIF (r1.cut 1).int)), (10, (boxIF ((r0.cut 2).int ^ n))), (14, (boxIF ((r0.cut 2).int ^ m))), (16, (boxIF ((r0.cut 2).int ^ q))), (18, (boxIF ((r0.cut 2).int ^ (m + q : Nat)))), (20, (boxIF ((r1.cut 1).int ^ m)))] a w → Q .normal a w) : (Code.region 11 pws_o11 false).wp Tryd.prog Q a0 W0 := by
  have hP : Plan pws_o11 171 ([⟨3, none, none, (rawBF (r0.cut 2)), (rawBF (r0.cut 2))⟩, ⟨4, none, none, (rawBF (r1.cut 1)), (rawBF (r1.cut 1))⟩, ⟨5, none, none, (arrBF p0 p1), (arrBF p0 p1)⟩, ⟨8, none, none, (boxIF (r0.cut 2).int), (boxIF (r0.cut 2).int)⟩, ⟨9, none, none, (boxIF (r1.cut 1).int), (boxIF (r1.cut 1).int)⟩, ⟨10, none, none, (boxIF ((r0.cut 2).int ^ n)), (boxIF ((r0.cut 2).int ^ n))⟩, ⟨14, none, none, (boxIF ((r0.cut 2).int ^ m)), (boxIF ((r0.cut 2).int ^ m))⟩, ⟨16, none, none, (boxIF ((r0.cut 2).int ^ q)), (boxIF ((r0.cut 2).int ^ q))⟩, ⟨18, none, none, (boxIF ((r0.cut 2).int ^ (m + q : Nat))), (boxIF ((r0.cut 2).int ^ (m + q : Nat)))⟩, ⟨20, some 6, some 7, zeroIF, (boxIF ((r1.cut 1).int ^ m))⟩] : List BoxS) [] := ⟨by kernel_rfl, by kernel_rfl, by kernel_rfl, by kernel_rfl, by kernel_rfl, by kernel_rfl⟩
  refine region_st (F := [(intF (r1.cut 1).int), (eqF (.int .i64 (m : Int))), (tup2F (intF ((r1.cut 1).int ^ m)) (eqF (.int .i64 0))), (tup2F (intF ((r1.cut 1).int ^ m)) (eqF (.int .i64 0))), (intF ((r1.cut 1).int ^ m)), (eqF (.int .i64 0)), anyF, anyF, (eqF (.int .i64 0))]) hP hst rfl rfl ?_ ?_ fin
  · show Steps pws_o11 171 Wb W0 a0 _ _ _ 9
    refine steps_snoc (k := 8) ?_ (s_assign (i := 8) hP (g := none) (isOp_of (by kernel_rfl) : IsOp pws_o11 8 none (.assign (.tmp 115))) (by kernel_rfl) (by kernel_rfl) (grd_none) (src_op (f := (eqF (.int .i64 0))) 5 (by kernel_rfl) (by kernel_rfl) rfl) rfl)
    refine steps_snoc (k := 7) ?_ (s_store (i := 7) 9 _ (isOp_of (by kernel_rfl) : IsOp pws_o11 7 none (.store 27 (.tmp 20) (.tmp 114))) (by kernel_rfl) rfl rfl rfl (by kernel_rfl) (by kernel_rfl) (by kernel_rfl) (src_op (f := (intF ((r1.cut 1).int ^ m))) 4 (by kernel_rfl) (by kernel_rfl) rfl) (storeI_zero _))
    refine steps_snoc (k := 6) ?_ (s_alloc (i := 6) (d := 20) hP 9 _ (isOp_of (by kernel_rfl) : IsOp pws_o11 6 none (.alloc 27)) (by kernel_rfl) rfl rfl rfl (by kernel_rfl) (by kernel_rfl) (by kernel_rfl) (by kernel_rfl) rfl allocI_run allocI_old)
    refine steps_snoc (k := 5) ?_ (s_op1 (i := 5) hP (g := none) (isOp_of (by kernel_rfl) : IsOp pws_o11 5 none (.extract (.tmp 110) 1)) (by kernel_rfl) (by kernel_rfl) (grd_none) (src_op (f := (tup2F (intF ((r1.cut 1).int ^ m)) (eqF (.int .i64 0)))) 3 (by kernel_rfl) (by kernel_rfl) rfl) (fun ρ w hx => h_ext2_1 hx) rfl)
    refine steps_snoc (k := 4) ?_ (s_op1 (i := 4) hP (g := none) (isOp_of (by kernel_rfl) : IsOp pws_o11 4 none (.extract (.tmp 110) 0)) (by kernel_rfl) (by kernel_rfl) (grd_none) (src_op (f := (tup2F (intF ((r1.cut 1).int ^ m)) (eqF (.int .i64 0)))) 3 (by kernel_rfl) (by kernel_rfl) rfl) (fun ρ w hx => h_ext2_0 hx) rfl)
    refine steps_snoc (k := 3) ?_ (s_move (i := 3) hP (g := none) (isOp_of (by kernel_rfl) : IsOp pws_o11 3 none (.move (.tmp 113))) (by kernel_rfl) (by kernel_rfl) (grd_none) (src_op (f := (tup2F (intF ((r1.cut 1).int ^ m)) (eqF (.int .i64 0)))) 2 (by kernel_rfl) (by kernel_rfl) rfl) rfl)
    refine steps_snoc (k := 2) ?_ (s_call2 (i := 2) hP (g := none) (isOp_of (by kernel_rfl) : IsOp pws_o11 2 none (.call { callee := .value (.func 36), args := #[.tmp 111, .tmp 112], argTypes := #[27, 3] })) (by kernel_rfl) (by kernel_rfl) (grd_none) (src_op (f := (intF (r1.cut 1).int)) 0 (by kernel_rfl) (by kernel_rfl) rfl) (src_op (f := (eqF (.int .i64 (m : Int)))) 1 (by kernel_rfl) (by kernel_rfl) rfl) pwspl_quadrature_integer_Pow (fun w v0 v1 hb h0 h1 => kPow h0 h1 (k1.cutSm 1) (by omega) (by omega)) rfl)
    refine steps_snoc (k := 1) ?_ (s_move (i := 1) hP (g := none) (isOp_of (by kernel_rfl) : IsOp pws_o11 1 none (.move (.tmp 12))) (by kernel_rfl) (by kernel_rfl) (grd_none) (src_low hst 6 rfl (by kernel_rfl)) rfl)
    refine steps_snoc (k := 0) ?_ (s_load (i := 0) hP (g := none) (isOp_of (by kernel_rfl) : IsOp pws_o11 0 none (.load 27 (.tmp 9))) (by kernel_rfl) (by kernel_rfl) (grd_none) (bsrc_old 4 _ rfl rfl rfl (by kernel_rfl) (by kernel_rfl)) (fun w q h => loadI_int w q h) rfl)
    exact steps_nil
  · intro m a w hI hm
    exact ⟨(low_fact hst 0 rfl (by kernel_rfl) hI), (low_fact hst 1 rfl (by kernel_rfl) hI), (low_fact hst 2 rfl (by kernel_rfl) hI), (low_fact hst 3 rfl (by kernel_rfl) hI), (low_fact hst 4 rfl (by kernel_rfl) hI), (low_fact hst 5 rfl (by kernel_rfl) hI), (low_fact hst 6 rfl (by kernel_rfl) hI), (low_fact hst 7 rfl (by kernel_rfl) hI), (low_fact hst 8 rfl (by kernel_rfl) hI), (low_fact hst 9 rfl (by kernel_rfl) hI), (low_fact hst 10 rfl (by kernel_rfl) hI), (out_op hI hm 8 21 _ (by kernel_rfl) rfl), (low_fact hst 11 rfl (by kernel_rfl) hI), trivial⟩
set_option maxRecDepth 100000 in
theorem pws_r12 {Q : Exit → Act → World → Prop} {Wb W0 : World} {a0 : Act} {r0 r1 : RawArg} (_hS : Sanity) (_ht : P10 Wb) (k0 : r0.Ok Wb) (k1 : r1.Ok Wb) {p0 p1 : Int} {n m q : Nat} (_hp : p0 = (n : Int)) (_hn : n ≤ 256) (_hm : p0.tmod 20 = (m : Int)) (_hq : (IntKind.u64.wrap p1).tmod 20 = (q : Int)) (_hm2 : m ≤ 19) (_hq2 : q ≤ 19) (hst : St Wb 171 [(0, (eqF r0.val_)), (1, (eqF r1.val_)), (2, (eqF (.agg #[.int .i64 p0, .int .i64 p1]))), (6, (eqF (.bool false))), (7, (eqF (.bool true))), (11, (eqF (.int .i64 0))), (12, (eqF (.int .i64 (m : Int)))), (13, (eqF (.int .i64 (q : Int)))), (15, (eqF (.int .i64 0))), (17, (eqF (.int .i64 0))), (19, (eqF (.int .i64 0))), (21, (eqF (.int .i64 0))), (66, (eqF (.bool false)))] [(3, (rawBF (r0.cut 2))), (4, (rawBF (r1.cut 1))), (5, (arrBF p0 p1)), (8, (boxIF (r0.cut 2).int)), (9, (boxIF (r1.cut 1).int)), (10, (boxIF ((r0.cut 2).int ^ n))), (14, (boxIF ((r0.cut 2).int ^ m))), (16, (boxIF ((r0.cut 2).int ^ q))), (18, (boxIF ((r0.cut 2).int ^ (m + q : Nat)))), (20, (boxIF ((r1.cut 1).int ^ m)))] a0 W0)
    (fin : ∀ a w, St Wb 171 [(0, (eqF r0.val_)), (1, (eqF r1.val_)), (2, (eqF (.agg #[.int .i64 p0, .int .i64 p1]))), (6, (eqF (.bool false))), (7, (eqF (.bool true))), (11, (eqF (.int .i64 0))), (12, (eqF (.int .i64 (m : Int)))), (13, (eqF (.int .i64 (q : Int)))), (15, (eqF (.int .i64 0))), (17, (eqF (.int .i64 0))), (19, (eqF (.int .i64 0))), (21, (eqF (.int .i64 0))), (23, (eqF (.int .i64 0))), (66, (eqF (.bool false)))] [(3, (rawBF (r0.cut 2))), (4, (rawBF (r1.cut 1))), (5, (arrBF p0 p1)), (8, (boxIF (r0.cut 2).int)), (9, (boxIF (r1.cut 1).int)), (10, (boxIF ((r0.cut 2).int ^ n))), (14, (boxIF ((r0.cut 2).int ^ m))), (16, (boxIF ((r0.cut 2).int ^ q))), (18, (boxIF ((r0.cut 2).int ^ (m + q : Nat)))), (20, (boxIF ((r1.cut 1).int ^ m))), (22, (boxIF (((r0.cut 2).int * (r1.cut 1).int) ^ m)))] a w → Q .normal a w) : (Code.region 12 pws_o12 false).wp Tryd.prog Q a0 W0 := by
  have hP : Plan pws_o12 171 ([⟨3, none, none, (rawBF (r0.cut 2)), (rawBF (r0.cut 2))⟩, ⟨4, none, none, (rawBF (r1.cut 1)), (rawBF (r1.cut 1))⟩, ⟨5, none, none, (arrBF p0 p1), (arrBF p0 p1)⟩, ⟨8, none, none, (boxIF (r0.cut 2).int), (boxIF (r0.cut 2).int)⟩, ⟨9, none, none, (boxIF (r1.cut 1).int), (boxIF (r1.cut 1).int)⟩, ⟨10, none, none, (boxIF ((r0.cut 2).int ^ n)), (boxIF ((r0.cut 2).int ^ n))⟩, ⟨14, none, none, (boxIF ((r0.cut 2).int ^ m)), (boxIF ((r0.cut 2).int ^ m))⟩, ⟨16, none, none, (boxIF ((r0.cut 2).int ^ q)), (boxIF ((r0.cut 2).int ^ q))⟩, ⟨18, none, none, (boxIF ((r0.cut 2).int ^ (m + q : Nat))), (boxIF ((r0.cut 2).int ^ (m + q : Nat)))⟩, ⟨20, none, none, (boxIF ((r1.cut 1).int ^ m)), (boxIF ((r1.cut 1).int ^ m))⟩, ⟨22, some 8, some 9, zeroIF, (boxIF (((r0.cut 2).int * (r1.cut 1).int) ^ m))⟩] : List BoxS) [] := ⟨by kernel_rfl, by kernel_rfl, by kernel_rfl, by kernel_rfl, by kernel_rfl, by kernel_rfl⟩
  refine region_st (F := [(intF (r0.cut 2).int), (intF (r1.cut 1).int), (intF ((r0.cut 2).int * (r1.cut 1).int)), (eqF (.int .i64 (m : Int))), (tup2F (intF (((r0.cut 2).int * (r1.cut 1).int) ^ m)) (eqF (.int .i64 0))), (tup2F (intF (((r0.cut 2).int * (r1.cut 1).int) ^ m)) (eqF (.int .i64 0))), (intF (((r0.cut 2).int * (r1.cut 1).int) ^ m)), (eqF (.int .i64 0)), anyF, anyF, (eqF (.int .i64 0))]) hP hst rfl rfl ?_ ?_ fin
  · show Steps pws_o12 171 Wb W0 a0 _ _ _ 11
    refine steps_snoc (k := 10) ?_ (s_assign (i := 10) hP (g := none) (isOp_of (by kernel_rfl) : IsOp pws_o12 10 none (.assign (.tmp 123))) (by kernel_rfl) (by kernel_rfl) (grd_none) (src_op (f := (eqF (.int .i64 0))) 7 (by kernel_rfl) (by kernel_rfl) rfl) rfl)
    refine steps_snoc (k := 9) ?_ (s_store (i := 9) 10 _ (isOp_of (by kernel_rfl) : IsOp pws_o12 9 none (.store 27 (.tmp 22) (.tmp 122))) (by kernel_rfl) rfl rfl rfl (by kernel_rfl) (by kernel_rfl) (by kernel_rfl) (src_op (f := (intF (((r0.cut 2).int * (r1.cut 1).int) ^ m))) 6 (by kernel_rfl) (by kernel_rfl) rfl) (storeI_zero _))
    refine steps_snoc (k := 8) ?_ (s_alloc (i := 8) (d := 22) hP 10 _ (isOp_of (by kernel_rfl) : IsOp pws_o12 8 none (.alloc 27)) (by kernel_rfl) rfl rfl rfl (by kernel_rfl) (by kernel_rfl) (by kernel_rfl) (by kernel_rfl) rfl allocI_run allocI_old)
    refine steps_snoc (k := 7) ?_ (s_op1 (i := 7) hP (g := none) (isOp_of (by kernel_rfl) : IsOp pws_o12 7 none (.extract (.tmp 116) 1)) (by kernel_rfl) (by kernel_rfl) (grd_none) (src_op (f := (tup2F (intF (((r0.cut 2).int * (r1.cut 1).int) ^ m)) (eqF (.int .i64 0)))) 5 (by kernel_rfl) (by kernel_rfl) rfl) (fun ρ w hx => h_ext2_1 hx) rfl)
    refine steps_snoc (k := 6) ?_ (s_op1 (i := 6) hP (g := none) (isOp_of (by kernel_rfl) : IsOp pws_o12 6 none (.extract (.tmp 116) 0)) (by kernel_rfl) (by kernel_rfl) (grd_none) (src_op (f := (tup2F (intF (((r0.cut 2).int * (r1.cut 1).int) ^ m)) (eqF (.int .i64 0)))) 5 (by kernel_rfl) (by kernel_rfl) rfl) (fun ρ w hx => h_ext2_0 hx) rfl)
    refine steps_snoc (k := 5) ?_ (s_move (i := 5) hP (g := none) (isOp_of (by kernel_rfl) : IsOp pws_o12 5 none (.move (.tmp 121))) (by kernel_rfl) (by kernel_rfl) (grd_none) (src_op (f := (tup2F (intF (((r0.cut 2).int * (r1.cut 1).int) ^ m)) (eqF (.int .i64 0)))) 4 (by kernel_rfl) (by kernel_rfl) rfl) rfl)
    refine steps_snoc (k := 4) ?_ (s_call2 (i := 4) hP (g := none) (isOp_of (by kernel_rfl) : IsOp pws_o12 4 none (.call { callee := .value (.func 36), args := #[.tmp 119, .tmp 120], argTypes := #[27, 3] })) (by kernel_rfl) (by kernel_rfl) (grd_none) (src_op (f := (intF ((r0.cut 2).int * (r1.cut 1).int))) 2 (by kernel_rfl) (by kernel_rfl) rfl) (src_op (f := (eqF (.int .i64 (m : Int)))) 3 (by kernel_rfl) (by kernel_rfl) rfl) pwspl_quadrature_integer_Pow (fun w v0 v1 hb h0 h1 => kPow h0 h1 ((k0.cutSm 2).mul (k1.cutSm 1)) (by omega) (by omega)) rfl)
    refine steps_snoc (k := 3) ?_ (s_move (i := 3) hP (g := none) (isOp_of (by kernel_rfl) : IsOp pws_o12 3 none (.move (.tmp 12))) (by kernel_rfl) (by kernel_rfl) (grd_none) (src_low hst 6 rfl (by kernel_rfl)) rfl)
    refine steps_snoc (k := 2) ?_ (s_call2 (i := 2) hP (g := none) (isOp_of (by kernel_rfl) : IsOp pws_o12 2 none (.call { callee := .value (.func 24), args := #[.tmp 117, .tmp 118], argTypes := #[27, 27] })) (by kernel_rfl) (by kernel_rfl) (grd_none) (src_op (f := (intF (r0.cut 2).int)) 0 (by kernel_rfl) (by kernel_rfl) rfl) (src_op (f := (intF (r1.cut 1).int)) 1 (by kernel_rfl) (by kernel_rfl) rfl) pwspl_quadrature_quadratureref01_Mul (fun w v0 v1 hb h0 h1 => kRMul h0 h1 (k0.cutSm 2) (k1.cutSm 1) (by first | decide | assumption | omega) (by first | decide | assumption | omega)) rfl)
    refine steps_snoc (k := 1) ?_ (s_load (i := 1) hP (g := none) (isOp_of (by kernel_rfl) : IsOp pws_o12 1 none (.load 27 (.tmp 9))) (by kernel_rfl) (by kernel_rfl) (grd_none) (bsrc_old 4 _ rfl rfl rfl (by kernel_rfl) (by kernel_rfl)) (fun w q h => loadI_int w q h) rfl)
    refine steps_snoc (k := 0) ?_ (s_load (i := 0) hP (g := none) (isOp_of (by kernel_rfl) : IsOp pws_o12 0 none (.load 27 (.tmp 8))) (by kernel_rfl) (by kernel_rfl) (grd_none) (bsrc_old 3 _ rfl rfl rfl (by kernel_rfl) (by kernel_rfl)) (fun w q h => loadI_int w q h) rfl)
    exact steps_nil
  · intro m a w hI hm
    exact ⟨(low_fact hst 0 rfl (by kernel_rfl) hI), (low_fact hst 1 rfl (by kernel_rfl) hI), (low_fact hst 2 rfl (by kernel_rfl) hI), (low_fact hst 3 rfl (by kernel_rfl) hI), (low_fact hst 4 rfl (by kernel_rfl) hI), (low_fact hst 5 rfl (by kernel_rfl) hI), (low_fact hst 6 rfl (by kernel_rfl) hI), (low_fact hst 7 rfl (by kernel_rfl) hI), (low_fact hst 8 rfl (by kernel_rfl) hI), (low_fact hst 9 rfl (by kernel_rfl) hI), (low_fact hst 10 rfl (by kernel_rfl) hI), (low_fact hst 11 rfl (by kernel_rfl) hI), (out_op hI hm 10 23 _ (by kernel_rfl) rfl), (low_fact hst 12 rfl (by kernel_rfl) hI), trivial⟩
set_option maxRecDepth 100000 in
theorem pws_r13 {Q : Exit → Act → World → Prop} {Wb W0 : World} {a0 : Act} {r0 r1 : RawArg} (_hS : Sanity) (_ht : P10 Wb) (k0 : r0.Ok Wb) (_k1 : r1.Ok Wb) {p0 p1 : Int} {n m q : Nat} (_hp : p0 = (n : Int)) (_hn : n ≤ 256) (_hm : p0.tmod 20 = (m : Int)) (_hq : (IntKind.u64.wrap p1).tmod 20 = (q : Int)) (_hm2 : m ≤ 19) (_hq2 : q ≤ 19) (hst : St Wb 171 [(0, (eqF r0.val_)), (1, (eqF r1.val_)), (2, (eqF (.agg #[.int .i64 p0, .int .i64 p1]))), (6, (eqF (.bool false))), (7, (eqF (.bool true))), (11, (eqF (.int .i64 0))), (12, (eqF (.int .i64 (m : Int)))), (13, (eqF (.int .i64 (q : Int)))), (15, (eqF (.int .i64 0))), (17, (eqF (.int .i64 0))), (19, (eqF (.int .i64 0))), (21, (eqF (.int .i64 0))), (23, (eqF (.int .i64 0))), (66, (eqF (.bool false)))] [(3, (rawBF (r0.cut 2))), (4, (rawBF (r1.cut 1))), (5, (arrBF p0 p1)), (8, (boxIF (r0.cut 2).int)), (9, (boxIF (r1.cut 1).int)), (10, (boxIF ((r0.cut 2).int ^ n))), (14, (boxIF ((r0.cut 2).int ^ m))), (16, (boxIF ((r0.cut 2).int ^ q))), (18, (boxIF ((r0.cut 2).int ^ (m + q : Nat)))), (20, (boxIF ((r1.cut 1).int ^ m))), (22, (boxIF (((r0.cut 2).int * (r1.cut 1).int) ^ m)))] a0 W0)
    (fin : ∀ a w, St Wb 171 [(0, (eqF r0.val_)), (1, (eqF r1.val_)), (2, (eqF (.agg #[.int .i64 p0, .int .i64 p1]))), (6, (eqF (.bool false))), (7, (eqF (.bool true))), (11, (eqF (.int .i64 0))), (12, (eqF (.int .i64 (m : Int)))), (13, (eqF (.int .i64 (q : Int)))), (15, (eqF (.int .i64 0))), (17, (eqF (.int .i64 0))), (19, (eqF (.int .i64 0))), (21, (eqF (.int .i64 0))), (23, (eqF (.int .i64 0))), (66, (eqF (.bool false)))] [(3, (rawBF (r0.cut 2))), (4, (rawBF (r1.cut 1))), (5, (arrBF p0 p1)), (8, (boxIF (r0.cut 2).int)), (9, (boxIF (r1.cut 1).int)), (10, (boxIF ((r0.cut 2).int ^ n))), (14, (boxIF ((r0.cut 2).int ^ m))), (16, (boxIF ((r0.cut 2).int ^ q))), (18, (boxIF ((r0.cut 2).int ^ (m + q : Nat)))), (20, (boxIF ((r1.cut 1).int ^ m))), (22, (boxIF (((r0.cut 2).int * (r1.cut 1).int) ^ m))), (24, (boxIF ((r0.cut 2).int ^ m)))] a w → Q .normal a w) : (Code.region 13 pws_o13 false).wp Tryd.prog Q a0 W0 := by
  have hP : Plan pws_o13 171 ([⟨3, none, none, (rawBF (r0.cut 2)), (rawBF (r0.cut 2))⟩, ⟨4, none, none, (rawBF (r1.cut 1)), (rawBF (r1.cut 1))⟩, ⟨5, none, none, (arrBF p0 p1), (arrBF p0 p1)⟩, ⟨8, none, none, (boxIF (r0.cut 2).int), (boxIF (r0.cut 2).int)⟩, ⟨9, none, none, (boxIF (r1.cut 1).int), (boxIF (r1.cut 1).int)⟩, ⟨10, none, none, (boxIF ((r0.cut 2).int ^ n)), (boxIF ((r0.cut 2).int ^ n))⟩, ⟨14, none, none, (boxIF ((r0.cut 2).int ^ m)), (boxIF ((r0.cut 2).int ^ m))⟩, ⟨16, none, none, (boxIF ((r0.cut 2).int ^ q)), (boxIF ((r0.cut 2).int ^ q))⟩, ⟨18, none, none, (boxIF ((r0.cut 2).int ^ (m + q : Nat))), (boxIF ((r0.cut 2).int ^ (m + q : Nat)))⟩, ⟨20, none, none, (boxIF ((r1.cut 1).int ^ m)), (boxIF ((r1.cut 1).int ^ m))⟩, ⟨22, none, none, (boxIF (((r0.cut 2).int * (r1.cut 1).int) ^ m)), (boxIF (((r0.cut 2).int * (r1.cut 1).int) ^ m))⟩, ⟨24, some 6, some 7, zeroIF, (boxIF ((r0.cut 2).int ^ m))⟩] : List BoxS) [] := ⟨by kernel_rfl, by kernel_rfl, by kernel_rfl, by kernel_rfl, by kernel_rfl, by kernel_rfl⟩
  refine region_st (F := [(intF (r0.cut 2).int), (eqF (.int .i64 (m : Int))), (tup2F (intF ((r0.cut 2).int ^ m)) (eqF (.int .i64 0))), (tup2F (intF ((r0.cut 2).int ^ m)) (eqF (.int .i64 0))), (intF ((r0.cut 2).int ^ m)), (eqF (.int .i64 0)), anyF, anyF, (eqF (.int .i64 0))]) hP hst rfl rfl ?_ ?_ fin
  · show Steps pws_o13 171 Wb W0 a0 _ _ _ 9
    refine steps_snoc (k := 8) ?_ (s_assign (i := 8) hP (g := none) (isOp_of (by kernel_rfl) : IsOp pws_o13 8 none (.assign (.tmp 129))) (by kernel_rfl) (by kernel_rfl) (grd_none) (src_op (f := (eqF (.int .i64 0))) 5 (by kernel_rfl) (by kernel_rfl) rfl) rfl)
    refine steps_snoc (k := 7) ?_ (s_store (i := 7) 11 _ (isOp_of (by kernel_rfl) : IsOp pws_o13 7 none (.store 27 (.tmp 24) (.tmp 128))) (by kernel_rfl) rfl rfl rfl (by kernel_rfl) (by kernel_rfl) (by kernel_rfl) (src_op (f := (intF ((r0.cut 2).int ^ m))) 4 (by kernel_rfl) (by kernel_rfl) rfl) (storeI_zero _))
    refine steps_snoc (k := 6) ?_ (s_alloc (i := 6) (d := 24) hP 11 _ (isOp_of (by kernel_rfl) : IsOp pws_o13 6 none (.alloc 27)) (by kernel_rfl) rfl rfl rfl (by kernel_rfl) (by kernel_rfl) (by kernel_rfl) (by kernel_rfl) rfl allocI_run allocI_old)
    refine steps_snoc (k := 5) ?_ (s_op1 (i := 5) hP (g := none) (isOp_of (by kernel_rfl) : IsOp pws_o13 5 none (.extract (.tmp 124) 1)) (by kernel_rfl) (by kernel_rfl) (grd_none) (src_op (f := (tup2F (intF ((r0.cut 2).int ^ m)) (eqF (.int .i64 0)))) 3 (by kernel_rfl) (by kernel_rfl) rfl) (fun ρ w hx => h_ext2_1 hx) rfl)
    refine steps_snoc (k := 4) ?_ (s_op1 (i := 4) hP (g := none) (isOp_of (by kernel_rfl) : IsOp pws_o13 4 none (.extract (.tmp 124) 0)) (by kernel_rfl) (by kernel_rfl) (grd_none) (src_op (f := (tup2F (intF ((r0.cut 2).int ^ m)) (eqF (.int .i64 0)))) 3 (by kernel_rfl) (by kernel_rfl) rfl) (fun ρ w hx => h_ext2_0 hx) rfl)
    refine steps_snoc (k := 3) ?_ (s_move (i := 3) hP (g := none) (isOp_of (by kernel_rfl) : IsOp pws_o13 3 none (.move (.tmp 127))) (by kernel_rfl) (by kernel_rfl) (grd_none) (src_op (f := (tup2F (intF ((r0.cut 2).int ^ m)) (eqF (.int .i64 0)))) 2 (by kernel_rfl) (by kernel_rfl) rfl) rfl)
    refine steps_snoc (k := 2) ?_ (s_call2 (i := 2) hP (g := none) (isOp_of (by kernel_rfl) : IsOp pws_o13 2 none (.call { callee := .value (.func 37), args := #[.tmp 125, .tmp 126], argTypes := #[27, 3] })) (by kernel_rfl) (by kernel_rfl) (grd_none) (src_op (f := (intF (r0.cut 2).int)) 0 (by kernel_rfl) (by kernel_rfl) rfl) (src_op (f := (eqF (.int .i64 (m : Int)))) 1 (by kernel_rfl) (by kernel_rfl) rfl) pwspl_quadrature_quadratureref01_Pow (fun w v0 v1 hb h0 h1 => kRPow h0 h1 (k0.cutSm 2) (by omega) (by omega) (by omega)) rfl)
    refine steps_snoc (k := 1) ?_ (s_move (i := 1) hP (g := none) (isOp_of (by kernel_rfl) : IsOp pws_o13 1 none (.move (.tmp 12))) (by kernel_rfl) (by kernel_rfl) (grd_none) (src_low hst 6 rfl (by kernel_rfl)) rfl)
    refine steps_snoc (k := 0) ?_ (s_load (i := 0) hP (g := none) (isOp_of (by kernel_rfl) : IsOp pws_o13 0 none (.load 27 (.tmp 8))) (by kernel_rfl) (by kernel_rfl) (grd_none) (bsrc_old 3 _ rfl rfl rfl (by kernel_rfl) (by kernel_rfl)) (fun w q h => loadI_int w q h) rfl)
    exact steps_nil
  · intro m a w hI hm
    exact ⟨(low_fact hst 0 rfl (by kernel_rfl) hI), (low_fact hst 1 rfl (by kernel_rfl) hI), (low_fact hst 2 rfl (by kernel_rfl) hI), (low_fact hst 3 rfl (by kernel_rfl) hI), (low_fact hst 4 rfl (by kernel_rfl) hI), (low_fact hst 5 rfl (by kernel_rfl) hI), (low_fact hst 6 rfl (by kernel_rfl) hI), (low_fact hst 7 rfl (by kernel_rfl) hI), (low_fact hst 8 rfl (by kernel_rfl) hI), (low_fact hst 9 rfl (by kernel_rfl) hI), (low_fact hst 10 rfl (by kernel_rfl) hI), (low_fact hst 11 rfl (by kernel_rfl) hI), (low_fact hst 12 rfl (by kernel_rfl) hI), (low_fact hst 13 rfl (by kernel_rfl) hI), trivial⟩
set_option maxRecDepth 100000 in
theorem pws_r14 {Q : Exit → Act → World → Prop} {Wb W0 : World} {a0 : Act} {r0 r1 : RawArg} (_hS : Sanity) (_ht : P10 Wb) (_k0 : r0.Ok Wb) (_k1 : r1.Ok Wb) {p0 p1 : Int} {n m q : Nat} (_hp : p0 = (n : Int)) (_hn : n ≤ 256) (_hm : p0.tmod 20 = (m : Int)) (_hq : (IntKind.u64.wrap p1).tmod 20 = (q : Int)) (_hm2 : m ≤ 19) (_hq2 : q ≤ 19) (hst : St Wb 171 [(0, (eqF r0.val_)), (1, (eqF r1.val_)), (2, (eqF (.agg #[.int .i64 p0, .int .i64 p1]))), (6, (eqF (.bool false))), (7, (eqF (.bool true))), (11, (eqF (.int .i64 0))), (12, (eqF (.int .i64 (m : Int)))), (13, (eqF (.int .i64 (q : Int)))), (15, (eqF (.int .i64 0))), (17, (eqF (.int .i64 0))), (19, (eqF (.int .i64 0))), (21, (eqF (.int .i64 0))), (23, (eqF (.int .i64 0))), (66, (eqF (.bool false)))] [(3, (rawBF (r0.cut 2))), (4, (rawBF (r1.cut 1))), (5, (arrBF p0 p1)), (8, (boxIF (r0.cut 2).int)), (9, (boxIF (r1.cut 1).int)), (10, (boxIF ((r0.cut 2).int ^ n))), (14, (boxIF ((r0.cut 2).int ^ m))), (16, (boxIF ((r0.cut 2).int ^ q))), (18, (boxIF ((r0.cut 2).int ^ (m + q : Nat)))), (20, (boxIF ((r1.cut 1).int ^ m))), (22, (boxIF (((r0.cut 2).int * (r1.cut 1).int) ^ m))), (24, (boxIF ((r0.cut 2).int ^ m)))] a0 W0)
    (fin : ∀ a w, St Wb 171 [(0, (eqF r0.val_)), (1, (eqF r1.val_)), (2, (eqF (.agg #[.int .i64 p0, .int .i64 p1]))), (6, (eqF (.bool false))), (7, (eqF (.bool true))), (11, (eqF (.int .i64 0))), (12, (eqF (.int .i64 (m : Int)))), (13, (eqF (.int .i64 (q : Int)))), (15, (eqF (.int .i64 0))), (17, (eqF (.int .i64 0))), (19, (eqF (.int .i64 0))), (21, (eqF (.int .i64 0))), (23, (eqF (.int .i64 0))), (26, (eqF (.bool true))), (66, (eqF (.bool false)))] [(3, (rawBF (r0.cut 2))), (4, (rawBF (r1.cut 1))), (5, (arrBF p0 p1)), (8, (boxIF (r0.cut 2).int)), (9, (boxIF (r1.cut 1).int)), (10, (boxIF ((r0.cut 2).int ^ n))), (14, (boxIF ((r0.cut 2).int ^ m))), (16, (boxIF ((r0.cut 2).int ^ q))), (18, (boxIF ((r0.cut 2).int ^ (m + q : Nat)))), (20, (boxIF ((r1.cut 1).int ^ m))), (22, (boxIF (((r0.cut 2).int * (r1.cut 1).int) ^ m))), (24, (boxIF ((r0.cut 2).int ^ m)))] a w → Q .normal a w) : (Code.region 14 pws_o14 false).wp Tryd.prog Q a0 W0 := by
  have hP : Plan pws_o14 171 ([⟨3, none, none, (rawBF (r0.cut 2)), (rawBF (r0.cut 2))⟩, ⟨4, none, none, (rawBF (r1.cut 1)), (rawBF (r1.cut 1))⟩, ⟨5, none, none, (arrBF p0 p1), (arrBF p0 p1)⟩, ⟨8, none, none, (boxIF (r0.cut 2).int), (boxIF (r0.cut 2).int)⟩, ⟨9, none, none, (boxIF (r1.cut 1).int), (boxIF (r1.cut 1).int)⟩, ⟨10, none, none, (boxIF ((r0.cut 2).int ^ n)), (boxIF ((r0.cut 2).int ^ n))⟩, ⟨14, none, none, (boxIF ((r0.cut 2).int ^ m)), (boxIF ((r0.cut 2).int ^ m))⟩, ⟨16, none, none, (boxIF ((r0.cut 2).int ^ q)), (boxIF ((r0.cut 2).int ^ q))⟩, ⟨18, none, none, (boxIF ((r0.cut 2).int ^ (m + q : Nat))), (boxIF ((r0.cut 2).int ^ (m + q : Nat)))⟩, ⟨20, none, none, (boxIF ((r1.cut 1).int ^ m)), (boxIF ((r1.cut 1).int ^ m))⟩, ⟨22, none, none, (boxIF (((r0.cut 2).int * (r1.cut 1).int) ^ m)), (boxIF (((r0.cut 2).int * (r1.cut 1).int) ^ m))⟩, ⟨24, none, none, (boxIF ((r0.cut 2).int ^ m)), (boxIF ((r0.cut 2).int ^ m))⟩] : List BoxS) [] := ⟨by kernel_rfl, by kernel_rfl, by kernel_rfl, by kernel_rfl, by kernel_rfl, by kernel_rfl⟩
  refine region_st (F := [(eqF (.int .i64 0)), (eqF (.bool true)), (eqF (.bool true)), (eqF (.int .i64 0)), (eqF (.bool true)), (eqF (.bool true)), (eqF (.bool true)), (eqF (.int .i64 0)), (eqF (.bool true)), (eqF (.bool true)), (eqF (.bool true)), (eqF (.int .i64 0)), (eqF (.bool true)), (eqF (.bool true)), (eqF (.bool true)), (eqF (.int .i64 0)), (eqF (.bool true)), (eqF (.bool true)), (eqF (.bool true))]) hP hst rfl rfl ?_ ?_ fin
  · show Steps pws_o14 171 Wb W0 a0 _ _ _ 19
    refine steps_snoc (k := 18) ?_ (s_assign (i := 18) hP (g := none) (isOp_of (by kernel_rfl) : IsOp pws_o14 18 none (.assign (.tmp 147))) (by kernel_rfl) (by kernel_rfl) (grd_none) (src_op (f := (eqF (.bool true))) 17 (by kernel_rfl) (by kernel_rfl) rfl) rfl)
    refine steps_snoc (k := 17) ?_ (s_pickT (i := 17) hP (g := none) (isOp_of (by kernel_rfl) : IsOp pws_o14 17 none (.pick (.tmp 144) (.tmp 146) (.const (.bool false)))) (by kernel_rfl) (by kernel_rfl) (grd_none) (src_op (f := (eqF (.bool true))) 14 (by kernel_rfl) (by kernel_rfl) rfl) (src_op (f := (eqF (.bool true))) 16 (by kernel_rfl) (by kernel_rfl) rfl) rfl)
    refine steps_snoc (k := 16) ?_ (s_op2 (i := 16) hP (g := (some (14, true))) (isOp_of (by kernel_rfl) : IsOp pws_o14 16 (some (14, true)) (.binOp .eql 42 (.tmp 145) (.const (.int .i64 0)) 42)) (by kernel_rfl) (by kernel_rfl) (grd_op (d := 144) (by kernel_rfl) (by kernel_rfl) rfl rfl) (src_op (f := (eqF (.int .i64 0))) 15 (by kernel_rfl) (by kernel_rfl) rfl) (src_const _) (fun ρ w hx hy => h_eqlI (r := true) (by decide) hx hy) rfl)
    refine steps_snoc (k := 15) ?_ (s_move (i := 15) hP (g := (some (14, true))) (isOp_of (by kernel_rfl) : IsOp pws_o14 15 (some (14, true)) (.move (.tmp 23))) (by kernel_rfl) (by kernel_rfl) (grd_op (d := 144) (by kernel_rfl) (by kernel_rfl) rfl rfl) (src_low hst 12 rfl (by kernel_rfl)) rfl)
    refine steps_snoc (k := 14) ?_ (s_move (i := 14) hP (g := none) (isOp_of (by kernel_rfl) : IsOp pws_o14 14 none (.move (.tmp 143))) (by kernel_rfl) (by kernel_rfl) (grd_none) (src_op (f := (eqF (.bool true))) 13 (by kernel_rfl) (by kernel_rfl) rfl) rfl)
    refine steps_snoc (k := 13) ?_ (s_pickT (i := 13) hP (g := none) (isOp_of (by kernel_rfl) : IsOp pws_o14 13 none (.pick (.tmp 140) (.tmp 142) (.const (.bool false)))) (by kernel_rfl) (by kernel_rfl) (grd_none) (src_op (f := (eqF (.bool true))) 10 (by kernel_rfl) (by kernel_rfl) rfl) (src_op (f := (eqF (.bool true))) 12 (by kernel_rfl) (by kernel_rfl) rfl) rfl)
    refine steps_snoc (k := 12) ?_ (s_op2 (i := 12) hP (g := (some (10, true))) (isOp_of (by kernel_rfl) : IsOp pws_o14 12 (some (10, true)) (.binOp .eql 42 (.tmp 141) (.const (.int .i64 0)) 42)) (by kernel_rfl) (by kernel_rfl) (grd_op (d := 140) (by kernel_rfl) (by kernel_rfl) rfl rfl) (src_op (f := (eqF (.int .i64 0))) 11 (by kernel_rfl) (by kernel_rfl) rfl) (src_const _) (fun ρ w hx hy => h_eqlI (r := true) (by decide) hx hy) rfl)
    refine steps_snoc (k := 11) ?_ (s_move (i := 11) hP (g := (some (10, true))) (isOp_of (by kernel_rfl) : IsOp pws_o14 11 (some (10, true)) (.move (.tmp 21))) (by kernel_rfl) (by kernel_rfl) (grd_op (d := 140) (by kernel_rfl) (by kernel_rfl) rfl rfl) (src_low hst 11 rfl (by kernel_rfl)) rfl)
    refine steps_snoc (k := 10) ?_ (s_move (i := 10) hP (g := none) (isOp_of (by kernel_rfl) : IsOp pws_o14 10 none (.move (.tmp 139))) (by kernel_rfl) (by kernel_rfl) (grd_none) (src_op (f := (eqF (.bool true))) 9 (by kernel_rfl) (by kernel_rfl) rfl) rfl)
    refine steps_snoc (k := 9) ?_ (s_pickT (i := 9) hP (g := none) (isOp_of (by kernel_rfl) : IsOp pws_o14 9 none (.pick (.tmp 136) (.tmp 138) (.const (.bool false)))) (by kernel_rfl) (by kernel_rfl) (grd_none) (src_op (f := (eqF (.bool true))) 6 (by kernel_rfl) (by kernel_rfl) rfl) (src_op (f := (eqF (.bool true))) 8 (by kernel_rfl) (by kernel_rfl) rfl) rfl)
    refine steps_snoc (k := 8) ?_ (s_op2 (i := 8) hP (g := (some (6, true))) (isOp_of (by kernel_rfl) : IsOp pws_o14 8 (some (6, true)) (.binOp .eql 42 (.tmp 137) (.const (.int .i64 0)) 42)) (by kernel_rfl) (by kernel_rfl) (grd_op (d := 136) (by kernel_rfl) (by kernel_rfl) rfl rfl) (src_op (f := (eqF (.int .i64 0))) 7 (by kernel_rfl) (by kernel_rfl) rfl) (src_const _) (fun ρ w hx hy => h_eqlI (r := true) (by decide) hx hy) rfl)
    refine steps_snoc (k := 7) ?_ (s_move (i := 7) hP (g := (some (6, true))) (isOp_of (by kernel_rfl) : IsOp pws_o14 7 (some (6, true)) (.move (.tmp 19))) (by kernel_rfl) (by kernel_rfl) (grd_op (d := 136) (by kernel_rfl) (by kernel_rfl) rfl rfl) (src_low hst 10 rfl (by kernel_rfl)) rfl)
    refine steps_snoc (k := 6) ?_ (s_move (i := 6) hP (g := none) (isOp_of (by kernel_rfl) : IsOp pws_o14 6 none (.move (.tmp 135))) (by kernel_rfl) (by kernel_rfl) (grd_none) (src_op (f := (eqF (.bool true))) 5 (by kernel_rfl) (by kernel_rfl) rfl) rfl)
    refine steps_snoc (k := 5) ?_ (s_pickT (i := 5) hP (g := none) (isOp_of (by kernel_rfl) : IsOp pws_o14 5 none (.pick (.tmp 132) (.tmp 134) (.const (.bool false)))) (by kernel_rfl) (by kernel_rfl) (grd_none) (src_op (f := (eqF (.bool true))) 2 (by kernel_rfl) (by kernel_rfl) rfl) (src_op (f := (eqF (.bool true))) 4 (by kernel_rfl) (by kernel_rfl) rfl) rfl)
    refine steps_snoc (k := 4) ?_ (s_op2 (i := 4) hP (g := (some (2, true))) (isOp_of (by kernel_rfl) : IsOp pws_o14 4 (some (2, true)) (.binOp .eql 42 (.tmp 133) (.const (.int .i64 0)) 42)) (by kernel_rfl) (by kernel_rfl) (grd_op (d := 132) (by kernel_rfl) (by kernel_rfl) rfl rfl) (src_op (f := (eqF (.int .i64 0))) 3 (by kernel_rfl) (by kernel_rfl) rfl) (src_const _) (fun ρ w hx hy => h_eqlI (r := true) (by decide) hx hy) rfl)
    refine steps_snoc (k := 3) ?_ (s_move (i := 3) hP (g := (some (2, true))) (isOp_of (by kernel_rfl) : IsOp pws_o14 3 (some (2, true)) (.move (.tmp 17))) (by kernel_rfl) (by kernel_rfl) (grd_op (d := 132) (by kernel_rfl) (by kernel_rfl) rfl rfl) (src_low hst 9 rfl (by kernel_rfl)) rfl)
    refine steps_snoc (k := 2) ?_ (s_move (i := 2) hP (g := none) (isOp_of (by kernel_rfl) : IsOp pws_o14 2 none (.move (.tmp 131))) (by kernel_rfl) (by kernel_rfl) (grd_none) (src_op (f := (eqF (.bool true))) 1 (by kernel_rfl) (by kernel_rfl) rfl) rfl)
    refine steps_snoc (k := 1) ?_ (s_op2 (i := 1) hP (g := none) (isOp_of (by kernel_rfl) : IsOp pws_o14 1 none (.binOp .eql 42 (.tmp 130) (.const (.int .i64 0)) 42)) (by kernel_rfl) (by kernel_rfl) (grd_none) (src_op (f := (eqF (.int .i64 0))) 0 (by kernel_rfl) (by kernel_rfl) rfl) (src_const _) (fun ρ w hx hy => h_eqlI (r := true) (by decide) hx hy) rfl)
    refine steps_snoc (k := 0) ?_ (s_move (i := 0) hP (g := none) (isOp_of (by kernel_rfl) : IsOp pws_o14 0 none (.move (.tmp 15))) (by kernel_rfl) (by kernel_rfl) (grd_none) (src_low hst 8 rfl (by kernel_rfl)) rfl)
    exact steps_nil
  · intro m a w hI hm
    exact ⟨(low_fact hst 0 rfl (by kernel_rfl) hI), (low_fact hst 1 rfl (by kernel_rfl) hI), (low_fact hst 2 rfl (by kernel_rfl) hI), (low_fact hst 3 rfl (by kernel_rfl) hI), (low_fact hst 4 rfl (by kernel_rfl) hI), (low_fact hst 5 rfl (by kernel_rfl) hI), (low_fact hst 6 rfl (by kernel_rfl) hI), (low_fact hst 7 rfl (by kernel_rfl) hI), (low_fact hst 8 rfl (by kernel_rfl) hI), (low_fact hst 9 rfl (by kernel_rfl) hI), (low_fact hst 10 rfl (by kernel_rfl) hI), (low_fact hst 11 rfl (by kernel_rfl) hI), (low_fact hst 12 rfl (by kernel_rfl) hI), (out_op hI hm 18 26 _ (by kernel_rfl) rfl), (low_fact hst 13 rfl (by kernel_rfl) hI), trivial⟩
set_option maxRecDepth 100000 in
theorem pws_r15 {Q : Exit → Act → World → Prop} {Wb W0 : World} {a0 : Act} {r0 r1 : RawArg} (_hS : Sanity) (_ht : P10 Wb) (k0 : r0.Ok Wb) (k1 : r1.Ok Wb) {p0 p1 : Int} {n m q : Nat} (_hp : p0 = (n : Int)) (_hn : n ≤ 256) (_hm : p0.tmod 20 = (m : Int)) (_hq : (IntKind.u64.wrap p1).tmod 20 = (q : Int)) (_hm2 : m ≤ 19) (_hq2 : q ≤ 19) (hst : St Wb 171 [(0, (eqF r0.val_)), (1, (eqF r1.val_)), (2, (eqF (.agg #[.int .i64 p0, .int .i64 p1]))), (6, (eqF (.bool false))), (7, (eqF (.bool true))), (11, (eqF (.int .i64 0))), (12, (eqF (.int .i64 (m : Int)))), (13, (eqF (.int .i64 (q : Int)))), (15, (eqF (.int .i64 0))), (17, (eqF (.int .i64 0))), (19, (eqF (.int .i64 0))), (21, (eqF (.int .i64 0))), (23, (eqF (.int .i64 0))), (26, (eqF (.bool true))), (66, (eqF (.bool false)))] [(3, (rawBF (r0.cut 2))), (4, (rawBF (r1.cut 1))), (5, (arrBF p0 p1)), (8, (boxIF (r0.cut 2).int)), (9, (boxIF (r1.cut 1).int)), (10, (boxIF ((r0.cut 2).int ^ n))), (14, (boxIF ((r0.cut 2).int ^ m))), (16, (boxIF ((r0.cut 2).int ^ q))), (18, (boxIF ((r0.cut 2).int ^ (m + q : Nat)))), (20, (boxIF ((r1.cut 1).int ^ m))), (22, (boxIF (((r0.cut 2).int * (r1.cut 1).int) ^ m))), (24, (boxIF ((r0.cut 2).int ^ m)))] a0 W0)
    (fin : ∀ a w, St Wb 171 [(0, (eqF r0.val_)), (1, (eqF r1.val_)), (2, (eqF (.agg #[.int .i64 p0, .int .i64 p1]))), (6, (eqF (.bool true))), (7, (eqF (.bool true))), (11, (eqF (.int .i64 0))), (12, (eqF (.int .i64 (m : Int)))), (13, (eqF (.int .i64 (q : Int)))), (15, (eqF (.int .i64 0))), (17, (eqF (.int .i64 0))), (19, (eqF (.int .i64 0))), (21, (eqF (.int .i64 0))), (23, (eqF (.int .i64 0))), (26, (eqF (.bool true))), (66, (eqF (.bool false)))] [(3, (rawBF (r0.cut 2))), (4, (rawBF (r1.cut 1))), (5, (arrBF p0 p1)), (8, (boxIF (r0.cut 2).int)), (9, (boxIF (r1.cut 1).int)), (10, (boxIF ((r0.cut 2).int ^ n))), (14, (boxIF ((r0.cut 2).int ^ m))), (16, (boxIF ((r0.cut 2).int ^ q))), (18, (boxIF ((r0.cut 2).int ^ (m + q : Nat)))), (20, (boxIF ((r1.cut 1).int ^ m))), (22, (boxIF (((r0.cut 2).int * (r1.cut 1).int) ^ m))), (24, (boxIF ((r0.cut 2).int ^ m)))] a w → Q .normal a w) : (Code.region 15 pws_o15 true).wp Tryd.prog Q a0 W0 := by
  have hP : Plan pws_o15 171 ([⟨3, none, none, (rawBF (r0.cut 2)), (rawBF (r0.cut 2))⟩, ⟨4, none, none, (rawBF (r1.cut 1)), (rawBF (r1.cut 1))⟩, ⟨5, none, none, (arrBF p0 p1), (arrBF p0 p1)⟩, ⟨8, none, none, (boxIF (r0.cut 2).int), (boxIF (r0.cut 2).int)⟩, ⟨9, none, none, (boxIF (r1.cut 1).int), (boxIF (r1.cut 1).int)⟩, ⟨10, none, none, (boxIF ((r0.cut 2).int ^ n)), (boxIF ((r0.cut 2).int ^ n))⟩, ⟨14, none, none, (boxIF ((r0.cut 2).int ^ m)), (boxIF ((r0.cut 2).int ^ m))⟩, ⟨16, none, none, (boxIF ((r0.cut 2).int ^ q)), (boxIF ((r0.cut 2).int ^ q))⟩, ⟨18, none, none, (boxIF ((r0.cut 2).int ^ (m + q : Nat))), (boxIF ((r0.cut 2).int ^ (m + q : Nat)))⟩, ⟨20, none, none, (boxIF ((r1.cut 1).int ^ m)), (boxIF ((r1.cut 1).int ^ m))⟩, ⟨22, none, none, (boxIF (((r0.cut 2).int * (r1.cut 1).int) ^ m)), (boxIF (((r0.cut 2).int * (r1.cut 1).int) ^ m))⟩, ⟨24, none, none, (boxIF ((r0.cut 2).int ^ m)), (boxIF ((r0.cut 2).int ^ m))⟩] : List BoxS) [] := ⟨by kernel_rfl, by kernel_rfl, by kernel_rfl, by kernel_rfl, by kernel_rfl, by kernel_rfl⟩
  refine region_st (F := [(eqF (.bool true)), (eqF (.bool true)), (intF ((r0.cut 2).int ^ m)), (intF ((r0.cut 2).int ^ m)), (eqF (.bool true)), (eqF (.bool true)), (eqF (.bool true)), (intF ((r0.cut 2).int ^ m)), (intF ((r0.cut 2).int ^ q)), (intF (((r0.cut 2).int ^ m) * ((r0.cut 2).int ^ q))), (intF ((r0.cut 2).int ^ (m + q : Nat))), (eqF (.bool true)), (eqF (.bool true)), (eqF (.bool true)), (intF ((r0.cut 2).int ^ m)), (intF ((r1.cut 1).int ^ m)), (intF (((r0.cut 2).int ^ m) * ((r1.cut 1).int ^ m))), (intF (((r0.cut 2).int * (r1.cut 1).int) ^ m)), (eqF (.bool true)), (eqF (.bool true)), (eqF (.bool true)), (eqF (.bool true)), (eqF (.bool true)), (eqF (.bool true))]) hP hst rfl rfl ?_ ?_ fin
  · show Steps pws_o15 171 Wb W0 a0 _ _ _ 24
    refine steps_snoc (k := 23) ?_ (s_assign (i := 23) hP (g := none) (isOp_of (by kernel_rfl) : IsOp pws_o15 23 none (.assign (.tmp 170))) (by kernel_rfl) (by kernel_rfl) (grd_none) (src_op (f := (eqF (.bool true))) 22 (by kernel_rfl) (by kernel_rfl) rfl) rfl)
    refine steps_snoc (k := 22) ?_ (s_pickT (i := 22) hP (g := none) (isOp_of (by kernel_rfl) : IsOp pws_o15 22 none (.pick (.tmp 168) (.tmp 169) (.const (.bool false)))) (by kernel_rfl) (by kernel_rfl) (grd_none) (src_op (f := (eqF (.bool true))) 20 (by kernel_rfl) (by kernel_rfl) rfl) (src_op (f := (eqF (.bool true))) 21 (by kernel_rfl) (by kernel_rfl) rfl) rfl)
    refine steps_snoc (k := 21) ?_ (s_move (i := 21) hP (g := (some (20, true))) (isOp_of (by kernel_rfl) : IsOp pws_o15 21 (some (20, true)) (.move (.tmp 7))) (by kernel_rfl) (by kernel_rfl) (grd_op (d := 168) (by kernel_rfl) (by kernel_rfl) rfl rfl) (src_low hst 4 rfl (by kernel_rfl)) rfl)
    refine steps_snoc (k := 20) ?_ (s_move (i := 20) hP (g := none) (isOp_of (by kernel_rfl) : IsOp pws_o15 20 none (.move (.tmp 167))) (by kernel_rfl) (by kernel_rfl) (grd_none) (src_op (f := (eqF (.bool true))) 19 (by kernel_rfl) (by kernel_rfl) rfl) rfl)
    refine steps_snoc (k := 19) ?_ (s_pickT (i := 19) hP (g := none) (isOp_of (by kernel_rfl) : IsOp pws_o15 19 none (.pick (.tmp 161) (.tmp 166) (.const (.bool false)))) (by kernel_rfl) (by kernel_rfl) (grd_none) (src_op (f := (eqF (.bool true))) 13 (by kernel_rfl) (by kernel_rfl) rfl) (src_op (f := (eqF (.bool true))) 18 (by kernel_rfl) (by kernel_rfl) rfl) rfl)
    refine steps_snoc (k := 18) ?_ (s_call2 (i := 18) hP (g := (some (13, true))) (isOp_of (by kernel_rfl) : IsOp pws_o15 18 (some (13, true)) (.call { callee := .value (.func 21), args := #[.tmp 164, .tmp 165], argTypes := #[27, 27] })) (by kernel_rfl) (by kernel_rfl) (grd_op (d := 161) (by kernel_rfl) (by kernel_rfl) rfl rfl) (src_op (f := (intF (((r0.cut 2).int ^ m) * ((r1.cut 1).int ^ m)))) 16 (by kernel_rfl) (by kernel_rfl) rfl) (src_op (f := (intF (((r0.cut 2).int * (r1.cut 1).int) ^ m))) 17 (by kernel_rfl) (by kernel_rfl) rfl) pwspl_quadrature_quadratureref01_Same (fun w v0 v1 hb h0 h1 => kSameT h0 h1 (((k0.cutSm 2).pow m).mul ((k1.cutSm 1).pow m)) (((k0.cutSm 2).mul (k1.cutSm 1)).pow m) (by first | decide | assumption | omega) (by first | decide | assumption | omega) Int.mul_pow.symm) rfl)
    refine steps_snoc (k := 17) ?_ (s_load (i := 17) hP (g := (some (13, true))) (isOp_of (by kernel_rfl) : IsOp pws_o15 17 (some (13, true)) (.load 27 (.tmp 22))) (by kernel_rfl) (by kernel_rfl) (grd_op (d := 161) (by kernel_rfl) (by kernel_rfl) rfl rfl) (bsrc_old 10 _ rfl rfl rfl (by kernel_rfl) (by kernel_rfl)) (fun w q h => loadI_int w q h) rfl)
    refine steps_snoc (k := 16) ?_ (s_call2 (i := 16) hP (g := (some (13, true))) (isOp_of (by kernel_rfl) : IsOp pws_o15 16 (some (13, true)) (.call { callee := .value (.func 24), args := #[.tmp 162, .tmp 163], argTypes := #[27, 27] })) (by kernel_rfl) (by kernel_rfl) (grd_op (d := 161) (by kernel_rfl) (by kernel_rfl) rfl rfl) (src_op (f := (intF ((r0.cut 2).int ^ m))) 14 (by kernel_rfl) (by kernel_rfl) rfl) (src_op (f := (intF ((r1.cut 1).int ^ m))) 15 (by kernel_rfl) (by kernel_rfl) rfl) pwspl_quadrature_quadratureref01_Mul (fun w v0 v1 hb h0 h1 => kRMul h0 h1 ((k0.cutSm 2).pow m) ((k1.cutSm 1).pow m) (by first | decide | assumption | omega) (by first | decide | assumption | omega)) rfl)
    refine steps_snoc (k := 15) ?_ (s_load (i := 15) hP (g := (some (13, true))) (isOp_of (by kernel_rfl) : IsOp pws_o15 15 (some (13, true)) (.load 27 (.tmp 20))) (by kernel_rfl) (by kernel_rfl) (grd_op (d := 161) (by kernel_rfl) (by kernel_rfl) rfl rfl) (bsrc_old 9 _ rfl rfl rfl (by kernel_rfl) (by kernel_rfl)) (fun w q h => loadI_int w q h) rfl)
    refine steps_snoc (k := 14) ?_ (s_load (i := 14) hP (g := (some (13, true))) (isOp_of (by kernel_rfl) : IsOp pws_o15 14 (some (13, true)) (.load 27 (.tmp 14))) (by kernel_rfl) (by kernel_rfl) (grd_op (d := 161) (by kernel_rfl) (by kernel_rfl) rfl rfl) (bsrc_old 6 _ rfl rfl rfl (by kernel_rfl) (by kernel_rfl)) (fun w q h => loadI_int w q h) rfl)
    refine steps_snoc (k := 13) ?_ (s_move (i := 13) hP (g := none) (isOp_of (by kernel_rfl) : IsOp pws_o15 13 none (.move (.tmp 160))) (by kernel_rfl) (by kernel_rfl) (grd_none) (src_op (f := (eqF (.bool true))) 12 (by kernel_rfl) (by kernel_rfl) rfl) rfl)
    refine steps_snoc (k := 12) ?_ (s_pickT (i := 12) hP (g := none) (isOp_of (by kernel_rfl) : IsOp pws_o15 12 none (.pick (.tmp 154) (.tmp 159) (.const (.bool false)))) (by kernel_rfl) (by kernel_rfl) (grd_none) (src_op (f := (eqF (.bool true))) 6 (by kernel_rfl) (by kernel_rfl) rfl) (src_op (f := (eqF (.bool true))) 11 (by kernel_rfl) (by kernel_rfl) rfl) rfl)
    refine steps_snoc (k := 11) ?_ (s_call2 (i := 11) hP (g := (some (6, true))) (isOp_of (by kernel_rfl) : IsOp pws_o15 11 (some (6, true)) (.call { callee := .value (.func 21), args := #[.tmp 157, .tmp 158], argTypes := #[27, 27] })) (by kernel_rfl) (by kernel_rfl) (grd_op (d := 154) (by kernel_rfl) (by kernel_rfl) rfl rfl) (src_op (f := (intF (((r0.cut 2).int ^ m) * ((r0.cut 2).int ^ q)))) 9 (by kernel_rfl) (by kernel_rfl) rfl) (src_op (f := (intF ((r0.cut 2).int ^ (m + q : Nat)))) 10 (by kernel_rfl) (by kernel_rfl) rfl) pwspl_quadrature_quadratureref01_Same (fun w v0 v1 hb h0 h1 => kSameT h0 h1 (((k0.cutSm 2).pow m).mul ((k0.cutSm 2).pow q)) ((k0.cutSm 2).pow (m + q : Nat)) (by first | decide | assumption | omega) (by first | decide | assumption | omega) (Int.pow_add _ _ _).symm) rfl)
    refine steps_snoc (k := 10) ?_ (s_load (i := 10) hP (g := (some (6, true))) (isOp_of (by kernel_rfl) : IsOp pws_o15 10 (some (6, true)) (.load 27 (.tmp 18))) (by kernel_rfl) (by kernel_rfl) (grd_op (d := 154) (by kernel_rfl) (by kernel_rfl) rfl rfl) (bsrc_old 8 _ rfl rfl rfl (by kernel_rfl) (by kernel_rfl)) (fun w q h => loadI_int w q h) rfl)
    refine steps_snoc (k := 9) ?_ (s_call2 (i := 9) hP (g := (some (6, true))) (isOp_of (by kernel_rfl) : IsOp pws_o15 9 (some (6, true)) (.call { callee := .value (.func 24), args := #[.tmp 155, .tmp 156], argTypes := #[27, 27] })) (by kernel_rfl) (by kernel_rfl) (grd_op (d := 154) (by kernel_rfl) (by kernel_rfl) rfl rfl) (src_op (f := (intF ((r0.cut 2).int ^ m))) 7 (by kernel_rfl) (by kernel_rfl) rfl) (src_op (f := (intF ((r0.cut 2).int ^ q))) 8 (by kernel_rfl) (by kernel_rfl) rfl) pwspl_quadrature_quadratureref01_Mul (fun w v0 v1 hb h0 h1 => kRMul h0 h1 ((k0.cutSm 2).pow m) ((k0.cutSm 2).pow q) (by first | decide | assumption | omega) (by first | decide | assumption | omega)) rfl)
    refine steps_snoc (k := 8) ?_ (s_load (i := 8) hP (g := (some (6, true))) (isOp_of (by kernel_rfl) : IsOp pws_o15 8 (some (6, true)) (.load 27 (.tmp 16))) (by kernel_rfl) (by kernel_rfl) (grd_op (d := 154) (by kernel_rfl) (by kernel_rfl) rfl rfl) (bsrc_old 7 _ rfl rfl rfl (by kernel_rfl) (by kernel_rfl)) (fun w q h => loadI_int w q h) rfl)
    refine steps_snoc (k := 7) ?_ (s_load (i := 7) hP (g := (some (6, true))) (isOp_of (by kernel_rfl) : IsOp pws_o15 7 (some (6, true)) (.load 27 (.tmp 14))) (by kernel_rfl) (by kernel_rfl) (grd_op (d := 154) (by kernel_rfl) (by kernel_rfl) rfl rfl) (bsrc_old 6 _ rfl rfl rfl (by kernel_rfl) (by kernel_rfl)) (fun w q h => loadI_int w q h) rfl)
    refine steps_snoc (k := 6) ?_ (s_move (i := 6) hP (g := none) (isOp_of (by kernel_rfl) : IsOp pws_o15 6 none (.move (.tmp 153))) (by kernel_rfl) (by kernel_rfl) (grd_none) (src_op (f := (eqF (.bool true))) 5 (by kernel_rfl) (by kernel_rfl) rfl) rfl)
    refine steps_snoc (k := 5) ?_ (s_pickT (i := 5) hP (g := none) (isOp_of (by kernel_rfl) : IsOp pws_o15 5 none (.pick (.tmp 149) (.tmp 152) (.const (.bool false)))) (by kernel_rfl) (by kernel_rfl) (grd_none) (src_op (f := (eqF (.bool true))) 1 (by kernel_rfl) (by kernel_rfl) rfl) (src_op (f := (eqF (.bool true))) 4 (by kernel_rfl) (by kernel_rfl) rfl) rfl)
    refine steps_snoc (k := 4) ?_ (s_call2 (i := 4) hP (g := (some (1, true))) (isOp_of (by kernel_rfl) : IsOp pws_o15 4 (some (1, true)) (.call { callee := .value (.func 21), args := #[.tmp 150, .tmp 151], argTypes := #[27, 27] })) (by kernel_rfl) (by kernel_rfl) (grd_op (d := 149) (by kernel_rfl) (by kernel_rfl) rfl rfl) (src_op (f := (intF ((r0.cut 2).int ^ m))) 2 (by kernel_rfl) (by kernel_rfl) rfl) (src_op (f := (intF ((r0.cut 2).int ^ m))) 3 (by kernel_rfl) (by kernel_rfl) rfl) pwspl_quadrature_quadratureref01_Same (fun w v0 v1 hb h0 h1 => kSameT h0 h1 ((k0.cutSm 2).pow m) ((k0.cutSm 2).pow m) (by first | decide | assumption | omega) (by first | decide | assumption | omega) rfl) rfl)
    refine steps_snoc (k := 3) ?_ (s_load (i := 3) hP (g := (some (1, true))) (isOp_of (by kernel_rfl) : IsOp pws_o15 3 (some (1, true)) (.load 27 (.tmp 24))) (by kernel_rfl) (by kernel_rfl) (grd_op (d := 149) (by kernel_rfl) (by kernel_rfl) rfl rfl) (bsrc_old 11 _ rfl rfl rfl (by kernel_rfl) (by kernel_rfl)) (fun w q h => loadI_int w q h) rfl)
    refine steps_snoc (k := 2) ?_ (s_load (i := 2) hP (g := (some (1, true))) (isOp_of (by kernel_rfl) : IsOp pws_o15 2 (some (1, true)) (.load 27 (.tmp 14))) (by kernel_rfl) (by kernel_rfl) (grd_op (d := 149) (by kernel_rfl) (by kernel_rfl) rfl rfl) (bsrc_old 6 _ rfl rfl rfl (by kernel_rfl) (by kernel_rfl)) (fun w q h => loadI_int w q h) rfl)
    refine steps_snoc (k := 1) ?_ (s_move (i := 1) hP (g := none) (isOp_of (by kernel_rfl) : IsOp pws_o15 1 none (.move (.tmp 148))) (by kernel_rfl) (by kernel_rfl) (grd_none) (src_op (f := (eqF (.bool true))) 0 (by kernel_rfl) (by kernel_rfl) rfl) rfl)
    refine steps_snoc (k := 0) ?_ (s_move (i := 0) hP (g := none) (isOp_of (by kernel_rfl) : IsOp pws_o15 0 none (.move (.tmp 26))) (by kernel_rfl) (by kernel_rfl) (grd_none) (src_low hst 13 rfl (by kernel_rfl)) rfl)
    exact steps_nil
  · intro m a w hI hm
    exact ⟨(low_fact hst 0 rfl (by kernel_rfl) hI), (low_fact hst 1 rfl (by kernel_rfl) hI), (low_fact hst 2 rfl (by kernel_rfl) hI), (out_op hI hm 23 6 _ (by kernel_rfl) rfl), (low_fact hst 4 rfl (by kernel_rfl) hI), (low_fact hst 5 rfl (by kernel_rfl) hI), (low_fact hst 6 rfl (by kernel_rfl) hI), (low_fact hst 7 rfl (by kernel_rfl) hI), (low_fact hst 8 rfl (by kernel_rfl) hI), (low_fact hst 9 rfl (by kernel_rfl) hI), (low_fact hst 10 rfl (by kernel_rfl) hI), (low_fact hst 11 rfl (by kernel_rfl) hI), (low_fact hst 12 rfl (by kernel_rfl) hI), (low_fact hst 13 rfl (by kernel_rfl) hI), (low_fact hst 14 rfl (by kernel_rfl) hI), trivial⟩
set_option maxRecDepth 100000 in
theorem Powers_law (hS : Sanity) (r0 r1 : RawArg) (p0 p1 : Int) (W : World) (k0 : r0.Ok W) (k1 : r1.Ok W) (ht : P10 W) (hl0 : -9223372036854775808 ≤ p0) (hl1 : p0 ≤ 9223372036854775807) :
    Calls Tryd.prog 9 #[r0.val_, r1.val_, .agg #[.int .i64 p0, .int .i64 p1]] W (GivesP (eqF (.bool true)) W) := by
  refine calls_stW (S := [(0, (eqF r0.val_)), (1, (eqF r1.val_)), (2, (eqF (.agg #[.int .i64 p0, .int .i64 p1])))]) Tryd.func9 (by kernel_rfl) Tryd.ntmps9 (by simp) (fun x hx => ?_) fun a w hst => ?_
  · simp only [List.mem_cons, List.not_mem_nil, or_false] at hx
    rcases hx with rfl | rfl | rfl
    · exact ⟨_, rfl, rfl⟩
    · exact ⟨_, rfl, rfl⟩
    · exact ⟨_, rfl, rfl⟩
  show Code.wp _ pws_n0 _ a w
  rcases (show p0 < 0 ∨ 256 < p0 ∨ (0 ≤ p0 ∧ p0 ≤ 256) by omega) with hn | hn | hn
  · have hl := hl0
    rw [pws_e0]
    refine wp_seq ?_
    rw [pws_e1]
    refine pws_r0 hS ht k0 k1 hn hl hst ?_
    clear hst
    intro a w hst
    show Code.wp _ pws_n2 _ a w
    rw [pws_e2]
    refine wp_seq ?_
    rw [pws_e3]
    refine pws_r1 hS ht k0 k1 hn hl hst ?_
    clear hst
    intro a w hst
    show Code.wp _ pws_n4 _ a w
    rw [pws_e4]
    refine wp_seq ?_
    rw [pws_e5]
    refine pws_r2 hS ht k0 k1 hn hl hst ?_
    clear hst
    intro a w hst
    show Code.wp _ pws_n6 _ a w
    rw [pws_e6]
    refine wp_seq ?_
    rw [pws_e7]
    refine pws_r3 hS ht k0 k1 hn hl hst ?_
    clear hst
    intro a w hst
    show Code.wp _ pws_n8 _ a w
    rw [pws_e8]
    refine wp_seq ?_
    rw [pws_e9]
    refine pws_r4 hS ht k0 k1 hn hl hst ?_
    clear hst
    intro a w hst
    show Code.wp _ pws_n10 _ a w
    rw [pws_e10]
    refine wp_seq ?_
    rw [pws_e11]
    refine wp_seq ?_
    rw [pws_e13]
    refine pws_r5 hS ht k0 k1 hn hl hst ?_
    clear hst
    intro a w hst
    show Code.wp _ pws_n14 _ a w
    rw [pws_e14]
    refine wp_cond_true (st_bool hst 6 rfl) ?_
    show Code.wp _ pws_n15 _ a w
    rw [pws_e15]
    refine wp_seq ?_
    rw [pws_e17]
    refine pws_r6 hS ht k0 k1 hn hl hst ?_
    clear hst
    intro a w hst
    show Code.wp _ pws_n18 _ a w
    rw [pws_e18]
    refine wp_ret ?_
    exact ret_tmp hst rfl 3 rfl
  · have hl := hl1
    rw [pws_e0]
    refine wp_seq ?_
    rw [pws_e1]
    refine pws_r0b hS ht k0 k1 hn hl hst ?_
    clear hst
    intro a w hst
    show Code.wp _ pws_n2 _ a w
    rw [pws_e2]
    refine wp_seq ?_
    rw [pws_e3]
    refine pws_r1b hS ht k0 k1 hn hl hst ?_
    clear hst
    intro a w hst
    show Code.wp _ pws_n4 _ a w
    rw [pws_e4]
    refine wp_seq ?_
    rw [pws_e5]
    refine pws_r2b hS ht k0 k1 hn hl hst ?_
    clear hst
    intro a w hst
    show Code.wp _ pws_n6 _ a w
    rw [pws_e6]
    refine wp_seq ?_
    rw [pws_e7]
    refine pws_r3b hS ht k0 k1 hn hl hst ?_
    clear hst
    intro a w hst
    show Code.wp _ pws_n8 _ a w
    rw [pws_e8]
    refine wp_seq ?_
    rw [pws_e9]
    refine pws_r4b hS ht k0 k1 hn hl hst ?_
    clear hst
    intro a w hst
    show Code.wp _ pws_n10 _ a w
    rw [pws_e10]
    refine wp_seq ?_
    rw [pws_e11]
    refine wp_seq ?_
    rw [pws_e13]
    refine pws_r5b hS ht k0 k1 hn hl hst ?_
    clear hst
    intro a w hst
    show Code.wp _ pws_n14 _ a w
    rw [pws_e14]
    refine wp_cond_true (st_bool hst 6 rfl) ?_
    show Code.wp _ pws_n15 _ a w
    rw [pws_e15]
    refine wp_seq ?_
    rw [pws_e17]
    refine pws_r6b hS ht k0 k1 hn hl hst ?_
    clear hst
    intro a w hst
    show Code.wp _ pws_n18 _ a w
    rw [pws_e18]
    refine wp_ret ?_
    exact ret_tmp hst rfl 3 rfl
  · obtain ⟨n, hp⟩ := Int.eq_ofNat_of_zero_le hn.1
    replace hn : n ≤ 256 := by omega
    obtain ⟨m, hm, hm2⟩ := mod_of p0 (by omega)
    obtain ⟨q, hq, hq2⟩ := mod_of (IntKind.u64.wrap p1) (by rw [IntKind.wrap_u64]; omega)
    rw [pws_e0]
    refine wp_seq ?_
    rw [pws_e1]
    refine pws_r0c hS ht k0 k1 hp hn hm hq hm2 hq2 hst ?_
    clear hst
    intro a w hst
    show Code.wp _ pws_n2 _ a w
    rw [pws_e2]
    refine wp_seq ?_
    rw [pws_e3]
    refine pws_r1c hS ht k0 k1 hp hn hm hq hm2 hq2 hst ?_
    clear hst
    intro a w hst
    show Code.wp _ pws_n4 _ a w
    rw [pws_e4]
    refine wp_seq ?_
    rw [pws_e5]
    refine pws_r2c hS ht k0 k1 hp hn hm hq hm2 hq2 hst ?_
    clear hst
    intro a w hst
    show Code.wp _ pws_n6 _ a w
    rw [pws_e6]
    refine wp_seq ?_
    rw [pws_e7]
    refine pws_r3c hS ht k0 k1 hp hn hm hq hm2 hq2 hst ?_
    clear hst
    intro a w hst
    show Code.wp _ pws_n8 _ a w
    rw [pws_e8]
    refine wp_seq ?_
    rw [pws_e9]
    refine pws_r4c hS ht k0 k1 hp hn hm hq hm2 hq2 hst ?_
    clear hst
    intro a w hst
    show Code.wp _ pws_n10 _ a w
    rw [pws_e10]
    refine wp_seq ?_
    rw [pws_e11]
    refine wp_seq ?_
    rw [pws_e13]
    refine pws_r5c hS ht k0 k1 hp hn hm hq hm2 hq2 hst ?_
    clear hst
    intro a w hst
    show Code.wp _ pws_n14 _ a w
    rw [pws_e14]
    refine wp_cond_false (st_bool hst 6 rfl) ?_
    show Code.wp _ pws_n16 _ a w
    rw [pws_e16]
    refine wp_skip ?_
    show Code.wp _ pws_n12 _ a w
    rw [pws_e12]
    refine wp_seq ?_
    rw [pws_e19]
    refine pws_r7 hS ht k0 k1 hp hn hm hq hm2 hq2 hst ?_
    clear hst
    intro a w hst
    show Code.wp _ pws_n20 _ a w
    rw [pws_e20]
    refine wp_seq ?_
    rw [pws_e21]
    refine pws_r8 hS ht k0 k1 hp hn hm hq hm2 hq2 hst ?_
    clear hst
    intro a w hst
    show Code.wp _ pws_n22 _ a w
    rw [pws_e22]
    refine wp_seq ?_
    rw [pws_e23]
    refine pws_r9 hS ht k0 k1 hp hn hm hq hm2 hq2 hst ?_
    clear hst
    intro a w hst
    show Code.wp _ pws_n24 _ a w
    rw [pws_e24]
    refine wp_seq ?_
    rw [pws_e25]
    refine pws_r10 hS ht k0 k1 hp hn hm hq hm2 hq2 hst ?_
    clear hst
    intro a w hst
    show Code.wp _ pws_n26 _ a w
    rw [pws_e26]
    refine wp_seq ?_
    rw [pws_e27]
    refine pws_r11 hS ht k0 k1 hp hn hm hq hm2 hq2 hst ?_
    clear hst
    intro a w hst
    show Code.wp _ pws_n28 _ a w
    rw [pws_e28]
    refine wp_seq ?_
    rw [pws_e29]
    refine pws_r12 hS ht k0 k1 hp hn hm hq hm2 hq2 hst ?_
    clear hst
    intro a w hst
    show Code.wp _ pws_n30 _ a w
    rw [pws_e30]
    refine wp_seq ?_
    rw [pws_e31]
    refine pws_r13 hS ht k0 k1 hp hn hm hq hm2 hq2 hst ?_
    clear hst
    intro a w hst
    show Code.wp _ pws_n32 _ a w
    rw [pws_e32]
    refine wp_seq ?_
    rw [pws_e33]
    refine pws_r14 hS ht k0 k1 hp hn hm hq hm2 hq2 hst ?_
    clear hst
    intro a w hst
    show Code.wp _ pws_n34 _ a w
    rw [pws_e34]
    refine wp_seq ?_
    rw [pws_e35]
    refine pws_r15 hS ht k0 k1 hp hn hm hq hm2 hq2 hst ?_
    clear hst
    intro a w hst
    show Code.wp _ pws_n36 _ a w
    rw [pws_e36]
    refine wp_ret ?_
    exact ret_tmp hst rfl 3 rfl
end Go.Proofs.YtjajmonhcnmidaaDoor
