/- The law RationalPowers answers true (written by wip/tools/gen_qpow.py). -/
import Derived.Test.YtdofolejfdfocaaGreatDoorqQr
namespace Go.Proofs.YtdofolejfdfocaaGreatDoor
open Go.RowKit


noncomputable def qpw_n0 : Code := bodyOf Tryz.f7
noncomputable def qpw_n1 : Code := cl qpw_n0
noncomputable def qpw_n2 : Code := cr qpw_n0
theorem qpw_e0 : qpw_n0 = .seq qpw_n1 qpw_n2 := by kernel_rfl
noncomputable def qpw_o0 : Array Oper := opsOf qpw_n1
theorem qpw_e1 : qpw_n1 = .region 0 qpw_o0 false := by kernel_rfl
noncomputable def qpw_n3 : Code := cl qpw_n2
noncomputable def qpw_n4 : Code := cr qpw_n2
theorem qpw_e2 : qpw_n2 = .seq qpw_n3 qpw_n4 := by kernel_rfl
noncomputable def qpw_o1 : Array Oper := opsOf qpw_n3
theorem qpw_e3 : qpw_n3 = .region 1 qpw_o1 false := by kernel_rfl
noncomputable def qpw_n5 : Code := cl qpw_n4
noncomputable def qpw_n6 : Code := cr qpw_n4
theorem qpw_e4 : qpw_n4 = .seq qpw_n5 qpw_n6 := by kernel_rfl
noncomputable def qpw_o2 : Array Oper := opsOf qpw_n5
theorem qpw_e5 : qpw_n5 = .region 2 qpw_o2 true := by kernel_rfl
set_option maxRecDepth 100000 in
theorem qpw_r0 {Q : Exit → Act → World → Prop} {Wb W0 : World} {a0 : Act} {r0 r1 : Raw2} {p0 p1 : Int} (_k0 : r0.Ok Wb) (_k1 : r1.Ok Wb) (_ht : P10 Wb)  (hst : St Wb 199 [(0, (eqF r0.val_)), (1, (eqF r1.val_)), (2, (eqF (.agg #[.int .i64 p0, .int .i64 p1])))] [] a0 W0)
    (fin : ∀ a w, St Wb 199 [(0, (eqF r0.val_)), (1, (eqF r1.val_)), (2, (eqF (.agg #[.int .i64 p0, .int .i64 p1]))), (6, (eqF (.bool false)))] [(3, (rawB2F r0)), (4, (rawB2F r1)), (5, (arrBF p0 p1))] a w → Q .normal a w) : (Code.region 0 qpw_o0 false).wp Tryz.prog Q a0 W0 := by
  let E : List PF := [(eqF r0.val_), (eqF r1.val_), (eqF (.agg #[.int .i64 p0, .int .i64 p1]))]
  let EB : List CF := [(rawB2F r0), (rawB2F r1), (arrBF p0 p1)]
  exact region_auto (E := E) (EB := EB) (s := ⟨[(0, (.ref 0)), (1, (.ref 1)), (2, (.ref 2))], []⟩)
   { boxes := [⟨24, (.ref 0), 0, fun w v h => boxR2_run w v h⟩,
      ⟨24, (.ref 1), 1, fun w v h => boxR2_run w v h⟩,
      ⟨50, (.ref 2), 2, fun w v h => boxA_run w v h⟩] }
   ⟨[(0, (.ref 0)), (1, (.ref 1)), (2, (.ref 2)), (6, (.bool false))], [(3, 0), (4, 1), (5, 2)]⟩ hst (by kernel_rfl) fin
set_option maxRecDepth 100000 in
theorem qpw_r1 {Q : Exit → Act → World → Prop} {Wb W0 : World} {a0 : Act} {r0 r1 : Raw2} {p0 p1 : Int} (_k0 : r0.Ok Wb) (_k1 : r1.Ok Wb) (ht : P10 Wb)  (hst : St Wb 199 [(0, (eqF r0.val_)), (1, (eqF r1.val_)), (2, (eqF (.agg #[.int .i64 p0, .int .i64 p1]))), (6, (eqF (.bool false)))] [(3, (rawB2F r0)), (4, (rawB2F r1)), (5, (arrBF p0 p1))] a0 W0)
    (fin : ∀ a w, St Wb 199 [(0, (eqF r0.val_)), (1, (eqF r1.val_)), (2, (eqF (.agg #[.int .i64 p0, .int .i64 p1]))), (6, (eqF (.bool false))), (7, (eqF (.bool true)))] [(3, (rawB2F r0)), (4, (rawB2F r1)), (5, (arrBF p0 p1))] a w → Q .normal a w) : (Code.region 1 qpw_o1 false).wp Tryz.prog Q a0 W0 := by
  let E : List PF := [(eqF r0.val_), (eqF r1.val_), (eqF (.agg #[.int .i64 p0, .int .i64 p1]))]
  let EB : List CF := [(rawB2F r0), (rawB2F r1), (arrBF p0 p1)]
  exact region_auto (E := E) (EB := EB) (s := ⟨[(0, (.ref 0)), (1, (.ref 1)), (2, (.ref 2)), (6, (.bool false))], [(3, 0), (4, 1), (5, 2)]⟩)
   { calls := [c0 10 (.bool true) fun w hb => kSan2 ht hb] }
   ⟨[(0, (.ref 0)), (1, (.ref 1)), (2, (.ref 2)), (6, (.bool false)), (7, (.bool true))], [(3, 0), (4, 1), (5, 2)]⟩ hst (by kernel_rfl) fin
set_option maxRecDepth 100000 in
theorem qpw_r2 {Q : Exit → Act → World → Prop} {Wb W0 : World} {a0 : Act} {r0 r1 : Raw2} {p0 p1 : Int} (k0 : r0.Ok Wb) (k1 : r1.Ok Wb) (_ht : P10 Wb)  (hst : St Wb 199 [(0, (eqF r0.val_)), (1, (eqF r1.val_)), (2, (eqF (.agg #[.int .i64 p0, .int .i64 p1]))), (6, (eqF (.bool false))), (7, (eqF (.bool true)))] [(3, (rawB2F r0)), (4, (rawB2F r1)), (5, (arrBF p0 p1))] a0 W0)
    (fin : ∀ a w, St Wb 199 [(0, (eqF r0.val_)), (1, (eqF r1.val_)), (2, (eqF (.agg #[.int .i64 p0, .int .i64 p1]))), (6, (eqF (.bool false))), (7, (eqF (.bool true)))] [(3, (someB Wb)), (4, (someB Wb)), (5, (arrBF p0 p1))] a w → Q .normal a w) : (Code.region 2 qpw_o2 true).wp Tryz.prog Q a0 W0 := by
  have hP : Plan qpw_o2 199 ([⟨3, none, some 29, (rawB2F r0), (someB Wb)⟩, ⟨4, none, some 33, (rawB2F r1), (someB Wb)⟩, ⟨5, none, none, (arrBF p0 p1), (arrBF p0 p1)⟩] : List BoxS) [(0, 3, 0), (2, 3, 0), (7, 3, 1), (9, 3, 1), (14, 4, 0), (16, 4, 0), (21, 4, 1), (23, 4, 1), (28, 3, 0), (30, 3, 1), (32, 4, 0), (34, 4, 1)] := ⟨by kernel_rfl, by kernel_rfl, by kernel_rfl, by kernel_rfl, by kernel_rfl, by kernel_rfl⟩
  refine region_st (F := [anyF, (eqF (.slice r0.n.A r0.n.k r0.n.c)), anyF, (eqF (.slice r0.n.A r0.n.k r0.n.c)), (eqF (.int .i64 (r0.n.k : Int))), (eqF (.int .i64 ((min r0.n.k 2 : Nat) : Int))), (eqF (.slice r0.n.A (min r0.n.k 2) r0.n.c)), anyF, (eqF (.slice r0.d.A r0.d.k r0.d.c)), anyF, (eqF (.slice r0.d.A r0.d.k r0.d.c)), (eqF (.int .i64 (r0.d.k : Int))), (eqF (.int .i64 ((min r0.d.k 2 : Nat) : Int))), (eqF (.slice r0.d.A (min r0.d.k 2) r0.d.c)), anyF, (eqF (.slice r1.n.A r1.n.k r1.n.c)), anyF, (eqF (.slice r1.n.A r1.n.k r1.n.c)), (eqF (.int .i64 (r1.n.k : Int))), (eqF (.int .i64 ((min r1.n.k 2 : Nat) : Int))), (eqF (.slice r1.n.A (min r1.n.k 2) r1.n.c)), anyF, (eqF (.slice r1.d.A r1.d.k r1.d.c)), anyF, (eqF (.slice r1.d.A r1.d.k r1.d.c)), (eqF (.int .i64 (r1.d.k : Int))), (eqF (.int .i64 ((min r1.d.k 2 : Nat) : Int))), (eqF (.slice r1.d.A (min r1.d.k 2) r1.d.c)), anyF, anyF, anyF, anyF, anyF, anyF, anyF, anyF]) hP hst rfl rfl ?_ ?_ fin
  · show Steps qpw_o2 199 Wb W0 a0 _ _ _ 36
    refine steps_snoc (k := 35) ?_ (s_keepAt (i := 35) (d := 62) 1 _ 34 33 (isOp_of (by kernel_rfl) : IsOp qpw_o2 35 none (.store 22 (.tmp 62) (.tmp 58))) (by kernel_rfl) rfl rfl rfl (by kernel_rfl) (by kernel_rfl) (by kernel_rfl) (by kernel_rfl) (by kernel_rfl) (by kernel_rfl) (by kernel_rfl) (src_op (f := (eqF (.slice r1.d.A (min r1.d.k 2) r1.d.c))) 27 (by kernel_rfl) (by kernel_rfl) rfl) (storeSome1 k1 2))
    refine steps_snoc (k := 34) ?_ (step_addr (i := 34) (d := 62) (g := none) hP (isOp_of (by kernel_rfl) : IsOp qpw_o2 34 none (.fieldAddr 24 (.tmp 4) 1)) (by kernel_rfl) (by kernel_rfl) 1 rfl rfl _ 1 rfl rfl (by kernel_rfl) (grd_none) fldRw1)
    refine steps_snoc (k := 33) ?_ (s_storeAt (i := 33) (d := 61) 1 _ 32 (isOp_of (by kernel_rfl) : IsOp qpw_o2 33 none (.store 22 (.tmp 61) (.tmp 51))) (by kernel_rfl) rfl rfl rfl (by kernel_rfl) (by kernel_rfl) (by kernel_rfl) (by kernel_rfl) (by kernel_rfl) (by kernel_rfl) (src_op (f := (eqF (.slice r1.n.A (min r1.n.k 2) r1.n.c))) 20 (by kernel_rfl) (by kernel_rfl) rfl) (storeSome0 k1 2))
    refine steps_snoc (k := 32) ?_ (step_addr (i := 32) (d := 61) (g := none) hP (isOp_of (by kernel_rfl) : IsOp qpw_o2 32 none (.fieldAddr 24 (.tmp 4) 0)) (by kernel_rfl) (by kernel_rfl) 0 rfl rfl _ 1 rfl rfl (by kernel_rfl) (grd_none) fldRw0)
    refine steps_snoc (k := 31) ?_ (s_keepAt (i := 31) (d := 60) 0 _ 30 29 (isOp_of (by kernel_rfl) : IsOp qpw_o2 31 none (.store 22 (.tmp 60) (.tmp 44))) (by kernel_rfl) rfl rfl rfl (by kernel_rfl) (by kernel_rfl) (by kernel_rfl) (by kernel_rfl) (by kernel_rfl) (by kernel_rfl) (by kernel_rfl) (src_op (f := (eqF (.slice r0.d.A (min r0.d.k 2) r0.d.c))) 13 (by kernel_rfl) (by kernel_rfl) rfl) (storeSome1 k0 2))
    refine steps_snoc (k := 30) ?_ (step_addr (i := 30) (d := 60) (g := none) hP (isOp_of (by kernel_rfl) : IsOp qpw_o2 30 none (.fieldAddr 24 (.tmp 3) 1)) (by kernel_rfl) (by kernel_rfl) 1 rfl rfl _ 0 rfl rfl (by kernel_rfl) (grd_none) fldRw1)
    refine steps_snoc (k := 29) ?_ (s_storeAt (i := 29) (d := 59) 0 _ 28 (isOp_of (by kernel_rfl) : IsOp qpw_o2 29 none (.store 22 (.tmp 59) (.tmp 37))) (by kernel_rfl) rfl rfl rfl (by kernel_rfl) (by kernel_rfl) (by kernel_rfl) (by kernel_rfl) (by kernel_rfl) (by kernel_rfl) (src_op (f := (eqF (.slice r0.n.A (min r0.n.k 2) r0.n.c))) 6 (by kernel_rfl) (by kernel_rfl) rfl) (storeSome0 k0 2))
    refine steps_snoc (k := 28) ?_ (step_addr (i := 28) (d := 59) (g := none) hP (isOp_of (by kernel_rfl) : IsOp qpw_o2 28 none (.fieldAddr 24 (.tmp 3) 0)) (by kernel_rfl) (by kernel_rfl) 0 rfl rfl _ 0 rfl rfl (by kernel_rfl) (grd_none) fldRw0)
    refine steps_snoc (k := 27) ?_ (s_op2 (i := 27) hP (g := none) (isOp_of (by kernel_rfl) : IsOp qpw_o2 27 none (.slice 22 (.tmp 53) none (some (.tmp 57)) none)) (by kernel_rfl) (by kernel_rfl) (grd_none) (src_op (f := (eqF (.slice r1.d.A r1.d.k r1.d.c))) 22 (by kernel_rfl) (by kernel_rfl) rfl) (src_op (f := (eqF (.int .i64 ((min r1.d.k 2 : Nat) : Int)))) 26 (by kernel_rfl) (by kernel_rfl) rfl) (fun ρ w hx hy => h_sliceRaw k1.2.1 2 hx hy) rfl)
    refine steps_snoc (k := 26) ?_ (s_op2 (i := 26) hP (g := none) (isOp_of (by kernel_rfl) : IsOp qpw_o2 26 none (.call { callee := .builtin .min, args := #[.tmp 56, .const (.int .i64 2)], argTypes := #[3, 3] })) (by kernel_rfl) (by kernel_rfl) (grd_none) (src_op (f := (eqF (.int .i64 (r1.d.k : Int)))) 25 (by kernel_rfl) (by kernel_rfl) rfl) (src_const _) (fun ρ w hx hy => h_min (by omega) hx hy) rfl)
    refine steps_snoc (k := 25) ?_ (s_op1 (i := 25) hP (g := none) (isOp_of (by kernel_rfl) : IsOp qpw_o2 25 none (.call { callee := .builtin .len, args := #[.tmp 55], argTypes := #[22] })) (by kernel_rfl) (by kernel_rfl) (grd_none) (src_op (f := (eqF (.slice r1.d.A r1.d.k r1.d.c))) 24 (by kernel_rfl) (by kernel_rfl) rfl) (fun ρ w hx => h_len hx) rfl)
    refine steps_snoc (k := 24) ?_ (s_load (i := 24) hP (g := none) (isOp_of (by kernel_rfl) : IsOp qpw_o2 24 none (.load 22 (.tmp 54))) (by kernel_rfl) (by kernel_rfl) (grd_none) (bsrc_at 23 (bsrc_old 1 _ rfl rfl rfl (by kernel_rfl) (by kernel_rfl)) (by kernel_rfl) (by kernel_rfl) (by kernel_rfl)) (fun w q h => loadR2_1 w q h) rfl)
    refine steps_snoc (k := 23) ?_ (step_addr (i := 23) (d := 54) (g := none) hP (isOp_of (by kernel_rfl) : IsOp qpw_o2 23 none (.fieldAddr 24 (.tmp 4) 1)) (by kernel_rfl) (by kernel_rfl) 1 rfl rfl _ 1 rfl rfl (by kernel_rfl) (grd_none) fldRw1)
    refine steps_snoc (k := 22) ?_ (s_load (i := 22) hP (g := none) (isOp_of (by kernel_rfl) : IsOp qpw_o2 22 none (.load 22 (.tmp 52))) (by kernel_rfl) (by kernel_rfl) (grd_none) (bsrc_at 21 (bsrc_old 1 _ rfl rfl rfl (by kernel_rfl) (by kernel_rfl)) (by kernel_rfl) (by kernel_rfl) (by kernel_rfl)) (fun w q h => loadR2_1 w q h) rfl)
    refine steps_snoc (k := 21) ?_ (step_addr (i := 21) (d := 52) (g := none) hP (isOp_of (by kernel_rfl) : IsOp qpw_o2 21 none (.fieldAddr 24 (.tmp 4) 1)) (by kernel_rfl) (by kernel_rfl) 1 rfl rfl _ 1 rfl rfl (by kernel_rfl) (grd_none) fldRw1)
    refine steps_snoc (k := 20) ?_ (s_op2 (i := 20) hP (g := none) (isOp_of (by kernel_rfl) : IsOp qpw_o2 20 none (.slice 22 (.tmp 46) none (some (.tmp 50)) none)) (by kernel_rfl) (by kernel_rfl) (grd_none) (src_op (f := (eqF (.slice r1.n.A r1.n.k r1.n.c))) 15 (by kernel_rfl) (by kernel_rfl) rfl) (src_op (f := (eqF (.int .i64 ((min r1.n.k 2 : Nat) : Int)))) 19 (by kernel_rfl) (by kernel_rfl) rfl) (fun ρ w hx hy => h_sliceRaw k1.1 2 hx hy) rfl)
    refine steps_snoc (k := 19) ?_ (s_op2 (i := 19) hP (g := none) (isOp_of (by kernel_rfl) : IsOp qpw_o2 19 none (.call { callee := .builtin .min, args := #[.tmp 49, .const (.int .i64 2)], argTypes := #[3, 3] })) (by kernel_rfl) (by kernel_rfl) (grd_none) (src_op (f := (eqF (.int .i64 (r1.n.k : Int)))) 18 (by kernel_rfl) (by kernel_rfl) rfl) (src_const _) (fun ρ w hx hy => h_min (by omega) hx hy) rfl)
    refine steps_snoc (k := 18) ?_ (s_op1 (i := 18) hP (g := none) (isOp_of (by kernel_rfl) : IsOp qpw_o2 18 none (.call { callee := .builtin .len, args := #[.tmp 48], argTypes := #[22] })) (by kernel_rfl) (by kernel_rfl) (grd_none) (src_op (f := (eqF (.slice r1.n.A r1.n.k r1.n.c))) 17 (by kernel_rfl) (by kernel_rfl) rfl) (fun ρ w hx => h_len hx) rfl)
    refine steps_snoc (k := 17) ?_ (s_load (i := 17) hP (g := none) (isOp_of (by kernel_rfl) : IsOp qpw_o2 17 none (.load 22 (.tmp 47))) (by kernel_rfl) (by kernel_rfl) (grd_none) (bsrc_at 16 (bsrc_old 1 _ rfl rfl rfl (by kernel_rfl) (by kernel_rfl)) (by kernel_rfl) (by kernel_rfl) (by kernel_rfl)) (fun w q h => loadR2_0 w q h) rfl)
    refine steps_snoc (k := 16) ?_ (step_addr (i := 16) (d := 47) (g := none) hP (isOp_of (by kernel_rfl) : IsOp qpw_o2 16 none (.fieldAddr 24 (.tmp 4) 0)) (by kernel_rfl) (by kernel_rfl) 0 rfl rfl _ 1 rfl rfl (by kernel_rfl) (grd_none) fldRw0)
    refine steps_snoc (k := 15) ?_ (s_load (i := 15) hP (g := none) (isOp_of (by kernel_rfl) : IsOp qpw_o2 15 none (.load 22 (.tmp 45))) (by kernel_rfl) (by kernel_rfl) (grd_none) (bsrc_at 14 (bsrc_old 1 _ rfl rfl rfl (by kernel_rfl) (by kernel_rfl)) (by kernel_rfl) (by kernel_rfl) (by kernel_rfl)) (fun w q h => loadR2_0 w q h) rfl)
    refine steps_snoc (k := 14) ?_ (step_addr (i := 14) (d := 45) (g := none) hP (isOp_of (by kernel_rfl) : IsOp qpw_o2 14 none (.fieldAddr 24 (.tmp 4) 0)) (by kernel_rfl) (by kernel_rfl) 0 rfl rfl _ 1 rfl rfl (by kernel_rfl) (grd_none) fldRw0)
    refine steps_snoc (k := 13) ?_ (s_op2 (i := 13) hP (g := none) (isOp_of (by kernel_rfl) : IsOp qpw_o2 13 none (.slice 22 (.tmp 39) none (some (.tmp 43)) none)) (by kernel_rfl) (by kernel_rfl) (grd_none) (src_op (f := (eqF (.slice r0.d.A r0.d.k r0.d.c))) 8 (by kernel_rfl) (by kernel_rfl) rfl) (src_op (f := (eqF (.int .i64 ((min r0.d.k 2 : Nat) : Int)))) 12 (by kernel_rfl) (by kernel_rfl) rfl) (fun ρ w hx hy => h_sliceRaw k0.2.1 2 hx hy) rfl)
    refine steps_snoc (k := 12) ?_ (s_op2 (i := 12) hP (g := none) (isOp_of (by kernel_rfl) : IsOp qpw_o2 12 none (.call { callee := .builtin .min, args := #[.tmp 42, .const (.int .i64 2)], argTypes := #[3, 3] })) (by kernel_rfl) (by kernel_rfl) (grd_none) (src_op (f := (eqF (.int .i64 (r0.d.k : Int)))) 11 (by kernel_rfl) (by kernel_rfl) rfl) (src_const _) (fun ρ w hx hy => h_min (by omega) hx hy) rfl)
    refine steps_snoc (k := 11) ?_ (s_op1 (i := 11) hP (g := none) (isOp_of (by kernel_rfl) : IsOp qpw_o2 11 none (.call { callee := .builtin .len, args := #[.tmp 41], argTypes := #[22] })) (by kernel_rfl) (by kernel_rfl) (grd_none) (src_op (f := (eqF (.slice r0.d.A r0.d.k r0.d.c))) 10 (by kernel_rfl) (by kernel_rfl) rfl) (fun ρ w hx => h_len hx) rfl)
    refine steps_snoc (k := 10) ?_ (s_load (i := 10) hP (g := none) (isOp_of (by kernel_rfl) : IsOp qpw_o2 10 none (.load 22 (.tmp 40))) (by kernel_rfl) (by kernel_rfl) (grd_none) (bsrc_at 9 (bsrc_old 0 _ rfl rfl rfl (by kernel_rfl) (by kernel_rfl)) (by kernel_rfl) (by kernel_rfl) (by kernel_rfl)) (fun w q h => loadR2_1 w q h) rfl)
    refine steps_snoc (k := 9) ?_ (step_addr (i := 9) (d := 40) (g := none) hP (isOp_of (by kernel_rfl) : IsOp qpw_o2 9 none (.fieldAddr 24 (.tmp 3) 1)) (by kernel_rfl) (by kernel_rfl) 1 rfl rfl _ 0 rfl rfl (by kernel_rfl) (grd_none) fldRw1)
    refine steps_snoc (k := 8) ?_ (s_load (i := 8) hP (g := none) (isOp_of (by kernel_rfl) : IsOp qpw_o2 8 none (.load 22 (.tmp 38))) (by kernel_rfl) (by kernel_rfl) (grd_none) (bsrc_at 7 (bsrc_old 0 _ rfl rfl rfl (by kernel_rfl) (by kernel_rfl)) (by kernel_rfl) (by kernel_rfl) (by kernel_rfl)) (fun w q h => loadR2_1 w q h) rfl)
    refine steps_snoc (k := 7) ?_ (step_addr (i := 7) (d := 38) (g := none) hP (isOp_of (by kernel_rfl) : IsOp qpw_o2 7 none (.fieldAddr 24 (.tmp 3) 1)) (by kernel_rfl) (by kernel_rfl) 1 rfl rfl _ 0 rfl rfl (by kernel_rfl) (grd_none) fldRw1)
    refine steps_snoc (k := 6) ?_ (s_op2 (i := 6) hP (g := none) (isOp_of (by kernel_rfl) : IsOp qpw_o2 6 none (.slice 22 (.tmp 32) none (some (.tmp 36)) none)) (by kernel_rfl) (by kernel_rfl) (grd_none) (src_op (f := (eqF (.slice r0.n.A r0.n.k r0.n.c))) 1 (by kernel_rfl) (by kernel_rfl) rfl) (src_op (f := (eqF (.int .i64 ((min r0.n.k 2 : Nat) : Int)))) 5 (by kernel_rfl) (by kernel_rfl) rfl) (fun ρ w hx hy => h_sliceRaw k0.1 2 hx hy) rfl)
    refine steps_snoc (k := 5) ?_ (s_op2 (i := 5) hP (g := none) (isOp_of (by kernel_rfl) : IsOp qpw_o2 5 none (.call { callee := .builtin .min, args := #[.tmp 35, .const (.int .i64 2)], argTypes := #[3, 3] })) (by kernel_rfl) (by kernel_rfl) (grd_none) (src_op (f := (eqF (.int .i64 (r0.n.k : Int)))) 4 (by kernel_rfl) (by kernel_rfl) rfl) (src_const _) (fun ρ w hx hy => h_min (by omega) hx hy) rfl)
    refine steps_snoc (k := 4) ?_ (s_op1 (i := 4) hP (g := none) (isOp_of (by kernel_rfl) : IsOp qpw_o2 4 none (.call { callee := .builtin .len, args := #[.tmp 34], argTypes := #[22] })) (by kernel_rfl) (by kernel_rfl) (grd_none) (src_op (f := (eqF (.slice r0.n.A r0.n.k r0.n.c))) 3 (by kernel_rfl) (by kernel_rfl) rfl) (fun ρ w hx => h_len hx) rfl)
    refine steps_snoc (k := 3) ?_ (s_load (i := 3) hP (g := none) (isOp_of (by kernel_rfl) : IsOp qpw_o2 3 none (.load 22 (.tmp 33))) (by kernel_rfl) (by kernel_rfl) (grd_none) (bsrc_at 2 (bsrc_old 0 _ rfl rfl rfl (by kernel_rfl) (by kernel_rfl)) (by kernel_rfl) (by kernel_rfl) (by kernel_rfl)) (fun w q h => loadR2_0 w q h) rfl)
    refine steps_snoc (k := 2) ?_ (step_addr (i := 2) (d := 33) (g := none) hP (isOp_of (by kernel_rfl) : IsOp qpw_o2 2 none (.fieldAddr 24 (.tmp 3) 0)) (by kernel_rfl) (by kernel_rfl) 0 rfl rfl _ 0 rfl rfl (by kernel_rfl) (grd_none) fldRw0)
    refine steps_snoc (k := 1) ?_ (s_load (i := 1) hP (g := none) (isOp_of (by kernel_rfl) : IsOp qpw_o2 1 none (.load 22 (.tmp 31))) (by kernel_rfl) (by kernel_rfl) (grd_none) (bsrc_at 0 (bsrc_old 0 _ rfl rfl rfl (by kernel_rfl) (by kernel_rfl)) (by kernel_rfl) (by kernel_rfl) (by kernel_rfl)) (fun w q h => loadR2_0 w q h) rfl)
    refine steps_snoc (k := 0) ?_ (step_addr (i := 0) (d := 31) (g := none) hP (isOp_of (by kernel_rfl) : IsOp qpw_o2 0 none (.fieldAddr 24 (.tmp 3) 0)) (by kernel_rfl) (by kernel_rfl) 0 rfl rfl _ 0 rfl rfl (by kernel_rfl) (grd_none) fldRw0)
    exact steps_nil
  · intro m a w hI hm
    exact ⟨(low_fact hst 0 rfl (by kernel_rfl) hI), (low_fact hst 1 rfl (by kernel_rfl) hI), (low_fact hst 2 rfl (by kernel_rfl) hI), (low_fact hst 3 rfl (by kernel_rfl) hI), (low_fact hst 4 rfl (by kernel_rfl) hI), trivial⟩
set_option maxRecDepth 100000 in
theorem QPW_1 {Wb : World} {a : Act} {w : World} {r0 r1 : Raw2} {p0 p1 i k : Int} (k0 : r0.Ok Wb) (k1 : r1.Ok Wb) (_ht : P10 Wb) (ei : p0.tmod 10 = i) (ek : p1.tmod 10 = k) (_bi : -9 ≤ i ∧ i ≤ 9) (_bk : -9 ≤ k ∧ k ≤ 9) (na : r0.rat = 0) (_hi : i < 0) (_hk : k < 0) (_hs : i + k < 0) (nb : r1.rat = 0) (hst : St Wb 199 [(7, (eqF (.bool true)))] [(3, (rawB2F r0)), (4, (rawB2F r1)), (5, (arrBF p0 p1))] a w) : Code.wp Tryz.prog qpw_n6 (bodyPost Tryz.prog Tryz.f7 (GivesP (eqF (.bool true)) Wb)) a w := by
  let E : List PF := [(eqF r0.val_), (ratF r0.rat), (eqF r1.val_), (ratF r1.rat), (eqF (.int .i64 p0)), (eqF (.int .i64 (andv p0))), (eqF (.int .i64 (257 + andv p0))), (pairF 0 0), (eqF (.int .i64 (-257 - andv p0))), (eqF (.int .i64 i)), (eqF (.int .i64 p1)), (eqF (.int .i64 k)), (eqF (.int .i64 (i + k))), (ratF (r0.rat * r1.rat)), (eqF (.int .i64 (cmpR r0.rat 0)))]
  let EB : List CF := [(rawB2F r0), (rawB2F r1), (arrBF p0 p1), zeroQF, (boxQ r0.rat), (boxQ r1.rat), (boxQF 0 0)]
  exact run_out (E := E) (EB := EB) (T :=
   { pures := [p2 (.bin .and 3 3) (.ref 4) (.int .i64 1023) (.ref 5) fun _ _ _ _ _ hx hy => h_and64 rfl hx hy,
      p2 (.bin .add 3 3) (.int .i64 257) (.ref 5) (.ref 6) fun _ _ _ _ _ hx hy => h_add (z := (257 + andv p0)) (by rw [IntKind.wrap_i64]; have := and_range p0; omega) hx hy,
      p2 (.bin .sub 3 3) (.int .i64 (-257)) (.ref 5) (.ref 8) fun _ _ _ _ _ hx hy => h_sub (z := (-257 - andv p0)) (by rw [IntKind.wrap_i64]; have := and_range p0; omega) hx hy,
      p2 (.bin .rem 3 3) (.ref 4) (.int .i64 10) (.ref 9) fun _ _ _ _ _ hx hy => h_rem (z := i) (by decide) ei hx hy,
      p2 (.bin .rem 3 3) (.ref 10) (.int .i64 10) (.ref 11) fun _ _ _ _ _ hx hy => h_rem (z := k) (by decide) ek hx hy,
      p2 (.bin .add 3 3) (.ref 9) (.ref 11) (.ref 12) fun _ _ _ _ _ hx hy => h_add (z := (i + k)) (by rw [IntKind.wrap_i64]; omega) hx hy,
      p2 (.bin .eql 3 3) (.ref 14) (.int .i64 0) (.bool true) fun _ _ _ _ _ hx hy => h_eqlI (r := true) (cmp0_eq na) hx hy,
      p2 (.bin .lss 3 3) (.ref 9) (.int .i64 0) (.bool true) fun _ _ _ _ _ hx hy => h_lss (r := true) (by simp only [decide_eq_true_eq]; omega) hx hy,
      p2 (.bin .geq 3 3) (.ref 9) (.int .i64 0) (.bool false) fun _ _ _ _ _ hx hy => h_geq (r := false) (by simp only [decide_eq_false_iff_not]; omega) hx hy],
     calls := [c1 11 (.ref 0) (.ref 1) fun w v0 hb h0 => kMade2 k0 hb h0,
      c1 11 (.ref 2) (.ref 3) fun w v0 hb h0 => kMade2 k1 hb h0,
      c2 40 (.ref 1) (.ref 6) (.tup2 (.ref 7) (.int .i64 1)) fun w v0 v1 hb h0 h1 => kPowF h0 h1 k0.sm' (by decide) (by have := and_range p0; omega) (by have := and_range p0; omega) (by have := and_range p0; omega),
      c2 40 (.ref 1) (.ref 8) (.tup2 (.ref 7) (.int .i64 1)) fun w v0 v1 hb h0 h1 => kPowL h0 h1 k0.sm' (by decide) (by have := and_range p0; omega) (by have := and_range p0; omega) (by have := and_range p0; omega),
      c2 40 (.ref 1) (.ref 9) (.tup2 (.ref 7) (.int .i64 3)) fun w v0 v1 hb h0 h1 => kPowZ h0 h1 k0.sm' (by decide) (by omega) (by omega) (by omega) na,
      c2 40 (.ref 1) (.ref 11) (.tup2 (.ref 7) (.int .i64 3)) fun w v0 v1 hb h0 h1 => kPowZ h0 h1 k0.sm' (by decide) (by omega) (by omega) (by omega) na,
      c2 40 (.ref 1) (.ref 12) (.tup2 (.ref 7) (.int .i64 3)) fun w v0 v1 hb h0 h1 => kPowZ h0 h1 k0.sm' (by decide) (by omega) (by omega) (by omega) na,
      c2 21 (.ref 1) (.ref 3) (.ref 13) fun w v0 v1 hb h0 h1 => kQMul h0 h1 k0.sm' k1.sm' (by first | decide | assumption | omega) (by first | decide | assumption | omega),
      c2 40 (.ref 13) (.ref 9) (.tup2 (.ref 7) (.int .i64 3)) fun w v0 v1 hb h0 h1 => kPowZ h0 h1 (k0.sm'.mul k1.sm') (by decide) (by omega) (by omega) (by omega) (mul_z1 _ na),
      c2 40 (.ref 3) (.ref 9) (.tup2 (.ref 7) (.int .i64 3)) fun w v0 v1 hb h0 h1 => kPowZ h0 h1 k1.sm' (by decide) (by omega) (by omega) (by omega) nb,
      c1 29 (.ref 1) (.ref 14) fun w v0 hb h0 => kQSign h0 k0.sm' (by first | decide | assumption | omega)],
     loads := [⟨24, 0, 0, (.ref 0), fun w q h => loadR2_all w q h⟩,
      ⟨24, 0, 1, (.ref 2), fun w q h => loadR2_all w q h⟩,
      ⟨29, 0, 4, (.ref 1), fun w q h => loadQ_all w q h⟩,
      ⟨3, 0, 2, (.ref 4), fun w q h => loadA0 w q h⟩,
      ⟨3, 1, 2, (.ref 10), fun w q h => loadA1 w q h⟩,
      ⟨29, 0, 5, (.ref 3), fun w q h => loadQ_all w q h⟩],
     allocs := [⟨29, 3, _, allocQ_run, allocQ_old⟩],
     stores := [⟨29, 0, 3, (.ref 1), 4, storeQ_zero⟩,
      ⟨29, 0, 3, (.ref 3), 5, storeQ_zero⟩,
      ⟨29, 0, 3, (.ref 7), 6, storeQ_zero⟩],
     idxs := [⟨50, 0, 0, idxA0⟩,
      ⟨50, 1, 1, idxA1⟩] })
    (s := ⟨[(7, (.bool true))], [(3, 0), (4, 1), (5, 2)]⟩) (.ret ⟨[(6, (.bool true))], []⟩) hst (by kernel_rfl) fun a w hst => ret_tmp hst rfl 0 rfl

set_option maxRecDepth 100000 in
theorem QPW_2 {Wb : World} {a : Act} {w : World} {r0 r1 : Raw2} {p0 p1 i k : Int} (k0 : r0.Ok Wb) (k1 : r1.Ok Wb) (_ht : P10 Wb) (ei : p0.tmod 10 = i) (ek : p1.tmod 10 = k) (_bi : -9 ≤ i ∧ i ≤ 9) (_bk : -9 ≤ k ∧ k ≤ 9) (na : r0.rat = 0) (_hi : i < 0) (_hk : k < 0) (_hs : i + k < 0) (nb : r1.rat ≠ 0) (hst : St Wb 199 [(7, (eqF (.bool true)))] [(3, (rawB2F r0)), (4, (rawB2F r1)), (5, (arrBF p0 p1))] a w) : Code.wp Tryz.prog qpw_n6 (bodyPost Tryz.prog Tryz.f7 (GivesP (eqF (.bool true)) Wb)) a w := by
  let E : List PF := [(eqF r0.val_), (ratF r0.rat), (eqF r1.val_), (ratF r1.rat), (eqF (.int .i64 p0)), (eqF (.int .i64 (andv p0))), (eqF (.int .i64 (257 + andv p0))), (pairF 0 0), (eqF (.int .i64 (-257 - andv p0))), (eqF (.int .i64 i)), (eqF (.int .i64 p1)), (eqF (.int .i64 k)), (eqF (.int .i64 (i + k))), (ratF (r0.rat * r1.rat)), (ratF (zpw r1.rat i)), (eqF (.int .i64 (cmpR r0.rat 0)))]
  let EB : List CF := [(rawB2F r0), (rawB2F r1), (arrBF p0 p1), zeroQF, (boxQ r0.rat), (boxQ r1.rat), (boxQF 0 0), (boxQ (zpw r1.rat i))]
  exact run_out (E := E) (EB := EB) (T :=
   { pures := [p2 (.bin .and 3 3) (.ref 4) (.int .i64 1023) (.ref 5) fun _ _ _ _ _ hx hy => h_and64 rfl hx hy,
      p2 (.bin .add 3 3) (.int .i64 257) (.ref 5) (.ref 6) fun _ _ _ _ _ hx hy => h_add (z := (257 + andv p0)) (by rw [IntKind.wrap_i64]; have := and_range p0; omega) hx hy,
      p2 (.bin .sub 3 3) (.int .i64 (-257)) (.ref 5) (.ref 8) fun _ _ _ _ _ hx hy => h_sub (z := (-257 - andv p0)) (by rw [IntKind.wrap_i64]; have := and_range p0; omega) hx hy,
      p2 (.bin .rem 3 3) (.ref 4) (.int .i64 10) (.ref 9) fun _ _ _ _ _ hx hy => h_rem (z := i) (by decide) ei hx hy,
      p2 (.bin .rem 3 3) (.ref 10) (.int .i64 10) (.ref 11) fun _ _ _ _ _ hx hy => h_rem (z := k) (by decide) ek hx hy,
      p2 (.bin .add 3 3) (.ref 9) (.ref 11) (.ref 12) fun _ _ _ _ _ hx hy => h_add (z := (i + k)) (by rw [IntKind.wrap_i64]; omega) hx hy,
      p2 (.bin .eql 3 3) (.ref 15) (.int .i64 0) (.bool true) fun _ _ _ _ _ hx hy => h_eqlI (r := true) (cmp0_eq na) hx hy,
      p2 (.bin .lss 3 3) (.ref 9) (.int .i64 0) (.bool true) fun _ _ _ _ _ hx hy => h_lss (r := true) (by simp only [decide_eq_true_eq]; omega) hx hy,
      p2 (.bin .geq 3 3) (.ref 9) (.int .i64 0) (.bool false) fun _ _ _ _ _ hx hy => h_geq (r := false) (by simp only [decide_eq_false_iff_not]; omega) hx hy],
     calls := [c1 11 (.ref 0) (.ref 1) fun w v0 hb h0 => kMade2 k0 hb h0,
      c1 11 (.ref 2) (.ref 3) fun w v0 hb h0 => kMade2 k1 hb h0,
      c2 40 (.ref 1) (.ref 6) (.tup2 (.ref 7) (.int .i64 1)) fun w v0 v1 hb h0 h1 => kPowF h0 h1 k0.sm' (by decide) (by have := and_range p0; omega) (by have := and_range p0; omega) (by have := and_range p0; omega),
      c2 40 (.ref 1) (.ref 8) (.tup2 (.ref 7) (.int .i64 1)) fun w v0 v1 hb h0 h1 => kPowL h0 h1 k0.sm' (by decide) (by have := and_range p0; omega) (by have := and_range p0; omega) (by have := and_range p0; omega),
      c2 40 (.ref 1) (.ref 9) (.tup2 (.ref 7) (.int .i64 3)) fun w v0 v1 hb h0 h1 => kPowZ h0 h1 k0.sm' (by decide) (by omega) (by omega) (by omega) na,
      c2 40 (.ref 1) (.ref 11) (.tup2 (.ref 7) (.int .i64 3)) fun w v0 v1 hb h0 h1 => kPowZ h0 h1 k0.sm' (by decide) (by omega) (by omega) (by omega) na,
      c2 40 (.ref 1) (.ref 12) (.tup2 (.ref 7) (.int .i64 3)) fun w v0 v1 hb h0 h1 => kPowZ h0 h1 k0.sm' (by decide) (by omega) (by omega) (by omega) na,
      c2 21 (.ref 1) (.ref 3) (.ref 13) fun w v0 v1 hb h0 h1 => kQMul h0 h1 k0.sm' k1.sm' (by first | decide | assumption | omega) (by first | decide | assumption | omega),
      c2 40 (.ref 13) (.ref 9) (.tup2 (.ref 7) (.int .i64 3)) fun w v0 v1 hb h0 h1 => kPowZ h0 h1 (k0.sm'.mul k1.sm') (by decide) (by omega) (by omega) (by omega) (mul_z1 _ na),
      c2 40 (.ref 3) (.ref 9) (.tup2 (.ref 14) (.int .i64 0)) fun w v0 v1 hb h0 h1 => kPowOK (n := 9) h0 h1 k1.sm' (by decide) (by omega) (by decide) (by decide) (.inl nb),
      c1 29 (.ref 1) (.ref 15) fun w v0 hb h0 => kQSign h0 k0.sm' (by first | decide | assumption | omega)],
     loads := [⟨24, 0, 0, (.ref 0), fun w q h => loadR2_all w q h⟩,
      ⟨24, 0, 1, (.ref 2), fun w q h => loadR2_all w q h⟩,
      ⟨29, 0, 4, (.ref 1), fun w q h => loadQ_all w q h⟩,
      ⟨3, 0, 2, (.ref 4), fun w q h => loadA0 w q h⟩,
      ⟨3, 1, 2, (.ref 10), fun w q h => loadA1 w q h⟩,
      ⟨29, 0, 5, (.ref 3), fun w q h => loadQ_all w q h⟩],
     allocs := [⟨29, 3, _, allocQ_run, allocQ_old⟩],
     stores := [⟨29, 0, 3, (.ref 1), 4, storeQ_zero⟩,
      ⟨29, 0, 3, (.ref 3), 5, storeQ_zero⟩,
      ⟨29, 0, 3, (.ref 7), 6, storeQ_zero⟩,
      ⟨29, 0, 3, (.ref 14), 7, storeQ_zero⟩],
     idxs := [⟨50, 0, 0, idxA0⟩,
      ⟨50, 1, 1, idxA1⟩] })
    (s := ⟨[(7, (.bool true))], [(3, 0), (4, 1), (5, 2)]⟩) (.ret ⟨[(6, (.bool true))], []⟩) hst (by kernel_rfl) fun a w hst => ret_tmp hst rfl 0 rfl

set_option maxRecDepth 100000 in
theorem QPW_3 {Wb : World} {a : Act} {w : World} {r0 r1 : Raw2} {p0 p1 i k : Int} (k0 : r0.Ok Wb) (k1 : r1.Ok Wb) (_ht : P10 Wb) (ei : p0.tmod 10 = i) (ek : p1.tmod 10 = k) (_bi : -9 ≤ i ∧ i ≤ 9) (_bk : -9 ≤ k ∧ k ≤ 9) (na : r0.rat = 0) (_hi : i < 0) (hk : 0 ≤ k) (_hs : i + k < 0) (nb : r1.rat = 0) (hst : St Wb 199 [(7, (eqF (.bool true)))] [(3, (rawB2F r0)), (4, (rawB2F r1)), (5, (arrBF p0 p1))] a w) : Code.wp Tryz.prog qpw_n6 (bodyPost Tryz.prog Tryz.f7 (GivesP (eqF (.bool true)) Wb)) a w := by
  let E : List PF := [(eqF r0.val_), (ratF r0.rat), (eqF r1.val_), (ratF r1.rat), (eqF (.int .i64 p0)), (eqF (.int .i64 (andv p0))), (eqF (.int .i64 (257 + andv p0))), (pairF 0 0), (eqF (.int .i64 (-257 - andv p0))), (eqF (.int .i64 i)), (eqF (.int .i64 p1)), (eqF (.int .i64 k)), (ratF (zpw r0.rat k)), (eqF (.int .i64 (i + k))), (ratF (r0.rat * r1.rat)), (eqF (.int .i64 (cmpR r0.rat 0)))]
  let EB : List CF := [(rawB2F r0), (rawB2F r1), (arrBF p0 p1), zeroQF, (boxQ r0.rat), (boxQ r1.rat), (boxQF 0 0), (boxQ (zpw r0.rat k))]
  exact run_out (E := E) (EB := EB) (T :=
   { pures := [p2 (.bin .and 3 3) (.ref 4) (.int .i64 1023) (.ref 5) fun _ _ _ _ _ hx hy => h_and64 rfl hx hy,
      p2 (.bin .add 3 3) (.int .i64 257) (.ref 5) (.ref 6) fun _ _ _ _ _ hx hy => h_add (z := (257 + andv p0)) (by rw [IntKind.wrap_i64]; have := and_range p0; omega) hx hy,
      p2 (.bin .sub 3 3) (.int .i64 (-257)) (.ref 5) (.ref 8) fun _ _ _ _ _ hx hy => h_sub (z := (-257 - andv p0)) (by rw [IntKind.wrap_i64]; have := and_range p0; omega) hx hy,
      p2 (.bin .rem 3 3) (.ref 4) (.int .i64 10) (.ref 9) fun _ _ _ _ _ hx hy => h_rem (z := i) (by decide) ei hx hy,
      p2 (.bin .rem 3 3) (.ref 10) (.int .i64 10) (.ref 11) fun _ _ _ _ _ hx hy => h_rem (z := k) (by decide) ek hx hy,
      p2 (.bin .add 3 3) (.ref 9) (.ref 11) (.ref 13) fun _ _ _ _ _ hx hy => h_add (z := (i + k)) (by rw [IntKind.wrap_i64]; omega) hx hy,
      p2 (.bin .eql 3 3) (.ref 15) (.int .i64 0) (.bool true) fun _ _ _ _ _ hx hy => h_eqlI (r := true) (cmp0_eq na) hx hy,
      p2 (.bin .lss 3 3) (.ref 9) (.int .i64 0) (.bool true) fun _ _ _ _ _ hx hy => h_lss (r := true) (by simp only [decide_eq_true_eq]; omega) hx hy,
      p2 (.bin .geq 3 3) (.ref 9) (.int .i64 0) (.bool false) fun _ _ _ _ _ hx hy => h_geq (r := false) (by simp only [decide_eq_false_iff_not]; omega) hx hy],
     calls := [c1 11 (.ref 0) (.ref 1) fun w v0 hb h0 => kMade2 k0 hb h0,
      c1 11 (.ref 2) (.ref 3) fun w v0 hb h0 => kMade2 k1 hb h0,
      c2 40 (.ref 1) (.ref 6) (.tup2 (.ref 7) (.int .i64 1)) fun w v0 v1 hb h0 h1 => kPowF h0 h1 k0.sm' (by decide) (by have := and_range p0; omega) (by have := and_range p0; omega) (by have := and_range p0; omega),
      c2 40 (.ref 1) (.ref 8) (.tup2 (.ref 7) (.int .i64 1)) fun w v0 v1 hb h0 h1 => kPowL h0 h1 k0.sm' (by decide) (by have := and_range p0; omega) (by have := and_range p0; omega) (by have := and_range p0; omega),
      c2 40 (.ref 1) (.ref 9) (.tup2 (.ref 7) (.int .i64 3)) fun w v0 v1 hb h0 h1 => kPowZ h0 h1 k0.sm' (by decide) (by omega) (by omega) (by omega) na,
      c2 40 (.ref 1) (.ref 11) (.tup2 (.ref 12) (.int .i64 0)) fun w v0 v1 hb h0 h1 => kPowOK (n := 9) h0 h1 k0.sm' (by decide) (by omega) (by decide) (by decide) (.inr hk),
      c2 40 (.ref 1) (.ref 13) (.tup2 (.ref 7) (.int .i64 3)) fun w v0 v1 hb h0 h1 => kPowZ h0 h1 k0.sm' (by decide) (by omega) (by omega) (by omega) na,
      c2 21 (.ref 1) (.ref 3) (.ref 14) fun w v0 v1 hb h0 h1 => kQMul h0 h1 k0.sm' k1.sm' (by first | decide | assumption | omega) (by first | decide | assumption | omega),
      c2 40 (.ref 14) (.ref 9) (.tup2 (.ref 7) (.int .i64 3)) fun w v0 v1 hb h0 h1 => kPowZ h0 h1 (k0.sm'.mul k1.sm') (by decide) (by omega) (by omega) (by omega) (mul_z1 _ na),
      c2 40 (.ref 3) (.ref 9) (.tup2 (.ref 7) (.int .i64 3)) fun w v0 v1 hb h0 h1 => kPowZ h0 h1 k1.sm' (by decide) (by omega) (by omega) (by omega) nb,
      c1 29 (.ref 1) (.ref 15) fun w v0 hb h0 => kQSign h0 k0.sm' (by first | decide | assumption | omega)],
     loads := [⟨24, 0, 0, (.ref 0), fun w q h => loadR2_all w q h⟩,
      ⟨24, 0, 1, (.ref 2), fun w q h => loadR2_all w q h⟩,
      ⟨29, 0, 4, (.ref 1), fun w q h => loadQ_all w q h⟩,
      ⟨3, 0, 2, (.ref 4), fun w q h => loadA0 w q h⟩,
      ⟨3, 1, 2, (.ref 10), fun w q h => loadA1 w q h⟩,
      ⟨29, 0, 5, (.ref 3), fun w q h => loadQ_all w q h⟩],
     allocs := [⟨29, 3, _, allocQ_run, allocQ_old⟩],
     stores := [⟨29, 0, 3, (.ref 1), 4, storeQ_zero⟩,
      ⟨29, 0, 3, (.ref 3), 5, storeQ_zero⟩,
      ⟨29, 0, 3, (.ref 7), 6, storeQ_zero⟩,
      ⟨29, 0, 3, (.ref 12), 7, storeQ_zero⟩],
     idxs := [⟨50, 0, 0, idxA0⟩,
      ⟨50, 1, 1, idxA1⟩] })
    (s := ⟨[(7, (.bool true))], [(3, 0), (4, 1), (5, 2)]⟩) (.ret ⟨[(6, (.bool true))], []⟩) hst (by kernel_rfl) fun a w hst => ret_tmp hst rfl 0 rfl

set_option maxRecDepth 100000 in
theorem QPW_4 {Wb : World} {a : Act} {w : World} {r0 r1 : Raw2} {p0 p1 i k : Int} (k0 : r0.Ok Wb) (k1 : r1.Ok Wb) (_ht : P10 Wb) (ei : p0.tmod 10 = i) (ek : p1.tmod 10 = k) (_bi : -9 ≤ i ∧ i ≤ 9) (_bk : -9 ≤ k ∧ k ≤ 9) (na : r0.rat = 0) (_hi : i < 0) (hk : 0 ≤ k) (_hs : i + k < 0) (nb : r1.rat ≠ 0) (hst : St Wb 199 [(7, (eqF (.bool true)))] [(3, (rawB2F r0)), (4, (rawB2F r1)), (5, (arrBF p0 p1))] a w) : Code.wp Tryz.prog qpw_n6 (bodyPost Tryz.prog Tryz.f7 (GivesP (eqF (.bool true)) Wb)) a w := by
  let E : List PF := [(eqF r0.val_), (ratF r0.rat), (eqF r1.val_), (ratF r1.rat), (eqF (.int .i64 p0)), (eqF (.int .i64 (andv p0))), (eqF (.int .i64 (257 + andv p0))), (pairF 0 0), (eqF (.int .i64 (-257 - andv p0))), (eqF (.int .i64 i)), (eqF (.int .i64 p1)), (eqF (.int .i64 k)), (ratF (zpw r0.rat k)), (eqF (.int .i64 (i + k))), (ratF (r0.rat * r1.rat)), (ratF (zpw r1.rat i)), (eqF (.int .i64 (cmpR r0.rat 0)))]
  let EB : List CF := [(rawB2F r0), (rawB2F r1), (arrBF p0 p1), zeroQF, (boxQ r0.rat), (boxQ r1.rat), (boxQF 0 0), (boxQ (zpw r0.rat k)), (boxQ (zpw r1.rat i))]
  exact run_out (E := E) (EB := EB) (T :=
   { pures := [p2 (.bin .and 3 3) (.ref 4) (.int .i64 1023) (.ref 5) fun _ _ _ _ _ hx hy => h_and64 rfl hx hy,
      p2 (.bin .add 3 3) (.int .i64 257) (.ref 5) (.ref 6) fun _ _ _ _ _ hx hy => h_add (z := (257 + andv p0)) (by rw [IntKind.wrap_i64]; have := and_range p0; omega) hx hy,
      p2 (.bin .sub 3 3) (.int .i64 (-257)) (.ref 5) (.ref 8) fun _ _ _ _ _ hx hy => h_sub (z := (-257 - andv p0)) (by rw [IntKind.wrap_i64]; have := and_range p0; omega) hx hy,
      p2 (.bin .rem 3 3) (.ref 4) (.int .i64 10) (.ref 9) fun _ _ _ _ _ hx hy => h_rem (z := i) (by decide) ei hx hy,
      p2 (.bin .rem 3 3) (.ref 10) (.int .i64 10) (.ref 11) fun _ _ _ _ _ hx hy => h_rem (z := k) (by decide) ek hx hy,
      p2 (.bin .add 3 3) (.ref 9) (.ref 11) (.ref 13) fun _ _ _ _ _ hx hy => h_add (z := (i + k)) (by rw [IntKind.wrap_i64]; omega) hx hy,
      p2 (.bin .eql 3 3) (.ref 16) (.int .i64 0) (.bool true) fun _ _ _ _ _ hx hy => h_eqlI (r := true) (cmp0_eq na) hx hy,
      p2 (.bin .lss 3 3) (.ref 9) (.int .i64 0) (.bool true) fun _ _ _ _ _ hx hy => h_lss (r := true) (by simp only [decide_eq_true_eq]; omega) hx hy,
      p2 (.bin .geq 3 3) (.ref 9) (.int .i64 0) (.bool false) fun _ _ _ _ _ hx hy => h_geq (r := false) (by simp only [decide_eq_false_iff_not]; omega) hx hy],
     calls := [c1 11 (.ref 0) (.ref 1) fun w v0 hb h0 => kMade2 k0 hb h0,
      c1 11 (.ref 2) (.ref 3) fun w v0 hb h0 => kMade2 k1 hb h0,
      c2 40 (.ref 1) (.ref 6) (.tup2 (.ref 7) (.int .i64 1)) fun w v0 v1 hb h0 h1 => kPowF h0 h1 k0.sm' (by decide) (by have := and_range p0; omega) (by have := and_range p0; omega) (by have := and_range p0; omega),
      c2 40 (.ref 1) (.ref 8) (.tup2 (.ref 7) (.int .i64 1)) fun w v0 v1 hb h0 h1 => kPowL h0 h1 k0.sm' (by decide) (by have := and_range p0; omega) (by have := and_range p0; omega) (by have := and_range p0; omega),
      c2 40 (.ref 1) (.ref 9) (.tup2 (.ref 7) (.int .i64 3)) fun w v0 v1 hb h0 h1 => kPowZ h0 h1 k0.sm' (by decide) (by omega) (by omega) (by omega) na,
      c2 40 (.ref 1) (.ref 11) (.tup2 (.ref 12) (.int .i64 0)) fun w v0 v1 hb h0 h1 => kPowOK (n := 9) h0 h1 k0.sm' (by decide) (by omega) (by decide) (by decide) (.inr hk),
      c2 40 (.ref 1) (.ref 13) (.tup2 (.ref 7) (.int .i64 3)) fun w v0 v1 hb h0 h1 => kPowZ h0 h1 k0.sm' (by decide) (by omega) (by omega) (by omega) na,
      c2 21 (.ref 1) (.ref 3) (.ref 14) fun w v0 v1 hb h0 h1 => kQMul h0 h1 k0.sm' k1.sm' (by first | decide | assumption | omega) (by first | decide | assumption | omega),
      c2 40 (.ref 14) (.ref 9) (.tup2 (.ref 7) (.int .i64 3)) fun w v0 v1 hb h0 h1 => kPowZ h0 h1 (k0.sm'.mul k1.sm') (by decide) (by omega) (by omega) (by omega) (mul_z1 _ na),
      c2 40 (.ref 3) (.ref 9) (.tup2 (.ref 15) (.int .i64 0)) fun w v0 v1 hb h0 h1 => kPowOK (n := 9) h0 h1 k1.sm' (by decide) (by omega) (by decide) (by decide) (.inl nb),
      c1 29 (.ref 1) (.ref 16) fun w v0 hb h0 => kQSign h0 k0.sm' (by first | decide | assumption | omega)],
     loads := [⟨24, 0, 0, (.ref 0), fun w q h => loadR2_all w q h⟩,
      ⟨24, 0, 1, (.ref 2), fun w q h => loadR2_all w q h⟩,
      ⟨29, 0, 4, (.ref 1), fun w q h => loadQ_all w q h⟩,
      ⟨3, 0, 2, (.ref 4), fun w q h => loadA0 w q h⟩,
      ⟨3, 1, 2, (.ref 10), fun w q h => loadA1 w q h⟩,
      ⟨29, 0, 5, (.ref 3), fun w q h => loadQ_all w q h⟩],
     allocs := [⟨29, 3, _, allocQ_run, allocQ_old⟩],
     stores := [⟨29, 0, 3, (.ref 1), 4, storeQ_zero⟩,
      ⟨29, 0, 3, (.ref 3), 5, storeQ_zero⟩,
      ⟨29, 0, 3, (.ref 7), 6, storeQ_zero⟩,
      ⟨29, 0, 3, (.ref 12), 7, storeQ_zero⟩,
      ⟨29, 0, 3, (.ref 15), 8, storeQ_zero⟩],
     idxs := [⟨50, 0, 0, idxA0⟩,
      ⟨50, 1, 1, idxA1⟩] })
    (s := ⟨[(7, (.bool true))], [(3, 0), (4, 1), (5, 2)]⟩) (.ret ⟨[(6, (.bool true))], []⟩) hst (by kernel_rfl) fun a w hst => ret_tmp hst rfl 0 rfl

set_option maxRecDepth 100000 in
theorem QPW_5 {Wb : World} {a : Act} {w : World} {r0 r1 : Raw2} {p0 p1 i k : Int} (k0 : r0.Ok Wb) (k1 : r1.Ok Wb) (_ht : P10 Wb) (ei : p0.tmod 10 = i) (ek : p1.tmod 10 = k) (_bi : -9 ≤ i ∧ i ≤ 9) (_bk : -9 ≤ k ∧ k ≤ 9) (na : r0.rat = 0) (_hi : i < 0) (hk : 0 ≤ k) (hs : 0 ≤ i + k) (nb : r1.rat = 0) (hst : St Wb 199 [(7, (eqF (.bool true)))] [(3, (rawB2F r0)), (4, (rawB2F r1)), (5, (arrBF p0 p1))] a w) : Code.wp Tryz.prog qpw_n6 (bodyPost Tryz.prog Tryz.f7 (GivesP (eqF (.bool true)) Wb)) a w := by
  let E : List PF := [(eqF r0.val_), (ratF r0.rat), (eqF r1.val_), (ratF r1.rat), (eqF (.int .i64 p0)), (eqF (.int .i64 (andv p0))), (eqF (.int .i64 (257 + andv p0))), (pairF 0 0), (eqF (.int .i64 (-257 - andv p0))), (eqF (.int .i64 i)), (eqF (.int .i64 p1)), (eqF (.int .i64 k)), (ratF (zpw r0.rat k)), (eqF (.int .i64 (i + k))), (ratF (zpw r0.rat (i + k))), (ratF (r0.rat * r1.rat)), (eqF (.int .i64 (cmpR r0.rat 0)))]
  let EB : List CF := [(rawB2F r0), (rawB2F r1), (arrBF p0 p1), zeroQF, (boxQ r0.rat), (boxQ r1.rat), (boxQF 0 0), (boxQ (zpw r0.rat k)), (boxQ (zpw r0.rat (i + k)))]
  exact run_out (E := E) (EB := EB) (T :=
   { pures := [p2 (.bin .and 3 3) (.ref 4) (.int .i64 1023) (.ref 5) fun _ _ _ _ _ hx hy => h_and64 rfl hx hy,
      p2 (.bin .add 3 3) (.int .i64 257) (.ref 5) (.ref 6) fun _ _ _ _ _ hx hy => h_add (z := (257 + andv p0)) (by rw [IntKind.wrap_i64]; have := and_range p0; omega) hx hy,
      p2 (.bin .sub 3 3) (.int .i64 (-257)) (.ref 5) (.ref 8) fun _ _ _ _ _ hx hy => h_sub (z := (-257 - andv p0)) (by rw [IntKind.wrap_i64]; have := and_range p0; omega) hx hy,
      p2 (.bin .rem 3 3) (.ref 4) (.int .i64 10) (.ref 9) fun _ _ _ _ _ hx hy => h_rem (z := i) (by decide) ei hx hy,
      p2 (.bin .rem 3 3) (.ref 10) (.int .i64 10) (.ref 11) fun _ _ _ _ _ hx hy => h_rem (z := k) (by decide) ek hx hy,
      p2 (.bin .add 3 3) (.ref 9) (.ref 11) (.ref 13) fun _ _ _ _ _ hx hy => h_add (z := (i + k)) (by rw [IntKind.wrap_i64]; omega) hx hy,
      p2 (.bin .eql 3 3) (.ref 16) (.int .i64 0) (.bool true) fun _ _ _ _ _ hx hy => h_eqlI (r := true) (cmp0_eq na) hx hy,
      p2 (.bin .lss 3 3) (.ref 9) (.int .i64 0) (.bool true) fun _ _ _ _ _ hx hy => h_lss (r := true) (by simp only [decide_eq_true_eq]; omega) hx hy,
      p2 (.bin .geq 3 3) (.ref 9) (.int .i64 0) (.bool false) fun _ _ _ _ _ hx hy => h_geq (r := false) (by simp only [decide_eq_false_iff_not]; omega) hx hy],
     calls := [c1 11 (.ref 0) (.ref 1) fun w v0 hb h0 => kMade2 k0 hb h0,
      c1 11 (.ref 2) (.ref 3) fun w v0 hb h0 => kMade2 k1 hb h0,
      c2 40 (.ref 1) (.ref 6) (.tup2 (.ref 7) (.int .i64 1)) fun w v0 v1 hb h0 h1 => kPowF h0 h1 k0.sm' (by decide) (by have := and_range p0; omega) (by have := and_range p0; omega) (by have := and_range p0; omega),
      c2 40 (.ref 1) (.ref 8) (.tup2 (.ref 7) (.int .i64 1)) fun w v0 v1 hb h0 h1 => kPowL h0 h1 k0.sm' (by decide) (by have := and_range p0; omega) (by have := and_range p0; omega) (by have := and_range p0; omega),
      c2 40 (.ref 1) (.ref 9) (.tup2 (.ref 7) (.int .i64 3)) fun w v0 v1 hb h0 h1 => kPowZ h0 h1 k0.sm' (by decide) (by omega) (by omega) (by omega) na,
      c2 40 (.ref 1) (.ref 11) (.tup2 (.ref 12) (.int .i64 0)) fun w v0 v1 hb h0 h1 => kPowOK (n := 9) h0 h1 k0.sm' (by decide) (by omega) (by decide) (by decide) (.inr hk),
      c2 40 (.ref 1) (.ref 13) (.tup2 (.ref 14) (.int .i64 0)) fun w v0 v1 hb h0 h1 => kPowOK (n := 18) h0 h1 k0.sm' (by decide) (by omega) (by decide) (by decide) (.inr hs),
      c2 21 (.ref 1) (.ref 3) (.ref 15) fun w v0 v1 hb h0 h1 => kQMul h0 h1 k0.sm' k1.sm' (by first | decide | assumption | omega) (by first | decide | assumption | omega),
      c2 40 (.ref 15) (.ref 9) (.tup2 (.ref 7) (.int .i64 3)) fun w v0 v1 hb h0 h1 => kPowZ h0 h1 (k0.sm'.mul k1.sm') (by decide) (by omega) (by omega) (by omega) (mul_z1 _ na),
      c2 40 (.ref 3) (.ref 9) (.tup2 (.ref 7) (.int .i64 3)) fun w v0 v1 hb h0 h1 => kPowZ h0 h1 k1.sm' (by decide) (by omega) (by omega) (by omega) nb,
      c1 29 (.ref 1) (.ref 16) fun w v0 hb h0 => kQSign h0 k0.sm' (by first | decide | assumption | omega)],
     loads := [⟨24, 0, 0, (.ref 0), fun w q h => loadR2_all w q h⟩,
      ⟨24, 0, 1, (.ref 2), fun w q h => loadR2_all w q h⟩,
      ⟨29, 0, 4, (.ref 1), fun w q h => loadQ_all w q h⟩,
      ⟨3, 0, 2, (.ref 4), fun w q h => loadA0 w q h⟩,
      ⟨3, 1, 2, (.ref 10), fun w q h => loadA1 w q h⟩,
      ⟨29, 0, 5, (.ref 3), fun w q h => loadQ_all w q h⟩],
     allocs := [⟨29, 3, _, allocQ_run, allocQ_old⟩],
     stores := [⟨29, 0, 3, (.ref 1), 4, storeQ_zero⟩,
      ⟨29, 0, 3, (.ref 3), 5, storeQ_zero⟩,
      ⟨29, 0, 3, (.ref 7), 6, storeQ_zero⟩,
      ⟨29, 0, 3, (.ref 12), 7, storeQ_zero⟩,
      ⟨29, 0, 3, (.ref 14), 8, storeQ_zero⟩],
     idxs := [⟨50, 0, 0, idxA0⟩,
      ⟨50, 1, 1, idxA1⟩] })
    (s := ⟨[(7, (.bool true))], [(3, 0), (4, 1), (5, 2)]⟩) (.ret ⟨[(6, (.bool true))], []⟩) hst (by kernel_rfl) fun a w hst => ret_tmp hst rfl 0 rfl

set_option maxRecDepth 100000 in
theorem QPW_6 {Wb : World} {a : Act} {w : World} {r0 r1 : Raw2} {p0 p1 i k : Int} (k0 : r0.Ok Wb) (k1 : r1.Ok Wb) (_ht : P10 Wb) (ei : p0.tmod 10 = i) (ek : p1.tmod 10 = k) (_bi : -9 ≤ i ∧ i ≤ 9) (_bk : -9 ≤ k ∧ k ≤ 9) (na : r0.rat = 0) (_hi : i < 0) (hk : 0 ≤ k) (hs : 0 ≤ i + k) (nb : r1.rat ≠ 0) (hst : St Wb 199 [(7, (eqF (.bool true)))] [(3, (rawB2F r0)), (4, (rawB2F r1)), (5, (arrBF p0 p1))] a w) : Code.wp Tryz.prog qpw_n6 (bodyPost Tryz.prog Tryz.f7 (GivesP (eqF (.bool true)) Wb)) a w := by
  let E : List PF := [(eqF r0.val_), (ratF r0.rat), (eqF r1.val_), (ratF r1.rat), (eqF (.int .i64 p0)), (eqF (.int .i64 (andv p0))), (eqF (.int .i64 (257 + andv p0))), (pairF 0 0), (eqF (.int .i64 (-257 - andv p0))), (eqF (.int .i64 i)), (eqF (.int .i64 p1)), (eqF (.int .i64 k)), (ratF (zpw r0.rat k)), (eqF (.int .i64 (i + k))), (ratF (zpw r0.rat (i + k))), (ratF (r0.rat * r1.rat)), (ratF (zpw r1.rat i)), (eqF (.int .i64 (cmpR r0.rat 0)))]
  let EB : List CF := [(rawB2F r0), (rawB2F r1), (arrBF p0 p1), zeroQF, (boxQ r0.rat), (boxQ r1.rat), (boxQF 0 0), (boxQ (zpw r0.rat k)), (boxQ (zpw r0.rat (i + k))), (boxQ (zpw r1.rat i))]
  exact run_out (E := E) (EB := EB) (T :=
   { pures := [p2 (.bin .and 3 3) (.ref 4) (.int .i64 1023) (.ref 5) fun _ _ _ _ _ hx hy => h_and64 rfl hx hy,
      p2 (.bin .add 3 3) (.int .i64 257) (.ref 5) (.ref 6) fun _ _ _ _ _ hx hy => h_add (z := (257 + andv p0)) (by rw [IntKind.wrap_i64]; have := and_range p0; omega) hx hy,
      p2 (.bin .sub 3 3) (.int .i64 (-257)) (.ref 5) (.ref 8) fun _ _ _ _ _ hx hy => h_sub (z := (-257 - andv p0)) (by rw [IntKind.wrap_i64]; have := and_range p0; omega) hx hy,
      p2 (.bin .rem 3 3) (.ref 4) (.int .i64 10) (.ref 9) fun _ _ _ _ _ hx hy => h_rem (z := i) (by decide) ei hx hy,
      p2 (.bin .rem 3 3) (.ref 10) (.int .i64 10) (.ref 11) fun _ _ _ _ _ hx hy => h_rem (z := k) (by decide) ek hx hy,
      p2 (.bin .add 3 3) (.ref 9) (.ref 11) (.ref 13) fun _ _ _ _ _ hx hy => h_add (z := (i + k)) (by rw [IntKind.wrap_i64]; omega) hx hy,
      p2 (.bin .eql 3 3) (.ref 17) (.int .i64 0) (.bool true) fun _ _ _ _ _ hx hy => h_eqlI (r := true) (cmp0_eq na) hx hy,
      p2 (.bin .lss 3 3) (.ref 9) (.int .i64 0) (.bool true) fun _ _ _ _ _ hx hy => h_lss (r := true) (by simp only [decide_eq_true_eq]; omega) hx hy,
      p2 (.bin .geq 3 3) (.ref 9) (.int .i64 0) (.bool false) fun _ _ _ _ _ hx hy => h_geq (r := false) (by simp only [decide_eq_false_iff_not]; omega) hx hy],
     calls := [c1 11 (.ref 0) (.ref 1) fun w v0 hb h0 => kMade2 k0 hb h0,
      c1 11 (.ref 2) (.ref 3) fun w v0 hb h0 => kMade2 k1 hb h0,
      c2 40 (.ref 1) (.ref 6) (.tup2 (.ref 7) (.int .i64 1)) fun w v0 v1 hb h0 h1 => kPowF h0 h1 k0.sm' (by decide) (by have := and_range p0; omega) (by have := and_range p0; omega) (by have := and_range p0; omega),
      c2 40 (.ref 1) (.ref 8) (.tup2 (.ref 7) (.int .i64 1)) fun w v0 v1 hb h0 h1 => kPowL h0 h1 k0.sm' (by decide) (by have := and_range p0; omega) (by have := and_range p0; omega) (by have := and_range p0; omega),
      c2 40 (.ref 1) (.ref 9) (.tup2 (.ref 7) (.int .i64 3)) fun w v0 v1 hb h0 h1 => kPowZ h0 h1 k0.sm' (by decide) (by omega) (by omega) (by omega) na,
      c2 40 (.ref 1) (.ref 11) (.tup2 (.ref 12) (.int .i64 0)) fun w v0 v1 hb h0 h1 => kPowOK (n := 9) h0 h1 k0.sm' (by decide) (by omega) (by decide) (by decide) (.inr hk),
      c2 40 (.ref 1) (.ref 13) (.tup2 (.ref 14) (.int .i64 0)) fun w v0 v1 hb h0 h1 => kPowOK (n := 18) h0 h1 k0.sm' (by decide) (by omega) (by decide) (by decide) (.inr hs),
      c2 21 (.ref 1) (.ref 3) (.ref 15) fun w v0 v1 hb h0 h1 => kQMul h0 h1 k0.sm' k1.sm' (by first | decide | assumption | omega) (by first | decide | assumption | omega),
      c2 40 (.ref 15) (.ref 9) (.tup2 (.ref 7) (.int .i64 3)) fun w v0 v1 hb h0 h1 => kPowZ h0 h1 (k0.sm'.mul k1.sm') (by decide) (by omega) (by omega) (by omega) (mul_z1 _ na),
      c2 40 (.ref 3) (.ref 9) (.tup2 (.ref 16) (.int .i64 0)) fun w v0 v1 hb h0 h1 => kPowOK (n := 9) h0 h1 k1.sm' (by decide) (by omega) (by decide) (by decide) (.inl nb),
      c1 29 (.ref 1) (.ref 17) fun w v0 hb h0 => kQSign h0 k0.sm' (by first | decide | assumption | omega)],
     loads := [⟨24, 0, 0, (.ref 0), fun w q h => loadR2_all w q h⟩,
      ⟨24, 0, 1, (.ref 2), fun w q h => loadR2_all w q h⟩,
      ⟨29, 0, 4, (.ref 1), fun w q h => loadQ_all w q h⟩,
      ⟨3, 0, 2, (.ref 4), fun w q h => loadA0 w q h⟩,
      ⟨3, 1, 2, (.ref 10), fun w q h => loadA1 w q h⟩,
      ⟨29, 0, 5, (.ref 3), fun w q h => loadQ_all w q h⟩],
     allocs := [⟨29, 3, _, allocQ_run, allocQ_old⟩],
     stores := [⟨29, 0, 3, (.ref 1), 4, storeQ_zero⟩,
      ⟨29, 0, 3, (.ref 3), 5, storeQ_zero⟩,
      ⟨29, 0, 3, (.ref 7), 6, storeQ_zero⟩,
      ⟨29, 0, 3, (.ref 12), 7, storeQ_zero⟩,
      ⟨29, 0, 3, (.ref 14), 8, storeQ_zero⟩,
      ⟨29, 0, 3, (.ref 16), 9, storeQ_zero⟩],
     idxs := [⟨50, 0, 0, idxA0⟩,
      ⟨50, 1, 1, idxA1⟩] })
    (s := ⟨[(7, (.bool true))], [(3, 0), (4, 1), (5, 2)]⟩) (.ret ⟨[(6, (.bool true))], []⟩) hst (by kernel_rfl) fun a w hst => ret_tmp hst rfl 0 rfl

set_option maxRecDepth 100000 in
theorem QPW_7 {Wb : World} {a : Act} {w : World} {r0 r1 : Raw2} {p0 p1 i k : Int} (k0 : r0.Ok Wb) (k1 : r1.Ok Wb) (_ht : P10 Wb) (ei : p0.tmod 10 = i) (ek : p1.tmod 10 = k) (_bi : -9 ≤ i ∧ i ≤ 9) (_bk : -9 ≤ k ∧ k ≤ 9) (na : r0.rat = 0) (hi : 0 ≤ i) (_hk : k < 0) (_hs : i + k < 0) (hst : St Wb 199 [(7, (eqF (.bool true)))] [(3, (rawB2F r0)), (4, (rawB2F r1)), (5, (arrBF p0 p1))] a w) : Code.wp Tryz.prog qpw_n6 (bodyPost Tryz.prog Tryz.f7 (GivesP (eqF (.bool true)) Wb)) a w := by
  let E : List PF := [(eqF r0.val_), (ratF r0.rat), (eqF r1.val_), (ratF r1.rat), (eqF (.int .i64 p0)), (eqF (.int .i64 (andv p0))), (eqF (.int .i64 (257 + andv p0))), (pairF 0 0), (eqF (.int .i64 (-257 - andv p0))), (eqF (.int .i64 i)), (eqF (.int .i64 p1)), (eqF (.int .i64 k)), (ratF (zpw r0.rat i)), (eqF (.int .i64 (i + k))), (ratF (r0.rat * r1.rat)), (ratF (zpw (r0.rat * r1.rat) i)), (ratF (zpw r1.rat i)), (ratF ((zpw r0.rat i) * (zpw r1.rat i))), (eqF (.int .i64 (cmpR r0.rat 0)))]
  let EB : List CF := [(rawB2F r0), (rawB2F r1), (arrBF p0 p1), zeroQF, (boxQ r0.rat), (boxQ r1.rat), (boxQF 0 0), (boxQ (zpw r0.rat i)), (boxQ (zpw (r0.rat * r1.rat) i)), (boxQ (zpw r1.rat i))]
  exact run_out (E := E) (EB := EB) (T :=
   { pures := [p2 (.bin .and 3 3) (.ref 4) (.int .i64 1023) (.ref 5) fun _ _ _ _ _ hx hy => h_and64 rfl hx hy,
      p2 (.bin .add 3 3) (.int .i64 257) (.ref 5) (.ref 6) fun _ _ _ _ _ hx hy => h_add (z := (257 + andv p0)) (by rw [IntKind.wrap_i64]; have := and_range p0; omega) hx hy,
      p2 (.bin .sub 3 3) (.int .i64 (-257)) (.ref 5) (.ref 8) fun _ _ _ _ _ hx hy => h_sub (z := (-257 - andv p0)) (by rw [IntKind.wrap_i64]; have := and_range p0; omega) hx hy,
      p2 (.bin .rem 3 3) (.ref 4) (.int .i64 10) (.ref 9) fun _ _ _ _ _ hx hy => h_rem (z := i) (by decide) ei hx hy,
      p2 (.bin .rem 3 3) (.ref 10) (.int .i64 10) (.ref 11) fun _ _ _ _ _ hx hy => h_rem (z := k) (by decide) ek hx hy,
      p2 (.bin .add 3 3) (.ref 9) (.ref 11) (.ref 13) fun _ _ _ _ _ hx hy => h_add (z := (i + k)) (by rw [IntKind.wrap_i64]; omega) hx hy,
      p2 (.bin .eql 3 3) (.ref 18) (.int .i64 0) (.bool true) fun _ _ _ _ _ hx hy => h_eqlI (r := true) (cmp0_eq na) hx hy,
      p2 (.bin .lss 3 3) (.ref 9) (.int .i64 0) (.bool false) fun _ _ _ _ _ hx hy => h_lss (r := false) (by simp only [decide_eq_false_iff_not]; omega) hx hy,
      p2 (.bin .geq 3 3) (.ref 9) (.int .i64 0) (.bool true) fun _ _ _ _ _ hx hy => h_geq (r := true) (by simp only [decide_eq_true_eq]; omega) hx hy],
     calls := [c1 11 (.ref 0) (.ref 1) fun w v0 hb h0 => kMade2 k0 hb h0,
      c1 11 (.ref 2) (.ref 3) fun w v0 hb h0 => kMade2 k1 hb h0,
      c2 40 (.ref 1) (.ref 6) (.tup2 (.ref 7) (.int .i64 1)) fun w v0 v1 hb h0 h1 => kPowF h0 h1 k0.sm' (by decide) (by have := and_range p0; omega) (by have := and_range p0; omega) (by have := and_range p0; omega),
      c2 40 (.ref 1) (.ref 8) (.tup2 (.ref 7) (.int .i64 1)) fun w v0 v1 hb h0 h1 => kPowL h0 h1 k0.sm' (by decide) (by have := and_range p0; omega) (by have := and_range p0; omega) (by have := and_range p0; omega),
      c2 40 (.ref 1) (.ref 9) (.tup2 (.ref 12) (.int .i64 0)) fun w v0 v1 hb h0 h1 => kPowOK (n := 9) h0 h1 k0.sm' (by decide) (by omega) (by decide) (by decide) (.inr hi),
      c2 40 (.ref 1) (.ref 11) (.tup2 (.ref 7) (.int .i64 3)) fun w v0 v1 hb h0 h1 => kPowZ h0 h1 k0.sm' (by decide) (by omega) (by omega) (by omega) na,
      c2 40 (.ref 1) (.ref 13) (.tup2 (.ref 7) (.int .i64 3)) fun w v0 v1 hb h0 h1 => kPowZ h0 h1 k0.sm' (by decide) (by omega) (by omega) (by omega) na,
      c2 21 (.ref 1) (.ref 3) (.ref 14) fun w v0 v1 hb h0 h1 => kQMul h0 h1 k0.sm' k1.sm' (by first | decide | assumption | omega) (by first | decide | assumption | omega),
      c2 40 (.ref 14) (.ref 9) (.tup2 (.ref 15) (.int .i64 0)) fun w v0 v1 hb h0 h1 => kPowOK (n := 9) h0 h1 (k0.sm'.mul k1.sm') (by decide) (by omega) (by decide) (by decide) (.inr hi),
      c2 40 (.ref 3) (.ref 9) (.tup2 (.ref 16) (.int .i64 0)) fun w v0 v1 hb h0 h1 => kPowOK (n := 9) h0 h1 k1.sm' (by decide) (by omega) (by decide) (by decide) (.inr hi),
      c2 21 (.ref 12) (.ref 16) (.ref 17) fun w v0 v1 hb h0 h1 => kQMul h0 h1 (zpw_sm (n := 9) k0.sm' (by omega) (by decide)) (zpw_sm (n := 9) k1.sm' (by omega) (by decide)) (by first | decide | assumption | omega) (by first | decide | assumption | omega),
      c2 16 (.ref 15) (.ref 17) (.bool true) fun w v0 v1 hb h0 h1 => kPSameT h0 h1 (zpw_sm (n := 9) (k0.sm'.mul k1.sm') (by omega) (by decide)) ((zpw_sm (n := 9) k0.sm' (by omega) (by decide)).mul (zpw_sm (n := 9) k1.sm' (by omega) (by decide))) (by first | decide | assumption | omega) (by first | decide | assumption | omega) (zpw_mul _ _ _),
      c1 29 (.ref 1) (.ref 18) fun w v0 hb h0 => kQSign h0 k0.sm' (by first | decide | assumption | omega)],
     loads := [⟨24, 0, 0, (.ref 0), fun w q h => loadR2_all w q h⟩,
      ⟨24, 0, 1, (.ref 2), fun w q h => loadR2_all w q h⟩,
      ⟨29, 0, 4, (.ref 1), fun w q h => loadQ_all w q h⟩,
      ⟨3, 0, 2, (.ref 4), fun w q h => loadA0 w q h⟩,
      ⟨3, 1, 2, (.ref 10), fun w q h => loadA1 w q h⟩,
      ⟨29, 0, 5, (.ref 3), fun w q h => loadQ_all w q h⟩,
      ⟨29, 0, 8, (.ref 15), fun w q h => loadQ_all w q h⟩,
      ⟨29, 0, 7, (.ref 12), fun w q h => loadQ_all w q h⟩,
      ⟨29, 0, 9, (.ref 16), fun w q h => loadQ_all w q h⟩],
     allocs := [⟨29, 3, _, allocQ_run, allocQ_old⟩],
     stores := [⟨29, 0, 3, (.ref 1), 4, storeQ_zero⟩,
      ⟨29, 0, 3, (.ref 3), 5, storeQ_zero⟩,
      ⟨29, 0, 3, (.ref 7), 6, storeQ_zero⟩,
      ⟨29, 0, 3, (.ref 12), 7, storeQ_zero⟩,
      ⟨29, 0, 3, (.ref 15), 8, storeQ_zero⟩,
      ⟨29, 0, 3, (.ref 16), 9, storeQ_zero⟩],
     idxs := [⟨50, 0, 0, idxA0⟩,
      ⟨50, 1, 1, idxA1⟩] })
    (s := ⟨[(7, (.bool true))], [(3, 0), (4, 1), (5, 2)]⟩) (.ret ⟨[(6, (.bool true))], []⟩) hst (by kernel_rfl) fun a w hst => ret_tmp hst rfl 0 rfl

set_option maxRecDepth 100000 in
theorem QPW_8 {Wb : World} {a : Act} {w : World} {r0 r1 : Raw2} {p0 p1 i k : Int} (k0 : r0.Ok Wb) (k1 : r1.Ok Wb) (_ht : P10 Wb) (ei : p0.tmod 10 = i) (ek : p1.tmod 10 = k) (_bi : -9 ≤ i ∧ i ≤ 9) (_bk : -9 ≤ k ∧ k ≤ 9) (na : r0.rat = 0) (hi : 0 ≤ i) (_hk : k < 0) (hs : 0 ≤ i + k) (hst : St Wb 199 [(7, (eqF (.bool true)))] [(3, (rawB2F r0)), (4, (rawB2F r1)), (5, (arrBF p0 p1))] a w) : Code.wp Tryz.prog qpw_n6 (bodyPost Tryz.prog Tryz.f7 (GivesP (eqF (.bool true)) Wb)) a w := by
  let E : List PF := [(eqF r0.val_), (ratF r0.rat), (eqF r1.val_), (ratF r1.rat), (eqF (.int .i64 p0)), (eqF (.int .i64 (andv p0))), (eqF (.int .i64 (257 + andv p0))), (pairF 0 0), (eqF (.int .i64 (-257 - andv p0))), (eqF (.int .i64 i)), (eqF (.int .i64 p1)), (eqF (.int .i64 k)), (ratF (zpw r0.rat i)), (eqF (.int .i64 (i + k))), (ratF (zpw r0.rat (i + k))), (ratF (r0.rat * r1.rat)), (ratF (zpw (r0.rat * r1.rat) i)), (ratF (zpw r1.rat i)), (ratF ((zpw r0.rat i) * (zpw r1.rat i))), (eqF (.int .i64 (cmpR r0.rat 0)))]
  let EB : List CF := [(rawB2F r0), (rawB2F r1), (arrBF p0 p1), zeroQF, (boxQ r0.rat), (boxQ r1.rat), (boxQF 0 0), (boxQ (zpw r0.rat i)), (boxQ (zpw r0.rat (i + k))), (boxQ (zpw (r0.rat * r1.rat) i)), (boxQ (zpw r1.rat i))]
  exact run_out (E := E) (EB := EB) (T :=
   { pures := [p2 (.bin .and 3 3) (.ref 4) (.int .i64 1023) (.ref 5) fun _ _ _ _ _ hx hy => h_and64 rfl hx hy,
      p2 (.bin .add 3 3) (.int .i64 257) (.ref 5) (.ref 6) fun _ _ _ _ _ hx hy => h_add (z := (257 + andv p0)) (by rw [IntKind.wrap_i64]; have := and_range p0; omega) hx hy,
      p2 (.bin .sub 3 3) (.int .i64 (-257)) (.ref 5) (.ref 8) fun _ _ _ _ _ hx hy => h_sub (z := (-257 - andv p0)) (by rw [IntKind.wrap_i64]; have := and_range p0; omega) hx hy,
      p2 (.bin .rem 3 3) (.ref 4) (.int .i64 10) (.ref 9) fun _ _ _ _ _ hx hy => h_rem (z := i) (by decide) ei hx hy,
      p2 (.bin .rem 3 3) (.ref 10) (.int .i64 10) (.ref 11) fun _ _ _ _ _ hx hy => h_rem (z := k) (by decide) ek hx hy,
      p2 (.bin .add 3 3) (.ref 9) (.ref 11) (.ref 13) fun _ _ _ _ _ hx hy => h_add (z := (i + k)) (by rw [IntKind.wrap_i64]; omega) hx hy,
      p2 (.bin .eql 3 3) (.ref 19) (.int .i64 0) (.bool true) fun _ _ _ _ _ hx hy => h_eqlI (r := true) (cmp0_eq na) hx hy,
      p2 (.bin .lss 3 3) (.ref 9) (.int .i64 0) (.bool false) fun _ _ _ _ _ hx hy => h_lss (r := false) (by simp only [decide_eq_false_iff_not]; omega) hx hy,
      p2 (.bin .geq 3 3) (.ref 9) (.int .i64 0) (.bool true) fun _ _ _ _ _ hx hy => h_geq (r := true) (by simp only [decide_eq_true_eq]; omega) hx hy],
     calls := [c1 11 (.ref 0) (.ref 1) fun w v0 hb h0 => kMade2 k0 hb h0,
      c1 11 (.ref 2) (.ref 3) fun w v0 hb h0 => kMade2 k1 hb h0,
      c2 40 (.ref 1) (.ref 6) (.tup2 (.ref 7) (.int .i64 1)) fun w v0 v1 hb h0 h1 => kPowF h0 h1 k0.sm' (by decide) (by have := and_range p0; omega) (by have := and_range p0; omega) (by have := and_range p0; omega),
      c2 40 (.ref 1) (.ref 8) (.tup2 (.ref 7) (.int .i64 1)) fun w v0 v1 hb h0 h1 => kPowL h0 h1 k0.sm' (by decide) (by have := and_range p0; omega) (by have := and_range p0; omega) (by have := and_range p0; omega),
      c2 40 (.ref 1) (.ref 9) (.tup2 (.ref 12) (.int .i64 0)) fun w v0 v1 hb h0 h1 => kPowOK (n := 9) h0 h1 k0.sm' (by decide) (by omega) (by decide) (by decide) (.inr hi),
      c2 40 (.ref 1) (.ref 11) (.tup2 (.ref 7) (.int .i64 3)) fun w v0 v1 hb h0 h1 => kPowZ h0 h1 k0.sm' (by decide) (by omega) (by omega) (by omega) na,
      c2 40 (.ref 1) (.ref 13) (.tup2 (.ref 14) (.int .i64 0)) fun w v0 v1 hb h0 h1 => kPowOK (n := 18) h0 h1 k0.sm' (by decide) (by omega) (by decide) (by decide) (.inr hs),
      c2 21 (.ref 1) (.ref 3) (.ref 15) fun w v0 v1 hb h0 h1 => kQMul h0 h1 k0.sm' k1.sm' (by first | decide | assumption | omega) (by first | decide | assumption | omega),
      c2 40 (.ref 15) (.ref 9) (.tup2 (.ref 16) (.int .i64 0)) fun w v0 v1 hb h0 h1 => kPowOK (n := 9) h0 h1 (k0.sm'.mul k1.sm') (by decide) (by omega) (by decide) (by decide) (.inr hi),
      c2 40 (.ref 3) (.ref 9) (.tup2 (.ref 17) (.int .i64 0)) fun w v0 v1 hb h0 h1 => kPowOK (n := 9) h0 h1 k1.sm' (by decide) (by omega) (by decide) (by decide) (.inr hi),
      c2 21 (.ref 12) (.ref 17) (.ref 18) fun w v0 v1 hb h0 h1 => kQMul h0 h1 (zpw_sm (n := 9) k0.sm' (by omega) (by decide)) (zpw_sm (n := 9) k1.sm' (by omega) (by decide)) (by first | decide | assumption | omega) (by first | decide | assumption | omega),
      c2 16 (.ref 16) (.ref 18) (.bool true) fun w v0 v1 hb h0 h1 => kPSameT h0 h1 (zpw_sm (n := 9) (k0.sm'.mul k1.sm') (by omega) (by decide)) ((zpw_sm (n := 9) k0.sm' (by omega) (by decide)).mul (zpw_sm (n := 9) k1.sm' (by omega) (by decide))) (by first | decide | assumption | omega) (by first | decide | assumption | omega) (zpw_mul _ _ _),
      c1 29 (.ref 1) (.ref 19) fun w v0 hb h0 => kQSign h0 k0.sm' (by first | decide | assumption | omega)],
     loads := [⟨24, 0, 0, (.ref 0), fun w q h => loadR2_all w q h⟩,
      ⟨24, 0, 1, (.ref 2), fun w q h => loadR2_all w q h⟩,
      ⟨29, 0, 4, (.ref 1), fun w q h => loadQ_all w q h⟩,
      ⟨3, 0, 2, (.ref 4), fun w q h => loadA0 w q h⟩,
      ⟨3, 1, 2, (.ref 10), fun w q h => loadA1 w q h⟩,
      ⟨29, 0, 5, (.ref 3), fun w q h => loadQ_all w q h⟩,
      ⟨29, 0, 9, (.ref 16), fun w q h => loadQ_all w q h⟩,
      ⟨29, 0, 7, (.ref 12), fun w q h => loadQ_all w q h⟩,
      ⟨29, 0, 10, (.ref 17), fun w q h => loadQ_all w q h⟩],
     allocs := [⟨29, 3, _, allocQ_run, allocQ_old⟩],
     stores := [⟨29, 0, 3, (.ref 1), 4, storeQ_zero⟩,
      ⟨29, 0, 3, (.ref 3), 5, storeQ_zero⟩,
      ⟨29, 0, 3, (.ref 7), 6, storeQ_zero⟩,
      ⟨29, 0, 3, (.ref 12), 7, storeQ_zero⟩,
      ⟨29, 0, 3, (.ref 14), 8, storeQ_zero⟩,
      ⟨29, 0, 3, (.ref 16), 9, storeQ_zero⟩,
      ⟨29, 0, 3, (.ref 17), 10, storeQ_zero⟩],
     idxs := [⟨50, 0, 0, idxA0⟩,
      ⟨50, 1, 1, idxA1⟩] })
    (s := ⟨[(7, (.bool true))], [(3, 0), (4, 1), (5, 2)]⟩) (.ret ⟨[(6, (.bool true))], []⟩) hst (by kernel_rfl) fun a w hst => ret_tmp hst rfl 0 rfl

set_option maxRecDepth 100000 in
theorem QPW_9 {Wb : World} {a : Act} {w : World} {r0 r1 : Raw2} {p0 p1 i k : Int} (k0 : r0.Ok Wb) (k1 : r1.Ok Wb) (_ht : P10 Wb) (ei : p0.tmod 10 = i) (ek : p1.tmod 10 = k) (_bi : -9 ≤ i ∧ i ≤ 9) (_bk : -9 ≤ k ∧ k ≤ 9) (na : r0.rat = 0) (hi : 0 ≤ i) (hk : 0 ≤ k) (hs : 0 ≤ i + k) (hst : St Wb 199 [(7, (eqF (.bool true)))] [(3, (rawB2F r0)), (4, (rawB2F r1)), (5, (arrBF p0 p1))] a w) : Code.wp Tryz.prog qpw_n6 (bodyPost Tryz.prog Tryz.f7 (GivesP (eqF (.bool true)) Wb)) a w := by
  let E : List PF := [(eqF r0.val_), (ratF r0.rat), (eqF r1.val_), (ratF r1.rat), (eqF (.int .i64 p0)), (eqF (.int .i64 (andv p0))), (eqF (.int .i64 (257 + andv p0))), (pairF 0 0), (eqF (.int .i64 (-257 - andv p0))), (eqF (.int .i64 i)), (eqF (.int .i64 p1)), (eqF (.int .i64 k)), (ratF (zpw r0.rat i)), (ratF (zpw r0.rat k)), (eqF (.int .i64 (i + k))), (ratF (zpw r0.rat (i + k))), (ratF (r0.rat * r1.rat)), (ratF (zpw (r0.rat * r1.rat) i)), (ratF (zpw r1.rat i)), (ratF ((zpw r0.rat i) * (zpw r0.rat k))), (ratF ((zpw r0.rat i) * (zpw r1.rat i))), (eqF (.int .i64 (cmpR r0.rat 0)))]
  let EB : List CF := [(rawB2F r0), (rawB2F r1), (arrBF p0 p1), zeroQF, (boxQ r0.rat), (boxQ r1.rat), (boxQF 0 0), (boxQ (zpw r0.rat i)), (boxQ (zpw r0.rat k)), (boxQ (zpw r0.rat (i + k))), (boxQ (zpw (r0.rat * r1.rat) i)), (boxQ (zpw r1.rat i))]
  exact run_out (E := E) (EB := EB) (T :=
   { pures := [p2 (.bin .and 3 3) (.ref 4) (.int .i64 1023) (.ref 5) fun _ _ _ _ _ hx hy => h_and64 rfl hx hy,
      p2 (.bin .add 3 3) (.int .i64 257) (.ref 5) (.ref 6) fun _ _ _ _ _ hx hy => h_add (z := (257 + andv p0)) (by rw [IntKind.wrap_i64]; have := and_range p0; omega) hx hy,
      p2 (.bin .sub 3 3) (.int .i64 (-257)) (.ref 5) (.ref 8) fun _ _ _ _ _ hx hy => h_sub (z := (-257 - andv p0)) (by rw [IntKind.wrap_i64]; have := and_range p0; omega) hx hy,
      p2 (.bin .rem 3 3) (.ref 4) (.int .i64 10) (.ref 9) fun _ _ _ _ _ hx hy => h_rem (z := i) (by decide) ei hx hy,
      p2 (.bin .rem 3 3) (.ref 10) (.int .i64 10) (.ref 11) fun _ _ _ _ _ hx hy => h_rem (z := k) (by decide) ek hx hy,
      p2 (.bin .add 3 3) (.ref 9) (.ref 11) (.ref 14) fun _ _ _ _ _ hx hy => h_add (z := (i + k)) (by rw [IntKind.wrap_i64]; omega) hx hy,
      p2 (.bin .eql 3 3) (.ref 21) (.int .i64 0) (.bool true) fun _ _ _ _ _ hx hy => h_eqlI (r := true) (cmp0_eq na) hx hy,
      p2 (.bin .lss 3 3) (.ref 9) (.int .i64 0) (.bool false) fun _ _ _ _ _ hx hy => h_lss (r := false) (by simp only [decide_eq_false_iff_not]; omega) hx hy,
      p2 (.bin .geq 3 3) (.ref 9) (.int .i64 0) (.bool true) fun _ _ _ _ _ hx hy => h_geq (r := true) (by simp only [decide_eq_true_eq]; omega) hx hy],
     calls := [c1 11 (.ref 0) (.ref 1) fun w v0 hb h0 => kMade2 k0 hb h0,
      c1 11 (.ref 2) (.ref 3) fun w v0 hb h0 => kMade2 k1 hb h0,
      c2 40 (.ref 1) (.ref 6) (.tup2 (.ref 7) (.int .i64 1)) fun w v0 v1 hb h0 h1 => kPowF h0 h1 k0.sm' (by decide) (by have := and_range p0; omega) (by have := and_range p0; omega) (by have := and_range p0; omega),
      c2 40 (.ref 1) (.ref 8) (.tup2 (.ref 7) (.int .i64 1)) fun w v0 v1 hb h0 h1 => kPowL h0 h1 k0.sm' (by decide) (by have := and_range p0; omega) (by have := and_range p0; omega) (by have := and_range p0; omega),
      c2 40 (.ref 1) (.ref 9) (.tup2 (.ref 12) (.int .i64 0)) fun w v0 v1 hb h0 h1 => kPowOK (n := 9) h0 h1 k0.sm' (by decide) (by omega) (by decide) (by decide) (.inr hi),
      c2 40 (.ref 1) (.ref 11) (.tup2 (.ref 13) (.int .i64 0)) fun w v0 v1 hb h0 h1 => kPowOK (n := 9) h0 h1 k0.sm' (by decide) (by omega) (by decide) (by decide) (.inr hk),
      c2 40 (.ref 1) (.ref 14) (.tup2 (.ref 15) (.int .i64 0)) fun w v0 v1 hb h0 h1 => kPowOK (n := 18) h0 h1 k0.sm' (by decide) (by omega) (by decide) (by decide) (.inr hs),
      c2 21 (.ref 1) (.ref 3) (.ref 16) fun w v0 v1 hb h0 h1 => kQMul h0 h1 k0.sm' k1.sm' (by first | decide | assumption | omega) (by first | decide | assumption | omega),
      c2 40 (.ref 16) (.ref 9) (.tup2 (.ref 17) (.int .i64 0)) fun w v0 v1 hb h0 h1 => kPowOK (n := 9) h0 h1 (k0.sm'.mul k1.sm') (by decide) (by omega) (by decide) (by decide) (.inr hi),
      c2 40 (.ref 3) (.ref 9) (.tup2 (.ref 18) (.int .i64 0)) fun w v0 v1 hb h0 h1 => kPowOK (n := 9) h0 h1 k1.sm' (by decide) (by omega) (by decide) (by decide) (.inr hi),
      c2 21 (.ref 12) (.ref 13) (.ref 19) fun w v0 v1 hb h0 h1 => kQMul h0 h1 (zpw_sm (n := 9) k0.sm' (by omega) (by decide)) (zpw_sm (n := 9) k0.sm' (by omega) (by decide)) (by first | decide | assumption | omega) (by first | decide | assumption | omega),
      c2 16 (.ref 15) (.ref 19) (.bool true) fun w v0 v1 hb h0 h1 => kPSameT h0 h1 (zpw_sm (n := 18) k0.sm' (by omega) (by decide)) ((zpw_sm (n := 9) k0.sm' (by omega) (by decide)).mul (zpw_sm (n := 9) k0.sm' (by omega) (by decide))) (by first | decide | assumption | omega) (by first | decide | assumption | omega) (zpw_add0 _ hi hk),
      c2 21 (.ref 12) (.ref 18) (.ref 20) fun w v0 v1 hb h0 h1 => kQMul h0 h1 (zpw_sm (n := 9) k0.sm' (by omega) (by decide)) (zpw_sm (n := 9) k1.sm' (by omega) (by decide)) (by first | decide | assumption | omega) (by first | decide | assumption | omega),
      c2 16 (.ref 17) (.ref 20) (.bool true) fun w v0 v1 hb h0 h1 => kPSameT h0 h1 (zpw_sm (n := 9) (k0.sm'.mul k1.sm') (by omega) (by decide)) ((zpw_sm (n := 9) k0.sm' (by omega) (by decide)).mul (zpw_sm (n := 9) k1.sm' (by omega) (by decide))) (by first | decide | assumption | omega) (by first | decide | assumption | omega) (zpw_mul _ _ _),
      c1 29 (.ref 1) (.ref 21) fun w v0 hb h0 => kQSign h0 k0.sm' (by first | decide | assumption | omega)],
     loads := [⟨24, 0, 0, (.ref 0), fun w q h => loadR2_all w q h⟩,
      ⟨24, 0, 1, (.ref 2), fun w q h => loadR2_all w q h⟩,
      ⟨29, 0, 4, (.ref 1), fun w q h => loadQ_all w q h⟩,
      ⟨3, 0, 2, (.ref 4), fun w q h => loadA0 w q h⟩,
      ⟨3, 1, 2, (.ref 10), fun w q h => loadA1 w q h⟩,
      ⟨29, 0, 5, (.ref 3), fun w q h => loadQ_all w q h⟩,
      ⟨29, 0, 9, (.ref 15), fun w q h => loadQ_all w q h⟩,
      ⟨29, 0, 7, (.ref 12), fun w q h => loadQ_all w q h⟩,
      ⟨29, 0, 8, (.ref 13), fun w q h => loadQ_all w q h⟩,
      ⟨29, 0, 10, (.ref 17), fun w q h => loadQ_all w q h⟩,
      ⟨29, 0, 11, (.ref 18), fun w q h => loadQ_all w q h⟩],
     allocs := [⟨29, 3, _, allocQ_run, allocQ_old⟩],
     stores := [⟨29, 0, 3, (.ref 1), 4, storeQ_zero⟩,
      ⟨29, 0, 3, (.ref 3), 5, storeQ_zero⟩,
      ⟨29, 0, 3, (.ref 7), 6, storeQ_zero⟩,
      ⟨29, 0, 3, (.ref 12), 7, storeQ_zero⟩,
      ⟨29, 0, 3, (.ref 13), 8, storeQ_zero⟩,
      ⟨29, 0, 3, (.ref 15), 9, storeQ_zero⟩,
      ⟨29, 0, 3, (.ref 17), 10, storeQ_zero⟩,
      ⟨29, 0, 3, (.ref 18), 11, storeQ_zero⟩],
     idxs := [⟨50, 0, 0, idxA0⟩,
      ⟨50, 1, 1, idxA1⟩] })
    (s := ⟨[(7, (.bool true))], [(3, 0), (4, 1), (5, 2)]⟩) (.ret ⟨[(6, (.bool true))], []⟩) hst (by kernel_rfl) fun a w hst => ret_tmp hst rfl 0 rfl

set_option maxRecDepth 100000 in
theorem QPW_10 {Wb : World} {a : Act} {w : World} {r0 r1 : Raw2} {p0 p1 i k : Int} (k0 : r0.Ok Wb) (k1 : r1.Ok Wb) (_ht : P10 Wb) (ei : p0.tmod 10 = i) (ek : p1.tmod 10 = k) (_bi : -9 ≤ i ∧ i ≤ 9) (_bk : -9 ≤ k ∧ k ≤ 9) (na : r0.rat ≠ 0) (_hi : i < 0) (nb : r1.rat = 0) (hst : St Wb 199 [(7, (eqF (.bool true)))] [(3, (rawB2F r0)), (4, (rawB2F r1)), (5, (arrBF p0 p1))] a w) : Code.wp Tryz.prog qpw_n6 (bodyPost Tryz.prog Tryz.f7 (GivesP (eqF (.bool true)) Wb)) a w := by
  let E : List PF := [(eqF r0.val_), (ratF r0.rat), (eqF r1.val_), (ratF r1.rat), (eqF (.int .i64 p0)), (eqF (.int .i64 (andv p0))), (eqF (.int .i64 (257 + andv p0))), (pairF 0 0), (eqF (.int .i64 (-257 - andv p0))), (eqF (.int .i64 i)), (eqF (.int .i64 p1)), (eqF (.int .i64 k)), (ratF (zpw r0.rat i)), (ratF (zpw r0.rat k)), (eqF (.int .i64 (i + k))), (ratF (zpw r0.rat (i + k))), (ratF (r0.rat * r1.rat)), (ratF ((zpw r0.rat i) * (zpw r0.rat k))), (eqF (.int .i64 (cmpR r0.rat 0)))]
  let EB : List CF := [(rawB2F r0), (rawB2F r1), (arrBF p0 p1), zeroQF, (boxQ r0.rat), (boxQ r1.rat), (boxQF 0 0), (boxQ (zpw r0.rat i)), (boxQ (zpw r0.rat k)), (boxQ (zpw r0.rat (i + k)))]
  exact run_out (E := E) (EB := EB) (T :=
   { pures := [p2 (.bin .and 3 3) (.ref 4) (.int .i64 1023) (.ref 5) fun _ _ _ _ _ hx hy => h_and64 rfl hx hy,
      p2 (.bin .add 3 3) (.int .i64 257) (.ref 5) (.ref 6) fun _ _ _ _ _ hx hy => h_add (z := (257 + andv p0)) (by rw [IntKind.wrap_i64]; have := and_range p0; omega) hx hy,
      p2 (.bin .sub 3 3) (.int .i64 (-257)) (.ref 5) (.ref 8) fun _ _ _ _ _ hx hy => h_sub (z := (-257 - andv p0)) (by rw [IntKind.wrap_i64]; have := and_range p0; omega) hx hy,
      p2 (.bin .rem 3 3) (.ref 4) (.int .i64 10) (.ref 9) fun _ _ _ _ _ hx hy => h_rem (z := i) (by decide) ei hx hy,
      p2 (.bin .rem 3 3) (.ref 10) (.int .i64 10) (.ref 11) fun _ _ _ _ _ hx hy => h_rem (z := k) (by decide) ek hx hy,
      p2 (.bin .add 3 3) (.ref 9) (.ref 11) (.ref 14) fun _ _ _ _ _ hx hy => h_add (z := (i + k)) (by rw [IntKind.wrap_i64]; omega) hx hy,
      p2 (.bin .eql 3 3) (.ref 18) (.int .i64 0) (.bool false) fun _ _ _ _ _ hx hy => h_eqlI (r := false) (cmp0_ne na) hx hy],
     calls := [c1 11 (.ref 0) (.ref 1) fun w v0 hb h0 => kMade2 k0 hb h0,
      c1 11 (.ref 2) (.ref 3) fun w v0 hb h0 => kMade2 k1 hb h0,
      c2 40 (.ref 1) (.ref 6) (.tup2 (.ref 7) (.int .i64 1)) fun w v0 v1 hb h0 h1 => kPowF h0 h1 k0.sm' (by decide) (by have := and_range p0; omega) (by have := and_range p0; omega) (by have := and_range p0; omega),
      c2 40 (.ref 1) (.ref 8) (.tup2 (.ref 7) (.int .i64 1)) fun w v0 v1 hb h0 h1 => kPowL h0 h1 k0.sm' (by decide) (by have := and_range p0; omega) (by have := and_range p0; omega) (by have := and_range p0; omega),
      c2 40 (.ref 1) (.ref 9) (.tup2 (.ref 12) (.int .i64 0)) fun w v0 v1 hb h0 h1 => kPowOK (n := 9) h0 h1 k0.sm' (by decide) (by omega) (by decide) (by decide) (.inl na),
      c2 40 (.ref 1) (.ref 11) (.tup2 (.ref 13) (.int .i64 0)) fun w v0 v1 hb h0 h1 => kPowOK (n := 9) h0 h1 k0.sm' (by decide) (by omega) (by decide) (by decide) (.inl na),
      c2 40 (.ref 1) (.ref 14) (.tup2 (.ref 15) (.int .i64 0)) fun w v0 v1 hb h0 h1 => kPowOK (n := 18) h0 h1 k0.sm' (by decide) (by omega) (by decide) (by decide) (.inl na),
      c2 21 (.ref 1) (.ref 3) (.ref 16) fun w v0 v1 hb h0 h1 => kQMul h0 h1 k0.sm' k1.sm' (by first | decide | assumption | omega) (by first | decide | assumption | omega),
      c2 40 (.ref 16) (.ref 9) (.tup2 (.ref 7) (.int .i64 3)) fun w v0 v1 hb h0 h1 => kPowZ h0 h1 (k0.sm'.mul k1.sm') (by decide) (by omega) (by omega) (by omega) (mul_z2 _ nb),
      c2 40 (.ref 3) (.ref 9) (.tup2 (.ref 7) (.int .i64 3)) fun w v0 v1 hb h0 h1 => kPowZ h0 h1 k1.sm' (by decide) (by omega) (by omega) (by omega) nb,
      c2 21 (.ref 12) (.ref 13) (.ref 17) fun w v0 v1 hb h0 h1 => kQMul h0 h1 (zpw_sm (n := 9) k0.sm' (by omega) (by decide)) (zpw_sm (n := 9) k0.sm' (by omega) (by decide)) (by first | decide | assumption | omega) (by first | decide | assumption | omega),
      c2 16 (.ref 15) (.ref 17) (.bool true) fun w v0 v1 hb h0 h1 => kPSameT h0 h1 (zpw_sm (n := 18) k0.sm' (by omega) (by decide)) ((zpw_sm (n := 9) k0.sm' (by omega) (by decide)).mul (zpw_sm (n := 9) k0.sm' (by omega) (by decide))) (by first | decide | assumption | omega) (by first | decide | assumption | omega) (zpw_add na _ _),
      c1 29 (.ref 1) (.ref 18) fun w v0 hb h0 => kQSign h0 k0.sm' (by first | decide | assumption | omega)],
     loads := [⟨24, 0, 0, (.ref 0), fun w q h => loadR2_all w q h⟩,
      ⟨24, 0, 1, (.ref 2), fun w q h => loadR2_all w q h⟩,
      ⟨29, 0, 4, (.ref 1), fun w q h => loadQ_all w q h⟩,
      ⟨3, 0, 2, (.ref 4), fun w q h => loadA0 w q h⟩,
      ⟨3, 1, 2, (.ref 10), fun w q h => loadA1 w q h⟩,
      ⟨29, 0, 5, (.ref 3), fun w q h => loadQ_all w q h⟩,
      ⟨29, 0, 9, (.ref 15), fun w q h => loadQ_all w q h⟩,
      ⟨29, 0, 7, (.ref 12), fun w q h => loadQ_all w q h⟩,
      ⟨29, 0, 8, (.ref 13), fun w q h => loadQ_all w q h⟩],
     allocs := [⟨29, 3, _, allocQ_run, allocQ_old⟩],
     stores := [⟨29, 0, 3, (.ref 1), 4, storeQ_zero⟩,
      ⟨29, 0, 3, (.ref 3), 5, storeQ_zero⟩,
      ⟨29, 0, 3, (.ref 7), 6, storeQ_zero⟩,
      ⟨29, 0, 3, (.ref 12), 7, storeQ_zero⟩,
      ⟨29, 0, 3, (.ref 13), 8, storeQ_zero⟩,
      ⟨29, 0, 3, (.ref 15), 9, storeQ_zero⟩],
     idxs := [⟨50, 0, 0, idxA0⟩,
      ⟨50, 1, 1, idxA1⟩] })
    (s := ⟨[(7, (.bool true))], [(3, 0), (4, 1), (5, 2)]⟩) (.ret ⟨[(6, (.bool true))], []⟩) hst (by kernel_rfl) fun a w hst => ret_tmp hst rfl 0 rfl

set_option maxRecDepth 100000 in
theorem QPW_11 {Wb : World} {a : Act} {w : World} {r0 r1 : Raw2} {p0 p1 i k : Int} (k0 : r0.Ok Wb) (k1 : r1.Ok Wb) (_ht : P10 Wb) (ei : p0.tmod 10 = i) (ek : p1.tmod 10 = k) (_bi : -9 ≤ i ∧ i ≤ 9) (_bk : -9 ≤ k ∧ k ≤ 9) (na : r0.rat ≠ 0) (_hi : i < 0) (nb : r1.rat ≠ 0) (hst : St Wb 199 [(7, (eqF (.bool true)))] [(3, (rawB2F r0)), (4, (rawB2F r1)), (5, (arrBF p0 p1))] a w) : Code.wp Tryz.prog qpw_n6 (bodyPost Tryz.prog Tryz.f7 (GivesP (eqF (.bool true)) Wb)) a w := by
  let E : List PF := [(eqF r0.val_), (ratF r0.rat), (eqF r1.val_), (ratF r1.rat), (eqF (.int .i64 p0)), (eqF (.int .i64 (andv p0))), (eqF (.int .i64 (257 + andv p0))), (pairF 0 0), (eqF (.int .i64 (-257 - andv p0))), (eqF (.int .i64 i)), (eqF (.int .i64 p1)), (eqF (.int .i64 k)), (ratF (zpw r0.rat i)), (ratF (zpw r0.rat k)), (eqF (.int .i64 (i + k))), (ratF (zpw r0.rat (i + k))), (ratF (r0.rat * r1.rat)), (ratF (zpw (r0.rat * r1.rat) i)), (ratF (zpw r1.rat i)), (ratF ((zpw r0.rat i) * (zpw r0.rat k))), (ratF ((zpw r0.rat i) * (zpw r1.rat i))), (eqF (.int .i64 (cmpR r0.rat 0)))]
  let EB : List CF := [(rawB2F r0), (rawB2F r1), (arrBF p0 p1), zeroQF, (boxQ r0.rat), (boxQ r1.rat), (boxQF 0 0), (boxQ (zpw r0.rat i)), (boxQ (zpw r0.rat k)), (boxQ (zpw r0.rat (i + k))), (boxQ (zpw (r0.rat * r1.rat) i)), (boxQ (zpw r1.rat i))]
  exact run_out (E := E) (EB := EB) (T :=
   { pures := [p2 (.bin .and 3 3) (.ref 4) (.int .i64 1023) (.ref 5) fun _ _ _ _ _ hx hy => h_and64 rfl hx hy,
      p2 (.bin .add 3 3) (.int .i64 257) (.ref 5) (.ref 6) fun _ _ _ _ _ hx hy => h_add (z := (257 + andv p0)) (by rw [IntKind.wrap_i64]; have := and_range p0; omega) hx hy,
      p2 (.bin .sub 3 3) (.int .i64 (-257)) (.ref 5) (.ref 8) fun _ _ _ _ _ hx hy => h_sub (z := (-257 - andv p0)) (by rw [IntKind.wrap_i64]; have := and_range p0; omega) hx hy,
      p2 (.bin .rem 3 3) (.ref 4) (.int .i64 10) (.ref 9) fun _ _ _ _ _ hx hy => h_rem (z := i) (by decide) ei hx hy,
      p2 (.bin .rem 3 3) (.ref 10) (.int .i64 10) (.ref 11) fun _ _ _ _ _ hx hy => h_rem (z := k) (by decide) ek hx hy,
      p2 (.bin .add 3 3) (.ref 9) (.ref 11) (.ref 14) fun _ _ _ _ _ hx hy => h_add (z := (i + k)) (by rw [IntKind.wrap_i64]; omega) hx hy,
      p2 (.bin .eql 3 3) (.ref 21) (.int .i64 0) (.bool false) fun _ _ _ _ _ hx hy => h_eqlI (r := false) (cmp0_ne na) hx hy],
     calls := [c1 11 (.ref 0) (.ref 1) fun w v0 hb h0 => kMade2 k0 hb h0,
      c1 11 (.ref 2) (.ref 3) fun w v0 hb h0 => kMade2 k1 hb h0,
      c2 40 (.ref 1) (.ref 6) (.tup2 (.ref 7) (.int .i64 1)) fun w v0 v1 hb h0 h1 => kPowF h0 h1 k0.sm' (by decide) (by have := and_range p0; omega) (by have := and_range p0; omega) (by have := and_range p0; omega),
      c2 40 (.ref 1) (.ref 8) (.tup2 (.ref 7) (.int .i64 1)) fun w v0 v1 hb h0 h1 => kPowL h0 h1 k0.sm' (by decide) (by have := and_range p0; omega) (by have := and_range p0; omega) (by have := and_range p0; omega),
      c2 40 (.ref 1) (.ref 9) (.tup2 (.ref 12) (.int .i64 0)) fun w v0 v1 hb h0 h1 => kPowOK (n := 9) h0 h1 k0.sm' (by decide) (by omega) (by decide) (by decide) (.inl na),
      c2 40 (.ref 1) (.ref 11) (.tup2 (.ref 13) (.int .i64 0)) fun w v0 v1 hb h0 h1 => kPowOK (n := 9) h0 h1 k0.sm' (by decide) (by omega) (by decide) (by decide) (.inl na),
      c2 40 (.ref 1) (.ref 14) (.tup2 (.ref 15) (.int .i64 0)) fun w v0 v1 hb h0 h1 => kPowOK (n := 18) h0 h1 k0.sm' (by decide) (by omega) (by decide) (by decide) (.inl na),
      c2 21 (.ref 1) (.ref 3) (.ref 16) fun w v0 v1 hb h0 h1 => kQMul h0 h1 k0.sm' k1.sm' (by first | decide | assumption | omega) (by first | decide | assumption | omega),
      c2 40 (.ref 16) (.ref 9) (.tup2 (.ref 17) (.int .i64 0)) fun w v0 v1 hb h0 h1 => kPowOK (n := 9) h0 h1 (k0.sm'.mul k1.sm') (by decide) (by omega) (by decide) (by decide) (.inl (mul_ne na nb)),
      c2 40 (.ref 3) (.ref 9) (.tup2 (.ref 18) (.int .i64 0)) fun w v0 v1 hb h0 h1 => kPowOK (n := 9) h0 h1 k1.sm' (by decide) (by omega) (by decide) (by decide) (.inl nb),
      c2 21 (.ref 12) (.ref 13) (.ref 19) fun w v0 v1 hb h0 h1 => kQMul h0 h1 (zpw_sm (n := 9) k0.sm' (by omega) (by decide)) (zpw_sm (n := 9) k0.sm' (by omega) (by decide)) (by first | decide | assumption | omega) (by first | decide | assumption | omega),
      c2 16 (.ref 15) (.ref 19) (.bool true) fun w v0 v1 hb h0 h1 => kPSameT h0 h1 (zpw_sm (n := 18) k0.sm' (by omega) (by decide)) ((zpw_sm (n := 9) k0.sm' (by omega) (by decide)).mul (zpw_sm (n := 9) k0.sm' (by omega) (by decide))) (by first | decide | assumption | omega) (by first | decide | assumption | omega) (zpw_add na _ _),
      c2 21 (.ref 12) (.ref 18) (.ref 20) fun w v0 v1 hb h0 h1 => kQMul h0 h1 (zpw_sm (n := 9) k0.sm' (by omega) (by decide)) (zpw_sm (n := 9) k1.sm' (by omega) (by decide)) (by first | decide | assumption | omega) (by first | decide | assumption | omega),
      c2 16 (.ref 17) (.ref 20) (.bool true) fun w v0 v1 hb h0 h1 => kPSameT h0 h1 (zpw_sm (n := 9) (k0.sm'.mul k1.sm') (by omega) (by decide)) ((zpw_sm (n := 9) k0.sm' (by omega) (by decide)).mul (zpw_sm (n := 9) k1.sm' (by omega) (by decide))) (by first | decide | assumption | omega) (by first | decide | assumption | omega) (zpw_mul _ _ _),
      c1 29 (.ref 1) (.ref 21) fun w v0 hb h0 => kQSign h0 k0.sm' (by first | decide | assumption | omega)],
     loads := [⟨24, 0, 0, (.ref 0), fun w q h => loadR2_all w q h⟩,
      ⟨24, 0, 1, (.ref 2), fun w q h => loadR2_all w q h⟩,
      ⟨29, 0, 4, (.ref 1), fun w q h => loadQ_all w q h⟩,
      ⟨3, 0, 2, (.ref 4), fun w q h => loadA0 w q h⟩,
      ⟨3, 1, 2, (.ref 10), fun w q h => loadA1 w q h⟩,
      ⟨29, 0, 5, (.ref 3), fun w q h => loadQ_all w q h⟩,
      ⟨29, 0, 9, (.ref 15), fun w q h => loadQ_all w q h⟩,
      ⟨29, 0, 7, (.ref 12), fun w q h => loadQ_all w q h⟩,
      ⟨29, 0, 8, (.ref 13), fun w q h => loadQ_all w q h⟩,
      ⟨29, 0, 10, (.ref 17), fun w q h => loadQ_all w q h⟩,
      ⟨29, 0, 11, (.ref 18), fun w q h => loadQ_all w q h⟩],
     allocs := [⟨29, 3, _, allocQ_run, allocQ_old⟩],
     stores := [⟨29, 0, 3, (.ref 1), 4, storeQ_zero⟩,
      ⟨29, 0, 3, (.ref 3), 5, storeQ_zero⟩,
      ⟨29, 0, 3, (.ref 7), 6, storeQ_zero⟩,
      ⟨29, 0, 3, (.ref 12), 7, storeQ_zero⟩,
      ⟨29, 0, 3, (.ref 13), 8, storeQ_zero⟩,
      ⟨29, 0, 3, (.ref 15), 9, storeQ_zero⟩,
      ⟨29, 0, 3, (.ref 17), 10, storeQ_zero⟩,
      ⟨29, 0, 3, (.ref 18), 11, storeQ_zero⟩],
     idxs := [⟨50, 0, 0, idxA0⟩,
      ⟨50, 1, 1, idxA1⟩] })
    (s := ⟨[(7, (.bool true))], [(3, 0), (4, 1), (5, 2)]⟩) (.ret ⟨[(6, (.bool true))], []⟩) hst (by kernel_rfl) fun a w hst => ret_tmp hst rfl 0 rfl

set_option maxRecDepth 100000 in
theorem QPW_12 {Wb : World} {a : Act} {w : World} {r0 r1 : Raw2} {p0 p1 i k : Int} (k0 : r0.Ok Wb) (k1 : r1.Ok Wb) (_ht : P10 Wb) (ei : p0.tmod 10 = i) (ek : p1.tmod 10 = k) (_bi : -9 ≤ i ∧ i ≤ 9) (_bk : -9 ≤ k ∧ k ≤ 9) (na : r0.rat ≠ 0) (hi : 0 ≤ i) (hst : St Wb 199 [(7, (eqF (.bool true)))] [(3, (rawB2F r0)), (4, (rawB2F r1)), (5, (arrBF p0 p1))] a w) : Code.wp Tryz.prog qpw_n6 (bodyPost Tryz.prog Tryz.f7 (GivesP (eqF (.bool true)) Wb)) a w := by
  let E : List PF := [(eqF r0.val_), (ratF r0.rat), (eqF r1.val_), (ratF r1.rat), (eqF (.int .i64 p0)), (eqF (.int .i64 (andv p0))), (eqF (.int .i64 (257 + andv p0))), (pairF 0 0), (eqF (.int .i64 (-257 - andv p0))), (eqF (.int .i64 i)), (eqF (.int .i64 p1)), (eqF (.int .i64 k)), (ratF (zpw r0.rat i)), (ratF (zpw r0.rat k)), (eqF (.int .i64 (i + k))), (ratF (zpw r0.rat (i + k))), (ratF (r0.rat * r1.rat)), (ratF (zpw (r0.rat * r1.rat) i)), (ratF (zpw r1.rat i)), (ratF ((zpw r0.rat i) * (zpw r0.rat k))), (ratF ((zpw r0.rat i) * (zpw r1.rat i))), (eqF (.int .i64 (cmpR r0.rat 0)))]
  let EB : List CF := [(rawB2F r0), (rawB2F r1), (arrBF p0 p1), zeroQF, (boxQ r0.rat), (boxQ r1.rat), (boxQF 0 0), (boxQ (zpw r0.rat i)), (boxQ (zpw r0.rat k)), (boxQ (zpw r0.rat (i + k))), (boxQ (zpw (r0.rat * r1.rat) i)), (boxQ (zpw r1.rat i))]
  exact run_out (E := E) (EB := EB) (T :=
   { pures := [p2 (.bin .and 3 3) (.ref 4) (.int .i64 1023) (.ref 5) fun _ _ _ _ _ hx hy => h_and64 rfl hx hy,
      p2 (.bin .add 3 3) (.int .i64 257) (.ref 5) (.ref 6) fun _ _ _ _ _ hx hy => h_add (z := (257 + andv p0)) (by rw [IntKind.wrap_i64]; have := and_range p0; omega) hx hy,
      p2 (.bin .sub 3 3) (.int .i64 (-257)) (.ref 5) (.ref 8) fun _ _ _ _ _ hx hy => h_sub (z := (-257 - andv p0)) (by rw [IntKind.wrap_i64]; have := and_range p0; omega) hx hy,
      p2 (.bin .rem 3 3) (.ref 4) (.int .i64 10) (.ref 9) fun _ _ _ _ _ hx hy => h_rem (z := i) (by decide) ei hx hy,
      p2 (.bin .rem 3 3) (.ref 10) (.int .i64 10) (.ref 11) fun _ _ _ _ _ hx hy => h_rem (z := k) (by decide) ek hx hy,
      p2 (.bin .add 3 3) (.ref 9) (.ref 11) (.ref 14) fun _ _ _ _ _ hx hy => h_add (z := (i + k)) (by rw [IntKind.wrap_i64]; omega) hx hy,
      p2 (.bin .eql 3 3) (.ref 21) (.int .i64 0) (.bool false) fun _ _ _ _ _ hx hy => h_eqlI (r := false) (cmp0_ne na) hx hy],
     calls := [c1 11 (.ref 0) (.ref 1) fun w v0 hb h0 => kMade2 k0 hb h0,
      c1 11 (.ref 2) (.ref 3) fun w v0 hb h0 => kMade2 k1 hb h0,
      c2 40 (.ref 1) (.ref 6) (.tup2 (.ref 7) (.int .i64 1)) fun w v0 v1 hb h0 h1 => kPowF h0 h1 k0.sm' (by decide) (by have := and_range p0; omega) (by have := and_range p0; omega) (by have := and_range p0; omega),
      c2 40 (.ref 1) (.ref 8) (.tup2 (.ref 7) (.int .i64 1)) fun w v0 v1 hb h0 h1 => kPowL h0 h1 k0.sm' (by decide) (by have := and_range p0; omega) (by have := and_range p0; omega) (by have := and_range p0; omega),
      c2 40 (.ref 1) (.ref 9) (.tup2 (.ref 12) (.int .i64 0)) fun w v0 v1 hb h0 h1 => kPowOK (n := 9) h0 h1 k0.sm' (by decide) (by omega) (by decide) (by decide) (.inl na),
      c2 40 (.ref 1) (.ref 11) (.tup2 (.ref 13) (.int .i64 0)) fun w v0 v1 hb h0 h1 => kPowOK (n := 9) h0 h1 k0.sm' (by decide) (by omega) (by decide) (by decide) (.inl na),
      c2 40 (.ref 1) (.ref 14) (.tup2 (.ref 15) (.int .i64 0)) fun w v0 v1 hb h0 h1 => kPowOK (n := 18) h0 h1 k0.sm' (by decide) (by omega) (by decide) (by decide) (.inl na),
      c2 21 (.ref 1) (.ref 3) (.ref 16) fun w v0 v1 hb h0 h1 => kQMul h0 h1 k0.sm' k1.sm' (by first | decide | assumption | omega) (by first | decide | assumption | omega),
      c2 40 (.ref 16) (.ref 9) (.tup2 (.ref 17) (.int .i64 0)) fun w v0 v1 hb h0 h1 => kPowOK (n := 9) h0 h1 (k0.sm'.mul k1.sm') (by decide) (by omega) (by decide) (by decide) (.inr hi),
      c2 40 (.ref 3) (.ref 9) (.tup2 (.ref 18) (.int .i64 0)) fun w v0 v1 hb h0 h1 => kPowOK (n := 9) h0 h1 k1.sm' (by decide) (by omega) (by decide) (by decide) (.inr hi),
      c2 21 (.ref 12) (.ref 13) (.ref 19) fun w v0 v1 hb h0 h1 => kQMul h0 h1 (zpw_sm (n := 9) k0.sm' (by omega) (by decide)) (zpw_sm (n := 9) k0.sm' (by omega) (by decide)) (by first | decide | assumption | omega) (by first | decide | assumption | omega),
      c2 16 (.ref 15) (.ref 19) (.bool true) fun w v0 v1 hb h0 h1 => kPSameT h0 h1 (zpw_sm (n := 18) k0.sm' (by omega) (by decide)) ((zpw_sm (n := 9) k0.sm' (by omega) (by decide)).mul (zpw_sm (n := 9) k0.sm' (by omega) (by decide))) (by first | decide | assumption | omega) (by first | decide | assumption | omega) (zpw_add na _ _),
      c2 21 (.ref 12) (.ref 18) (.ref 20) fun w v0 v1 hb h0 h1 => kQMul h0 h1 (zpw_sm (n := 9) k0.sm' (by omega) (by decide)) (zpw_sm (n := 9) k1.sm' (by omega) (by decide)) (by first | decide | assumption | omega) (by first | decide | assumption | omega),
      c2 16 (.ref 17) (.ref 20) (.bool true) fun w v0 v1 hb h0 h1 => kPSameT h0 h1 (zpw_sm (n := 9) (k0.sm'.mul k1.sm') (by omega) (by decide)) ((zpw_sm (n := 9) k0.sm' (by omega) (by decide)).mul (zpw_sm (n := 9) k1.sm' (by omega) (by decide))) (by first | decide | assumption | omega) (by first | decide | assumption | omega) (zpw_mul _ _ _),
      c1 29 (.ref 1) (.ref 21) fun w v0 hb h0 => kQSign h0 k0.sm' (by first | decide | assumption | omega)],
     loads := [⟨24, 0, 0, (.ref 0), fun w q h => loadR2_all w q h⟩,
      ⟨24, 0, 1, (.ref 2), fun w q h => loadR2_all w q h⟩,
      ⟨29, 0, 4, (.ref 1), fun w q h => loadQ_all w q h⟩,
      ⟨3, 0, 2, (.ref 4), fun w q h => loadA0 w q h⟩,
      ⟨3, 1, 2, (.ref 10), fun w q h => loadA1 w q h⟩,
      ⟨29, 0, 5, (.ref 3), fun w q h => loadQ_all w q h⟩,
      ⟨29, 0, 9, (.ref 15), fun w q h => loadQ_all w q h⟩,
      ⟨29, 0, 7, (.ref 12), fun w q h => loadQ_all w q h⟩,
      ⟨29, 0, 8, (.ref 13), fun w q h => loadQ_all w q h⟩,
      ⟨29, 0, 10, (.ref 17), fun w q h => loadQ_all w q h⟩,
      ⟨29, 0, 11, (.ref 18), fun w q h => loadQ_all w q h⟩],
     allocs := [⟨29, 3, _, allocQ_run, allocQ_old⟩],
     stores := [⟨29, 0, 3, (.ref 1), 4, storeQ_zero⟩,
      ⟨29, 0, 3, (.ref 3), 5, storeQ_zero⟩,
      ⟨29, 0, 3, (.ref 7), 6, storeQ_zero⟩,
      ⟨29, 0, 3, (.ref 12), 7, storeQ_zero⟩,
      ⟨29, 0, 3, (.ref 13), 8, storeQ_zero⟩,
      ⟨29, 0, 3, (.ref 15), 9, storeQ_zero⟩,
      ⟨29, 0, 3, (.ref 17), 10, storeQ_zero⟩,
      ⟨29, 0, 3, (.ref 18), 11, storeQ_zero⟩],
     idxs := [⟨50, 0, 0, idxA0⟩,
      ⟨50, 1, 1, idxA1⟩] })
    (s := ⟨[(7, (.bool true))], [(3, 0), (4, 1), (5, 2)]⟩) (.ret ⟨[(6, (.bool true))], []⟩) hst (by kernel_rfl) fun a w hst => ret_tmp hst rfl 0 rfl
set_option maxRecDepth 100000 in
theorem QPowers_law (r0 r1 : Raw2) (p0 p1 : Int) (W : World) (k0 : r0.Ok W) (k1 : r1.Ok W) (ht : P10 W) (hl0 : -9223372036854775808 ≤ p0) (hl1 : p0 ≤ 9223372036854775807) :
    Calls Tryz.prog 7 #[r0.val_, r1.val_, .agg #[.int .i64 p0, .int .i64 p1]] W (GivesP (eqF (.bool true)) W) := by
  refine calls_stW (S := [(0, (eqF r0.val_)), (1, (eqF r1.val_)), (2, (eqF (.agg #[.int .i64 p0, .int .i64 p1])))]) Tryz.func7 (by kernel_rfl) Tryz.ntmps7 (by simp) (fun x hx => ?_) fun a w hst => ?_
  · simp only [List.mem_cons, List.not_mem_nil, or_false] at hx
    rcases hx with rfl | rfl | rfl
    · exact ⟨_, rfl, rfl⟩
    · exact ⟨_, rfl, rfl⟩
    · exact ⟨_, rfl, rfl⟩
  show Code.wp _ qpw_n0 _ a w
  rw [qpw_e0]
  refine wp_seq ?_
  rw [qpw_e1]
  refine qpw_r0 k0 k1 ht hst ?_
  clear hst
  intro a w hst
  show Code.wp _ qpw_n2 _ a w
  rw [qpw_e2]
  refine wp_seq ?_
  rw [qpw_e3]
  refine qpw_r1 k0 k1 ht hst ?_
  clear hst
  intro a w hst
  show Code.wp _ qpw_n4 _ a w
  rw [qpw_e4]
  refine wp_seq ?_
  rw [qpw_e5]
  refine qpw_r2 k0 k1 ht hst ?_
  clear hst
  intro a w hst
  clear k0 k1
  obtain ⟨r0, r1, k0, k1, hst⟩ := hst.openRaw
  replace hst := hst.to (S' := [(7, (eqF (.bool true)))]) ⟨hst.slots.get (k := 4) rfl, trivial⟩
  obtain ⟨i, ei, bi⟩ := tm10 p0
  obtain ⟨k, ek, bk⟩ := tm10 p1
  rcases Classical.em (r0.rat = 0) with na | na
  · rcases Int.lt_or_le i 0 with hi | hi
    · rcases Int.lt_or_le k 0 with hk | hk
      · have hs : i + k < 0 := by omega
        rcases Classical.em (r1.rat = 0) with nb | nb
        · exact QPW_1 k0 k1 ht ei ek bi bk na hi hk hs nb hst
        · exact QPW_2 k0 k1 ht ei ek bi bk na hi hk hs nb hst
      · rcases Int.lt_or_le (i + k) 0 with hs | hs
        · rcases Classical.em (r1.rat = 0) with nb | nb
          · exact QPW_3 k0 k1 ht ei ek bi bk na hi hk hs nb hst
          · exact QPW_4 k0 k1 ht ei ek bi bk na hi hk hs nb hst
        · rcases Classical.em (r1.rat = 0) with nb | nb
          · exact QPW_5 k0 k1 ht ei ek bi bk na hi hk hs nb hst
          · exact QPW_6 k0 k1 ht ei ek bi bk na hi hk hs nb hst
    · rcases Int.lt_or_le k 0 with hk | hk
      · rcases Int.lt_or_le (i + k) 0 with hs | hs
        · exact QPW_7 k0 k1 ht ei ek bi bk na hi hk hs hst
        · exact QPW_8 k0 k1 ht ei ek bi bk na hi hk hs hst
      · have hs : 0 ≤ i + k := by omega
        exact QPW_9 k0 k1 ht ei ek bi bk na hi hk hs hst
  · rcases Int.lt_or_le i 0 with hi | hi
    · rcases Classical.em (r1.rat = 0) with nb | nb
      · exact QPW_10 k0 k1 ht ei ek bi bk na hi nb hst
      · exact QPW_11 k0 k1 ht ei ek bi bk na hi nb hst
    · exact QPW_12 k0 k1 ht ei ek bi bk na hi hst
end Go.Proofs.YtdofolejfdfocaaGreatDoor
