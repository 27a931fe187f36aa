/- integer.guess (written by wip/tools/gen_guess.py). -/
import Derived.Test.YtjajmonhcnmidaaDoorqOps2
namespace Go.Proofs.YtjajmonhcnmidaaDoor
open Go.RowKit

/-- A guess of Qt that is not too small and whose product with D is at most T. -/
def guessF (Qt D T : Nat) : PF := ⟨fun v _ => ∃ q : Nat, v = .int .u32 (q : Int) ∧ q < 4294967296 ∧ Qt ≤ q ∧ q * D ≤ T, fun _ _ _ _ h => h⟩

noncomputable def gs_n0 : Code := bodyOf Tryd.f81
noncomputable def gs_n1 : Code := cl gs_n0
noncomputable def gs_n2 : Code := cr gs_n0
theorem gs_e0 : gs_n0 = .seq gs_n1 gs_n2 := by kernel_rfl
noncomputable def gs_o0 : Array Oper := opsOf gs_n1
theorem gs_e1 : gs_n1 = .region 0 gs_o0 false := by kernel_rfl
noncomputable def gs_n3 : Code := cl gs_n2
noncomputable def gs_n4 : Code := cr gs_n2
theorem gs_e2 : gs_n2 = .seq gs_n3 gs_n4 := by kernel_rfl
noncomputable def gs_o1 : Array Oper := opsOf gs_n3
theorem gs_e3 : gs_n3 = .region 1 gs_o1 false := by kernel_rfl
noncomputable def gs_n5 : Code := cl gs_n4
noncomputable def gs_n6 : Code := cr gs_n4
theorem gs_e4 : gs_n4 = .seq gs_n5 gs_n6 := by kernel_rfl
noncomputable def gs_o2 : Array Oper := opsOf gs_n5
theorem gs_e5 : gs_n5 = .region 2 gs_o2 true := by kernel_rfl
noncomputable def gs_n7 : Code := cl gs_n6
noncomputable def gs_n8 : Code := cr gs_n6
theorem gs_e6 : gs_n6 = .seq gs_n7 gs_n8 := by kernel_rfl
noncomputable def gs_o3 : Array Oper := opsOf gs_n7
theorem gs_e7 : gs_n7 = .region 3 gs_o3 true := by kernel_rfl
noncomputable def gs_n9 : Code := cl gs_n8
noncomputable def gs_n10 : Code := cr gs_n8
theorem gs_e8 : gs_n8 = .seq gs_n9 gs_n10 := by kernel_rfl
noncomputable def gs_o4 : Array Oper := opsOf gs_n9
theorem gs_e9 : gs_n9 = .region 4 gs_o4 true := by kernel_rfl
noncomputable def gs_n11 : Code := cl gs_n10
noncomputable def gs_n12 : Code := cr gs_n10
theorem gs_e10 : gs_n10 = .seq gs_n11 gs_n12 := by kernel_rfl
noncomputable def gs_n13 : Code := cl gs_n11
theorem gs_e11 : gs_n11 = .block 0 gs_n13 := by kernel_rfl
noncomputable def gs_n14 : Code := cl gs_n13
theorem gs_e13 : gs_n13 = .loop gs_n14 := by kernel_rfl
noncomputable def gs_n15 : Code := cl gs_n14
noncomputable def gs_n16 : Code := cr gs_n14
theorem gs_e14 : gs_n14 = .seq gs_n15 gs_n16 := by kernel_rfl
noncomputable def gs_n17 : Code := cl gs_n15
noncomputable def gs_n18 : Code := cr gs_n15
theorem gs_e15 : gs_n15 = .seq gs_n17 gs_n18 := by kernel_rfl
noncomputable def gs_o5 : Array Oper := opsOf gs_n17
theorem gs_e17 : gs_n17 = .region 5 gs_o5 false := by kernel_rfl
noncomputable def gs_n19 : Code := cl gs_n18
noncomputable def gs_n20 : Code := cr gs_n18
theorem gs_e18 : gs_n18 = .cond (.tmp 60) gs_n19 gs_n20 := by kernel_rfl
theorem gs_e19 : gs_n19 = .skip := by kernel_rfl
theorem gs_e20 : gs_n20 = .exit 0 := by kernel_rfl
noncomputable def gs_n21 : Code := cl gs_n16
theorem gs_e16 : gs_n16 = .block 1 gs_n21 := by kernel_rfl
noncomputable def gs_n22 : Code := cl gs_n21
noncomputable def gs_n23 : Code := cr gs_n21
theorem gs_e21 : gs_n21 = .seq gs_n22 gs_n23 := by kernel_rfl
noncomputable def gs_o6 : Array Oper := opsOf gs_n22
theorem gs_e22 : gs_n22 = .region 6 gs_o6 false := by kernel_rfl
noncomputable def gs_n24 : Code := cl gs_n23
noncomputable def gs_n25 : Code := cr gs_n23
theorem gs_e23 : gs_n23 = .seq gs_n24 gs_n25 := by kernel_rfl
noncomputable def gs_o7 : Array Oper := opsOf gs_n24
theorem gs_e24 : gs_n24 = .region 7 gs_o7 false := by kernel_rfl
noncomputable def gs_n26 : Code := cl gs_n25
noncomputable def gs_n27 : Code := cr gs_n25
theorem gs_e25 : gs_n25 = .seq gs_n26 gs_n27 := by kernel_rfl
noncomputable def gs_o8 : Array Oper := opsOf gs_n26
theorem gs_e26 : gs_n26 = .region 8 gs_o8 false := by kernel_rfl
noncomputable def gs_n28 : Code := cl gs_n27
noncomputable def gs_n29 : Code := cr gs_n27
theorem gs_e27 : gs_n27 = .cond (.tmp 67) gs_n28 gs_n29 := by kernel_rfl
theorem gs_e28 : gs_n28 = .exit 0 := by kernel_rfl
theorem gs_e29 : gs_n29 = .skip := by kernel_rfl
noncomputable def gs_n30 : Code := cl gs_n12
noncomputable def gs_n31 : Code := cr gs_n12
theorem gs_e12 : gs_n12 = .seq gs_n30 gs_n31 := by kernel_rfl
noncomputable def gs_o9 : Array Oper := opsOf gs_n30
theorem gs_e30 : gs_n30 = .region 9 gs_o9 false := by kernel_rfl
theorem gs_e31 : gs_n31 = .ret := by kernel_rfl
set_option maxRecDepth 100000 in
theorem gs_r0 {Q : Exit → Act → World → Prop} {Wb W0 : World} {a0 : Act} {g i n cap cd pn pn1 pn2 d1 d2 t : Nat} {bd : Addr} (_hn : 2 ≤ n) (_hnb : n ≤ 1099511627776) (_cp : Wb.cell? ((⟨g, i, none⟩ : Addr).add n) = some (.int .u32 (pn : Int))) (_cp1 : Wb.cell? ((⟨g, i, none⟩ : Addr).add (n - 1)) = some (.int .u32 (pn1 : Int))) (_cp2 : Wb.cell? ((⟨g, i, none⟩ : Addr).add (n - 2)) = some (.int .u32 (pn2 : Int))) (_cd1 : Wb.cell? (bd.add (n - 1)) = some (.int .u32 (d1 : Int))) (_cd2 : Wb.cell? (bd.add (n - 2)) = some (.int .u32 (d2 : Int))) (_bp : pn < 4294967296) (_bp1 : pn1 < 4294967296) (_bp2 : pn2 < 4294967296) (_bd1 : d1 < 4294967296) (_bd2 : d2 < 4294967296) (_hd : 2147483648 ≤ d1) (_ht : pn * 4294967296 + pn1 = t) (_ht64 : t < 18446744073709551616)  (hst : St Wb 70 [(0, (eqF (.slice (some (⟨g, i, none⟩ : Addr)) (n + 1) cap))), (1, (eqF (.slice (some bd) n cd)))] [] a0 W0)
    (fin : ∀ a w, St Wb 70 [(0, (eqF (.slice (some (⟨g, i, none⟩ : Addr)) (n + 1) cap))), (1, (eqF (.slice (some bd) n cd))), (4, (eqF (.int .u32 0)))] [] a w → Q .normal a w) : (Code.region 0 gs_o0 false).wp Tryd.prog Q a0 W0 := by
  have hP : Plan gs_o0 70 ([] : List BoxS) [] := ⟨by kernel_rfl, by kernel_rfl, by kernel_rfl, by kernel_rfl, by kernel_rfl, by kernel_rfl⟩
  refine region_st (F := [(eqF (.int .u32 0))]) hP hst rfl rfl ?_ ?_ fin
  · show Steps gs_o0 70 Wb W0 a0 _ _ _ 1
    refine steps_snoc (k := 0) ?_ (s_assign (i := 0) hP (g := none) (isOp_of (by kernel_rfl) : IsOp gs_o0 0 none (.assign (.const (.int .u32 0)))) (by kernel_rfl) (by kernel_rfl) (grd_none) (src_const _) rfl)
    exact steps_nil
  · intro m a w hI hm
    exact ⟨(low_fact hst 0 rfl (by kernel_rfl) hI), (low_fact hst 1 rfl (by kernel_rfl) hI), (out_op hI hm 0 4 _ (by kernel_rfl) rfl), trivial⟩
set_option maxRecDepth 100000 in
theorem gs_r1 {Q : Exit → Act → World → Prop} {Wb W0 : World} {a0 : Act} {g i n cap cd pn pn1 pn2 d1 d2 t : Nat} {bd : Addr} (_hn : 2 ≤ n) (_hnb : n ≤ 1099511627776) (_cp : Wb.cell? ((⟨g, i, none⟩ : Addr).add n) = some (.int .u32 (pn : Int))) (_cp1 : Wb.cell? ((⟨g, i, none⟩ : Addr).add (n - 1)) = some (.int .u32 (pn1 : Int))) (_cp2 : Wb.cell? ((⟨g, i, none⟩ : Addr).add (n - 2)) = some (.int .u32 (pn2 : Int))) (_cd1 : Wb.cell? (bd.add (n - 1)) = some (.int .u32 (d1 : Int))) (_cd2 : Wb.cell? (bd.add (n - 2)) = some (.int .u32 (d2 : Int))) (_bp : pn < 4294967296) (_bp1 : pn1 < 4294967296) (_bp2 : pn2 < 4294967296) (_bd1 : d1 < 4294967296) (_bd2 : d2 < 4294967296) (_hd : 2147483648 ≤ d1) (_ht : pn * 4294967296 + pn1 = t) (_ht64 : t < 18446744073709551616)  (hst : St Wb 70 [(0, (eqF (.slice (some (⟨g, i, none⟩ : Addr)) (n + 1) cap))), (1, (eqF (.slice (some bd) n cd))), (4, (eqF (.int .u32 0)))] [] a0 W0)
    (fin : ∀ a w, St Wb 70 [(0, (eqF (.slice (some (⟨g, i, none⟩ : Addr)) (n + 1) cap))), (1, (eqF (.slice (some bd) n cd))), (4, (eqF (.int .u32 0))), (5, (eqF (.int .i64 (n : Int))))] [] a w → Q .normal a w) : (Code.region 1 gs_o1 false).wp Tryd.prog Q a0 W0 := by
  have hP : Plan gs_o1 70 ([] : List BoxS) [] := ⟨by kernel_rfl, by kernel_rfl, by kernel_rfl, by kernel_rfl, by kernel_rfl, by kernel_rfl⟩
  refine region_st (F := [(eqF (.slice (some bd) n cd)), (eqF (.int .i64 (n : Int))), (eqF (.int .i64 (n : Int)))]) hP hst rfl rfl ?_ ?_ fin
  · show Steps gs_o1 70 Wb W0 a0 _ _ _ 3
    refine steps_snoc (k := 2) ?_ (s_assign (i := 2) hP (g := none) (isOp_of (by kernel_rfl) : IsOp gs_o1 2 none (.assign (.tmp 12))) (by kernel_rfl) (by kernel_rfl) (grd_none) (src_op (f := (eqF (.int .i64 (n : Int)))) 1 (by kernel_rfl) (by kernel_rfl) rfl) rfl)
    refine steps_snoc (k := 1) ?_ (s_op1 (i := 1) hP (g := none) (isOp_of (by kernel_rfl) : IsOp gs_o1 1 none (.call { callee := .builtin .len, args := #[.tmp 11], argTypes := #[22] })) (by kernel_rfl) (by kernel_rfl) (grd_none) (src_op (f := (eqF (.slice (some bd) n cd))) 0 (by kernel_rfl) (by kernel_rfl) rfl) (fun ρ w hx => h_len hx) rfl)
    refine steps_snoc (k := 0) ?_ (s_move (i := 0) hP (g := none) (isOp_of (by kernel_rfl) : IsOp gs_o1 0 none (.move (.tmp 1))) (by kernel_rfl) (by kernel_rfl) (grd_none) (src_low hst 1 rfl (by kernel_rfl)) rfl)
    exact steps_nil
  · intro m a w hI hm
    exact ⟨(low_fact hst 0 rfl (by kernel_rfl) hI), (low_fact hst 1 rfl (by kernel_rfl) hI), (low_fact hst 2 rfl (by kernel_rfl) hI), (out_op hI hm 2 5 _ (by kernel_rfl) rfl), trivial⟩
set_option maxRecDepth 100000 in
theorem gs_r2 {Q : Exit → Act → World → Prop} {Wb W0 : World} {a0 : Act} {g i n cap cd pn pn1 pn2 d1 d2 t : Nat} {bd : Addr} (_hn : 2 ≤ n) (_hnb : n ≤ 1099511627776) (cp : Wb.cell? ((⟨g, i, none⟩ : Addr).add n) = some (.int .u32 (pn : Int))) (cp1 : Wb.cell? ((⟨g, i, none⟩ : Addr).add (n - 1)) = some (.int .u32 (pn1 : Int))) (_cp2 : Wb.cell? ((⟨g, i, none⟩ : Addr).add (n - 2)) = some (.int .u32 (pn2 : Int))) (_cd1 : Wb.cell? (bd.add (n - 1)) = some (.int .u32 (d1 : Int))) (_cd2 : Wb.cell? (bd.add (n - 2)) = some (.int .u32 (d2 : Int))) (bp : pn < 4294967296) (bp1 : pn1 < 4294967296) (_bp2 : pn2 < 4294967296) (_bd1 : d1 < 4294967296) (_bd2 : d2 < 4294967296) (_hd : 2147483648 ≤ d1) (ht : pn * 4294967296 + pn1 = t) (_ht64 : t < 18446744073709551616)  (hst : St Wb 70 [(0, (eqF (.slice (some (⟨g, i, none⟩ : Addr)) (n + 1) cap))), (1, (eqF (.slice (some bd) n cd))), (4, (eqF (.int .u32 0))), (5, (eqF (.int .i64 (n : Int))))] [] a0 W0)
    (fin : ∀ a w, St Wb 70 [(0, (eqF (.slice (some (⟨g, i, none⟩ : Addr)) (n + 1) cap))), (1, (eqF (.slice (some bd) n cd))), (4, (eqF (.int .u32 0))), (5, (eqF (.int .i64 (n : Int)))), (6, (eqF (.int .u64 ((t : Int) : Int))))] [] a w → Q .normal a w) : (Code.region 2 gs_o2 true).wp Tryd.prog Q a0 W0 := by
  have hP : Plan gs_o2 70 ([] : List BoxS) [] := ⟨by kernel_rfl, by kernel_rfl, by kernel_rfl, by kernel_rfl, by kernel_rfl, by kernel_rfl⟩
  refine region_st (F := [(eqF (.slice (some (⟨g, i, none⟩ : Addr)) (n + 1) cap)), (eqF (.int .i64 (n : Int))), (eqF (.pointer (some (((⟨g, i, none⟩ : Addr)).add (n))))), (eqF (.int .u32 (pn : Int))), (eqF (.int .u64 (pn : Int))), (eqF (.int .u64 ((pn * 4294967296 : Nat) : Int))), (eqF (.slice (some (⟨g, i, none⟩ : Addr)) (n + 1) cap)), (eqF (.int .i64 (n : Int))), (eqF (.int .i64 ((n - 1 : Nat) : Int))), (eqF (.pointer (some (((⟨g, i, none⟩ : Addr)).add (n - 1))))), (eqF (.int .u32 (pn1 : Int))), (eqF (.int .u64 (pn1 : Int))), (eqF (.int .u64 ((t : Int) : Int))), (eqF (.int .u64 ((t : Int) : Int)))]) hP hst rfl rfl ?_ ?_ fin
  · show Steps gs_o2 70 Wb W0 a0 _ _ _ 14
    refine steps_snoc (k := 13) ?_ (s_assign (i := 13) hP (g := none) (isOp_of (by kernel_rfl) : IsOp gs_o2 13 none (.assign (.tmp 25))) (by kernel_rfl) (by kernel_rfl) (grd_none) (src_op (f := (eqF (.int .u64 ((t : Int) : Int)))) 12 (by kernel_rfl) (by kernel_rfl) rfl) rfl)
    refine steps_snoc (k := 12) ?_ (s_op2 (i := 12) hP (g := none) (isOp_of (by kernel_rfl) : IsOp gs_o2 12 none (.binOp .or 49 (.tmp 18) (.tmp 24) 49)) (by kernel_rfl) (by kernel_rfl) (grd_none) (src_op (f := (eqF (.int .u64 ((pn * 4294967296 : Nat) : Int)))) 5 (by kernel_rfl) (by kernel_rfl) rfl) (src_op (f := (eqF (.int .u64 (pn1 : Int)))) 11 (by kernel_rfl) (by kernel_rfl) rfl) (fun ρ w hx hy => h_or64 (z := ((t : Int) : Int)) (by rw [show ((pn * 4294967296 : Nat) : Int) = (pn : Int) * 4294967296 from by omega, ← ht]; exact or_word pn pn1 bp bp1) hx hy) rfl)
    refine steps_snoc (k := 11) ?_ (s_op1 (i := 11) hP (g := none) (isOp_of (by kernel_rfl) : IsOp gs_o2 11 none (.convert 38 49 (.tmp 23))) (by kernel_rfl) (by kernel_rfl) (grd_none) (src_op (f := (eqF (.int .u32 (pn1 : Int)))) 10 (by kernel_rfl) (by kernel_rfl) rfl) (fun ρ w hx => h_conv32 (by omega) (by omega) hx) rfl)
    refine steps_snoc (k := 10) ?_ (s_loadP (i := 10) hP (g := none) (isOp_of (by kernel_rfl) : IsOp gs_o2 10 none (.load 38 (.tmp 22))) (by kernel_rfl) (by kernel_rfl) (grd_none) (src_op (f := (eqF (.pointer (some (((⟨g, i, none⟩ : Addr)).add (n - 1)))))) 9 (by kernel_rfl) (by kernel_rfl) rfl) cp1 load32_run rfl)
    refine steps_snoc (k := 9) ?_ (s_op2 (i := 9) hP (g := none) (isOp_of (by kernel_rfl) : IsOp gs_o2 9 none (.indexAddr 22 (.tmp 19) (.tmp 21))) (by kernel_rfl) (by kernel_rfl) (grd_none) (src_op (f := (eqF (.slice (some (⟨g, i, none⟩ : Addr)) (n + 1) cap))) 6 (by kernel_rfl) (by kernel_rfl) rfl) (src_op (f := (eqF (.int .i64 ((n - 1 : Nat) : Int)))) 8 (by kernel_rfl) (by kernel_rfl) rfl) (fun ρ w hx hy => h_idx (k := n - 1) (by omega) hx hy) rfl)
    refine steps_snoc (k := 8) ?_ (s_op2 (i := 8) hP (g := none) (isOp_of (by kernel_rfl) : IsOp gs_o2 8 none (.binOp .sub 3 (.tmp 20) (.const (.int .i64 1)) 3)) (by kernel_rfl) (by kernel_rfl) (grd_none) (src_op (f := (eqF (.int .i64 (n : Int)))) 7 (by kernel_rfl) (by kernel_rfl) rfl) (src_const _) (fun ρ w hx hy => h_sub (z := ((n - 1 : Nat) : Int)) (by rw [IntKind.wrap_i64]; omega) hx hy) rfl)
    refine steps_snoc (k := 7) ?_ (s_move (i := 7) hP (g := none) (isOp_of (by kernel_rfl) : IsOp gs_o2 7 none (.move (.tmp 5))) (by kernel_rfl) (by kernel_rfl) (grd_none) (src_low hst 3 rfl (by kernel_rfl)) rfl)
    refine steps_snoc (k := 6) ?_ (s_move (i := 6) hP (g := none) (isOp_of (by kernel_rfl) : IsOp gs_o2 6 none (.move (.tmp 0))) (by kernel_rfl) (by kernel_rfl) (grd_none) (src_low hst 0 rfl (by kernel_rfl)) rfl)
    refine steps_snoc (k := 5) ?_ (s_op2 (i := 5) hP (g := none) (isOp_of (by kernel_rfl) : IsOp gs_o2 5 none (.binOp .shl 49 (.tmp 17) (.const (.int .u64 32)) 67)) (by kernel_rfl) (by kernel_rfl) (grd_none) (src_op (f := (eqF (.int .u64 (pn : Int)))) 4 (by kernel_rfl) (by kernel_rfl) rfl) (src_const _) (fun ρ w hx hy => h_shl32 (z := ((pn * 4294967296 : Nat) : Int)) (by rw [IntKind.wrap_u64]; omega) hx hy) rfl)
    refine steps_snoc (k := 4) ?_ (s_op1 (i := 4) hP (g := none) (isOp_of (by kernel_rfl) : IsOp gs_o2 4 none (.convert 38 49 (.tmp 16))) (by kernel_rfl) (by kernel_rfl) (grd_none) (src_op (f := (eqF (.int .u32 (pn : Int)))) 3 (by kernel_rfl) (by kernel_rfl) rfl) (fun ρ w hx => h_conv32 (by omega) (by omega) hx) rfl)
    refine steps_snoc (k := 3) ?_ (s_loadP (i := 3) hP (g := none) (isOp_of (by kernel_rfl) : IsOp gs_o2 3 none (.load 38 (.tmp 15))) (by kernel_rfl) (by kernel_rfl) (grd_none) (src_op (f := (eqF (.pointer (some (((⟨g, i, none⟩ : Addr)).add (n)))))) 2 (by kernel_rfl) (by kernel_rfl) rfl) cp load32_run rfl)
    refine steps_snoc (k := 2) ?_ (s_op2 (i := 2) hP (g := none) (isOp_of (by kernel_rfl) : IsOp gs_o2 2 none (.indexAddr 22 (.tmp 13) (.tmp 14))) (by kernel_rfl) (by kernel_rfl) (grd_none) (src_op (f := (eqF (.slice (some (⟨g, i, none⟩ : Addr)) (n + 1) cap))) 0 (by kernel_rfl) (by kernel_rfl) rfl) (src_op (f := (eqF (.int .i64 (n : Int)))) 1 (by kernel_rfl) (by kernel_rfl) rfl) (fun ρ w hx hy => h_idx (k := n) (by omega) hx hy) rfl)
    refine steps_snoc (k := 1) ?_ (s_move (i := 1) hP (g := none) (isOp_of (by kernel_rfl) : IsOp gs_o2 1 none (.move (.tmp 5))) (by kernel_rfl) (by kernel_rfl) (grd_none) (src_low hst 3 rfl (by kernel_rfl)) rfl)
    refine steps_snoc (k := 0) ?_ (s_move (i := 0) hP (g := none) (isOp_of (by kernel_rfl) : IsOp gs_o2 0 none (.move (.tmp 0))) (by kernel_rfl) (by kernel_rfl) (grd_none) (src_low hst 0 rfl (by kernel_rfl)) rfl)
    exact steps_nil
  · intro m a w hI hm
    exact ⟨(low_fact hst 0 rfl (by kernel_rfl) hI), (low_fact hst 1 rfl (by kernel_rfl) hI), (low_fact hst 2 rfl (by kernel_rfl) hI), (low_fact hst 3 rfl (by kernel_rfl) hI), (out_op hI hm 13 6 _ (by kernel_rfl) rfl), trivial⟩
set_option maxRecDepth 100000 in
theorem gs_r3 {Q : Exit → Act → World → Prop} {Wb W0 : World} {a0 : Act} {g i n cap cd pn pn1 pn2 d1 d2 t : Nat} {bd : Addr} (_hn : 2 ≤ n) (_hnb : n ≤ 1099511627776) (_cp : Wb.cell? ((⟨g, i, none⟩ : Addr).add n) = some (.int .u32 (pn : Int))) (_cp1 : Wb.cell? ((⟨g, i, none⟩ : Addr).add (n - 1)) = some (.int .u32 (pn1 : Int))) (_cp2 : Wb.cell? ((⟨g, i, none⟩ : Addr).add (n - 2)) = some (.int .u32 (pn2 : Int))) (cd1 : Wb.cell? (bd.add (n - 1)) = some (.int .u32 (d1 : Int))) (cd2 : Wb.cell? (bd.add (n - 2)) = some (.int .u32 (d2 : Int))) (_bp : pn < 4294967296) (_bp1 : pn1 < 4294967296) (_bp2 : pn2 < 4294967296) (_bd1 : d1 < 4294967296) (_bd2 : d2 < 4294967296) (_hd : 2147483648 ≤ d1) (_ht : pn * 4294967296 + pn1 = t) (_ht64 : t < 18446744073709551616)  (hst : St Wb 70 [(0, (eqF (.slice (some (⟨g, i, none⟩ : Addr)) (n + 1) cap))), (1, (eqF (.slice (some bd) n cd))), (4, (eqF (.int .u32 0))), (5, (eqF (.int .i64 (n : Int)))), (6, (eqF (.int .u64 ((t : Int) : Int))))] [] a0 W0)
    (fin : ∀ a w, St Wb 70 [(0, (eqF (.slice (some (⟨g, i, none⟩ : Addr)) (n + 1) cap))), (1, (eqF (.slice (some bd) n cd))), (4, (eqF (.int .u32 0))), (5, (eqF (.int .i64 (n : Int)))), (6, (eqF (.int .u64 ((t : Int) : Int)))), (7, (eqF (.int .u64 (d1 : Int)))), (8, (eqF (.int .u64 (d2 : Int))))] [] a w → Q .normal a w) : (Code.region 3 gs_o3 true).wp Tryd.prog Q a0 W0 := by
  have hP : Plan gs_o3 70 ([] : List BoxS) [] := ⟨by kernel_rfl, by kernel_rfl, by kernel_rfl, by kernel_rfl, by kernel_rfl, by kernel_rfl⟩
  refine region_st (F := [(eqF (.slice (some bd) n cd)), (eqF (.int .i64 (n : Int))), (eqF (.int .i64 ((n - 1 : Nat) : Int))), (eqF (.pointer (some ((bd).add (n - 1))))), (eqF (.int .u32 (d1 : Int))), (eqF (.int .u64 (d1 : Int))), (eqF (.slice (some bd) n cd)), (eqF (.int .i64 (n : Int))), (eqF (.int .i64 ((n - 2 : Nat) : Int))), (eqF (.pointer (some ((bd).add (n - 2))))), (eqF (.int .u32 (d2 : Int))), (eqF (.int .u64 (d2 : Int))), (eqF (.int .u64 (d1 : Int))), (eqF (.int .u64 (d2 : Int)))]) hP hst rfl rfl ?_ ?_ fin
  · show Steps gs_o3 70 Wb W0 a0 _ _ _ 14
    refine steps_snoc (k := 13) ?_ (s_assign (i := 13) hP (g := none) (isOp_of (by kernel_rfl) : IsOp gs_o3 13 none (.assign (.tmp 37))) (by kernel_rfl) (by kernel_rfl) (grd_none) (src_op (f := (eqF (.int .u64 (d2 : Int)))) 11 (by kernel_rfl) (by kernel_rfl) rfl) rfl)
    refine steps_snoc (k := 12) ?_ (s_assign (i := 12) hP (g := none) (isOp_of (by kernel_rfl) : IsOp gs_o3 12 none (.assign (.tmp 31))) (by kernel_rfl) (by kernel_rfl) (grd_none) (src_op (f := (eqF (.int .u64 (d1 : Int)))) 5 (by kernel_rfl) (by kernel_rfl) rfl) rfl)
    refine steps_snoc (k := 11) ?_ (s_op1 (i := 11) hP (g := none) (isOp_of (by kernel_rfl) : IsOp gs_o3 11 none (.convert 38 49 (.tmp 36))) (by kernel_rfl) (by kernel_rfl) (grd_none) (src_op (f := (eqF (.int .u32 (d2 : Int)))) 10 (by kernel_rfl) (by kernel_rfl) rfl) (fun ρ w hx => h_conv32 (by omega) (by omega) hx) rfl)
    refine steps_snoc (k := 10) ?_ (s_loadP (i := 10) hP (g := none) (isOp_of (by kernel_rfl) : IsOp gs_o3 10 none (.load 38 (.tmp 35))) (by kernel_rfl) (by kernel_rfl) (grd_none) (src_op (f := (eqF (.pointer (some ((bd).add (n - 2)))))) 9 (by kernel_rfl) (by kernel_rfl) rfl) cd2 load32_run rfl)
    refine steps_snoc (k := 9) ?_ (s_op2 (i := 9) hP (g := none) (isOp_of (by kernel_rfl) : IsOp gs_o3 9 none (.indexAddr 22 (.tmp 32) (.tmp 34))) (by kernel_rfl) (by kernel_rfl) (grd_none) (src_op (f := (eqF (.slice (some bd) n cd))) 6 (by kernel_rfl) (by kernel_rfl) rfl) (src_op (f := (eqF (.int .i64 ((n - 2 : Nat) : Int)))) 8 (by kernel_rfl) (by kernel_rfl) rfl) (fun ρ w hx hy => h_idx (k := n - 2) (by omega) hx hy) rfl)
    refine steps_snoc (k := 8) ?_ (s_op2 (i := 8) hP (g := none) (isOp_of (by kernel_rfl) : IsOp gs_o3 8 none (.binOp .sub 3 (.tmp 33) (.const (.int .i64 2)) 3)) (by kernel_rfl) (by kernel_rfl) (grd_none) (src_op (f := (eqF (.int .i64 (n : Int)))) 7 (by kernel_rfl) (by kernel_rfl) rfl) (src_const _) (fun ρ w hx hy => h_sub (z := ((n - 2 : Nat) : Int)) (by rw [IntKind.wrap_i64]; omega) hx hy) rfl)
    refine steps_snoc (k := 7) ?_ (s_move (i := 7) hP (g := none) (isOp_of (by kernel_rfl) : IsOp gs_o3 7 none (.move (.tmp 5))) (by kernel_rfl) (by kernel_rfl) (grd_none) (src_low hst 3 rfl (by kernel_rfl)) rfl)
    refine steps_snoc (k := 6) ?_ (s_move (i := 6) hP (g := none) (isOp_of (by kernel_rfl) : IsOp gs_o3 6 none (.move (.tmp 1))) (by kernel_rfl) (by kernel_rfl) (grd_none) (src_low hst 1 rfl (by kernel_rfl)) rfl)
    refine steps_snoc (k := 5) ?_ (s_op1 (i := 5) hP (g := none) (isOp_of (by kernel_rfl) : IsOp gs_o3 5 none (.convert 38 49 (.tmp 30))) (by kernel_rfl) (by kernel_rfl) (grd_none) (src_op (f := (eqF (.int .u32 (d1 : Int)))) 4 (by kernel_rfl) (by kernel_rfl) rfl) (fun ρ w hx => h_conv32 (by omega) (by omega) hx) rfl)
    refine steps_snoc (k := 4) ?_ (s_loadP (i := 4) hP (g := none) (isOp_of (by kernel_rfl) : IsOp gs_o3 4 none (.load 38 (.tmp 29))) (by kernel_rfl) (by kernel_rfl) (grd_none) (src_op (f := (eqF (.pointer (some ((bd).add (n - 1)))))) 3 (by kernel_rfl) (by kernel_rfl) rfl) cd1 load32_run rfl)
    refine steps_snoc (k := 3) ?_ (s_op2 (i := 3) hP (g := none) (isOp_of (by kernel_rfl) : IsOp gs_o3 3 none (.indexAddr 22 (.tmp 26) (.tmp 28))) (by kernel_rfl) (by kernel_rfl) (grd_none) (src_op (f := (eqF (.slice (some bd) n cd))) 0 (by kernel_rfl) (by kernel_rfl) rfl) (src_op (f := (eqF (.int .i64 ((n - 1 : Nat) : Int)))) 2 (by kernel_rfl) (by kernel_rfl) rfl) (fun ρ w hx hy => h_idx (k := n - 1) (by omega) hx hy) rfl)
    refine steps_snoc (k := 2) ?_ (s_op2 (i := 2) hP (g := none) (isOp_of (by kernel_rfl) : IsOp gs_o3 2 none (.binOp .sub 3 (.tmp 27) (.const (.int .i64 1)) 3)) (by kernel_rfl) (by kernel_rfl) (grd_none) (src_op (f := (eqF (.int .i64 (n : Int)))) 1 (by kernel_rfl) (by kernel_rfl) rfl) (src_const _) (fun ρ w hx hy => h_sub (z := ((n - 1 : Nat) : Int)) (by rw [IntKind.wrap_i64]; omega) hx hy) rfl)
    refine steps_snoc (k := 1) ?_ (s_move (i := 1) hP (g := none) (isOp_of (by kernel_rfl) : IsOp gs_o3 1 none (.move (.tmp 5))) (by kernel_rfl) (by kernel_rfl) (grd_none) (src_low hst 3 rfl (by kernel_rfl)) rfl)
    refine steps_snoc (k := 0) ?_ (s_move (i := 0) hP (g := none) (isOp_of (by kernel_rfl) : IsOp gs_o3 0 none (.move (.tmp 1))) (by kernel_rfl) (by kernel_rfl) (grd_none) (src_low hst 1 rfl (by kernel_rfl)) rfl)
    exact steps_nil
  · intro m a w hI hm
    exact ⟨(low_fact hst 0 rfl (by kernel_rfl) hI), (low_fact hst 1 rfl (by kernel_rfl) hI), (low_fact hst 2 rfl (by kernel_rfl) hI), (low_fact hst 3 rfl (by kernel_rfl) hI), (low_fact hst 4 rfl (by kernel_rfl) hI), (out_op hI hm 12 7 _ (by kernel_rfl) rfl), (out_op hI hm 13 8 _ (by kernel_rfl) rfl), trivial⟩
set_option maxRecDepth 100000 in
theorem gs_r4 {Q : Exit → Act → World → Prop} {Wb W0 : World} {a0 : Act} {g i n cap cd pn pn1 pn2 d1 d2 t : Nat} {bd : Addr} (_hn : 2 ≤ n) (_hnb : n ≤ 1099511627776) (_cp : Wb.cell? ((⟨g, i, none⟩ : Addr).add n) = some (.int .u32 (pn : Int))) (_cp1 : Wb.cell? ((⟨g, i, none⟩ : Addr).add (n - 1)) = some (.int .u32 (pn1 : Int))) (_cp2 : Wb.cell? ((⟨g, i, none⟩ : Addr).add (n - 2)) = some (.int .u32 (pn2 : Int))) (_cd1 : Wb.cell? (bd.add (n - 1)) = some (.int .u32 (d1 : Int))) (_cd2 : Wb.cell? (bd.add (n - 2)) = some (.int .u32 (d2 : Int))) (_bp : pn < 4294967296) (_bp1 : pn1 < 4294967296) (_bp2 : pn2 < 4294967296) (_bd1 : d1 < 4294967296) (_bd2 : d2 < 4294967296) (_hd : 2147483648 ≤ d1) (_ht : pn * 4294967296 + pn1 = t) (ht64 : t < 18446744073709551616)  (hst : St Wb 70 [(0, (eqF (.slice (some (⟨g, i, none⟩ : Addr)) (n + 1) cap))), (1, (eqF (.slice (some bd) n cd))), (4, (eqF (.int .u32 0))), (5, (eqF (.int .i64 (n : Int)))), (6, (eqF (.int .u64 ((t : Int) : Int)))), (7, (eqF (.int .u64 (d1 : Int)))), (8, (eqF (.int .u64 (d2 : Int))))] [] a0 W0)
    (fin : ∀ a w, St Wb 70 [(0, (eqF (.slice (some (⟨g, i, none⟩ : Addr)) (n + 1) cap))), (1, (eqF (.slice (some bd) n cd))), (4, (eqF (.int .u32 0))), (5, (eqF (.int .i64 (n : Int)))), (6, (eqF (.int .u64 ((t : Int) : Int)))), (7, (eqF (.int .u64 (d1 : Int)))), (8, (eqF (.int .u64 (d2 : Int)))), (9, (eqF (.int .u64 ((t / d1 : Nat) : Int)))), (10, (eqF (.int .u64 ((t % d1 : Nat) : Int))))] [] a w → Q .normal a w) : (Code.region 4 gs_o4 true).wp Tryd.prog Q a0 W0 := by
  have hP : Plan gs_o4 70 ([] : List BoxS) [] := ⟨by kernel_rfl, by kernel_rfl, by kernel_rfl, by kernel_rfl, by kernel_rfl, by kernel_rfl⟩
  refine region_st (F := [(eqF (.int .u64 ((t : Int) : Int))), (eqF (.int .u64 (d1 : Int))), (eqF (.int .u64 ((t / d1 : Nat) : Int))), (eqF (.int .u64 ((t : Int) : Int))), (eqF (.int .u64 (d1 : Int))), (eqF (.int .u64 ((t % d1 : Nat) : Int))), (eqF (.int .u64 ((t / d1 : Nat) : Int))), (eqF (.int .u64 ((t % d1 : Nat) : Int)))]) hP hst rfl rfl ?_ ?_ fin
  · show Steps gs_o4 70 Wb W0 a0 _ _ _ 8
    refine steps_snoc (k := 7) ?_ (s_assign (i := 7) hP (g := none) (isOp_of (by kernel_rfl) : IsOp gs_o4 7 none (.assign (.tmp 43))) (by kernel_rfl) (by kernel_rfl) (grd_none) (src_op (f := (eqF (.int .u64 ((t % d1 : Nat) : Int)))) 5 (by kernel_rfl) (by kernel_rfl) rfl) rfl)
    refine steps_snoc (k := 6) ?_ (s_assign (i := 6) hP (g := none) (isOp_of (by kernel_rfl) : IsOp gs_o4 6 none (.assign (.tmp 40))) (by kernel_rfl) (by kernel_rfl) (grd_none) (src_op (f := (eqF (.int .u64 ((t / d1 : Nat) : Int)))) 2 (by kernel_rfl) (by kernel_rfl) rfl) rfl)
    refine steps_snoc (k := 5) ?_ (s_op2 (i := 5) hP (g := none) (isOp_of (by kernel_rfl) : IsOp gs_o4 5 none (.binOp .rem 49 (.tmp 41) (.tmp 42) 49)) (by kernel_rfl) (by kernel_rfl) (grd_none) (src_op (f := (eqF (.int .u64 ((t : Int) : Int)))) 3 (by kernel_rfl) (by kernel_rfl) rfl) (src_op (f := (eqF (.int .u64 (d1 : Int)))) 4 (by kernel_rfl) (by kernel_rfl) rfl) (fun ρ w hx hy => h_rem (by omega) (z := ((t % d1 : Nat) : Int)) (by rw [Int.tmod_eq_emod_of_nonneg (by omega), ← Int.natCast_emod]) hx hy) rfl)
    refine steps_snoc (k := 4) ?_ (s_move (i := 4) hP (g := none) (isOp_of (by kernel_rfl) : IsOp gs_o4 4 none (.move (.tmp 7))) (by kernel_rfl) (by kernel_rfl) (grd_none) (src_low hst 5 rfl (by kernel_rfl)) rfl)
    refine steps_snoc (k := 3) ?_ (s_move (i := 3) hP (g := none) (isOp_of (by kernel_rfl) : IsOp gs_o4 3 none (.move (.tmp 6))) (by kernel_rfl) (by kernel_rfl) (grd_none) (src_low hst 4 rfl (by kernel_rfl)) rfl)
    refine steps_snoc (k := 2) ?_ (s_op2 (i := 2) hP (g := none) (isOp_of (by kernel_rfl) : IsOp gs_o4 2 none (.binOp .quo 49 (.tmp 38) (.tmp 39) 49)) (by kernel_rfl) (by kernel_rfl) (grd_none) (src_op (f := (eqF (.int .u64 ((t : Int) : Int)))) 0 (by kernel_rfl) (by kernel_rfl) rfl) (src_op (f := (eqF (.int .u64 (d1 : Int)))) 1 (by kernel_rfl) (by kernel_rfl) rfl) (fun ρ w hx hy => h_quo64 (by omega) (z := ((t / d1 : Nat) : Int)) (by rw [Int.tdiv_eq_ediv_of_nonneg (by omega), ← Int.natCast_ediv]; exact wrap_u64_nat _ (Nat.lt_of_le_of_lt (Nat.div_le_self _ _) ht64)) hx hy) rfl)
    refine steps_snoc (k := 1) ?_ (s_move (i := 1) hP (g := none) (isOp_of (by kernel_rfl) : IsOp gs_o4 1 none (.move (.tmp 7))) (by kernel_rfl) (by kernel_rfl) (grd_none) (src_low hst 5 rfl (by kernel_rfl)) rfl)
    refine steps_snoc (k := 0) ?_ (s_move (i := 0) hP (g := none) (isOp_of (by kernel_rfl) : IsOp gs_o4 0 none (.move (.tmp 6))) (by kernel_rfl) (by kernel_rfl) (grd_none) (src_low hst 4 rfl (by kernel_rfl)) rfl)
    exact steps_nil
  · intro m a w hI hm
    exact ⟨(low_fact hst 0 rfl (by kernel_rfl) hI), (low_fact hst 1 rfl (by kernel_rfl) hI), (low_fact hst 2 rfl (by kernel_rfl) hI), (low_fact hst 3 rfl (by kernel_rfl) hI), (low_fact hst 4 rfl (by kernel_rfl) hI), (low_fact hst 5 rfl (by kernel_rfl) hI), (low_fact hst 6 rfl (by kernel_rfl) hI), (out_op hI hm 6 9 _ (by kernel_rfl) rfl), (out_op hI hm 7 10 _ (by kernel_rfl) rfl), trivial⟩
set_option maxRecDepth 100000 in
theorem gs_r5 {Q : Exit → Act → World → Prop} {Wb W0 : World} {a0 : Act} {g i n cap cd pn pn1 pn2 d1 d2 t : Nat} {bd : Addr} (_hn : 2 ≤ n) (_hnb : n ≤ 1099511627776) (_cp : Wb.cell? ((⟨g, i, none⟩ : Addr).add n) = some (.int .u32 (pn : Int))) (_cp1 : Wb.cell? ((⟨g, i, none⟩ : Addr).add (n - 1)) = some (.int .u32 (pn1 : Int))) (_cp2 : Wb.cell? ((⟨g, i, none⟩ : Addr).add (n - 2)) = some (.int .u32 (pn2 : Int))) (_cd1 : Wb.cell? (bd.add (n - 1)) = some (.int .u32 (d1 : Int))) (_cd2 : Wb.cell? (bd.add (n - 2)) = some (.int .u32 (d2 : Int))) (_bp : pn < 4294967296) (_bp1 : pn1 < 4294967296) (_bp2 : pn2 < 4294967296) (_bd1 : d1 < 4294967296) (_bd2 : d2 < 4294967296) (_hd : 2147483648 ≤ d1) (_ht : pn * 4294967296 + pn1 = t) (_ht64 : t < 18446744073709551616) {q r : Nat} (_hq0 : 0 < q) (_hq1 : q ≤ 4294967297) (_hr : r ≤ 4294967295) (_c1 : 4294967295 < q) (_hbk : 4294967295 < r + d1) (hst : St Wb 70 [(0, (eqF (.slice (some (⟨g, i, none⟩ : Addr)) (n + 1) cap))), (1, (eqF (.slice (some bd) n cd))), (4, (eqF (.int .u32 0))), (5, (eqF (.int .i64 (n : Int)))), (6, (eqF (.int .u64 ((t : Int) : Int)))), (7, (eqF (.int .u64 (d1 : Int)))), (8, (eqF (.int .u64 (d2 : Int)))), (9, (eqF (.int .u64 (q : Int)))), (10, (eqF (.int .u64 (r : Int))))] [] a0 W0)
    (fin : ∀ a w, St Wb 70 [(0, (eqF (.slice (some (⟨g, i, none⟩ : Addr)) (n + 1) cap))), (1, (eqF (.slice (some bd) n cd))), (4, (eqF (.int .u32 0))), (5, (eqF (.int .i64 (n : Int)))), (6, (eqF (.int .u64 ((t : Int) : Int)))), (7, (eqF (.int .u64 (d1 : Int)))), (8, (eqF (.int .u64 (d2 : Int)))), (9, (eqF (.int .u64 (q : Int)))), (10, (eqF (.int .u64 (r : Int)))), (60, (eqF (.bool true)))] [] a w → Q .normal a w) : (Code.region 5 gs_o5 false).wp Tryd.prog Q a0 W0 := by
  have hP : Plan gs_o5 70 ([] : List BoxS) [] := ⟨by kernel_rfl, by kernel_rfl, by kernel_rfl, by kernel_rfl, by kernel_rfl, by kernel_rfl⟩
  refine region_st (F := [(eqF (.int .u64 (q : Int))), (eqF (.bool true)), (eqF (.bool true)), anyF, anyF, anyF, anyF, anyF, anyF, anyF, anyF, anyF, anyF, anyF, anyF, anyF, (eqF (.bool true))]) hP hst rfl rfl ?_ ?_ fin
  · show Steps gs_o5 70 Wb W0 a0 _ _ _ 17
    refine steps_snoc (k := 16) ?_ (s_pickT (i := 16) hP (g := none) (isOp_of (by kernel_rfl) : IsOp gs_o5 16 none (.pick (.tmp 46) (.const (.bool true)) (.tmp 59))) (by kernel_rfl) (by kernel_rfl) (grd_none) (src_op (f := (eqF (.bool true))) 2 (by kernel_rfl) (by kernel_rfl) rfl) (src_const _) rfl)
    refine steps_snoc (k := 15) ?_ (s_skip (i := 15) hP (g := (some (2, false))) (isOp_of (by kernel_rfl) : IsOp gs_o5 15 (some (2, false)) (.binOp .gtr 49 (.tmp 49) (.tmp 58) 49)) (by kernel_rfl) (by kernel_rfl) (grd_op (d := 46) (by kernel_rfl) (by kernel_rfl) rfl rfl) rfl)
    refine steps_snoc (k := 14) ?_ (s_skip (i := 14) hP (g := (some (2, false))) (isOp_of (by kernel_rfl) : IsOp gs_o5 14 (some (2, false)) (.binOp .or 49 (.tmp 51) (.tmp 57) 49)) (by kernel_rfl) (by kernel_rfl) (grd_op (d := 46) (by kernel_rfl) (by kernel_rfl) rfl rfl) rfl)
    refine steps_snoc (k := 13) ?_ (s_skip (i := 13) hP (g := (some (2, false))) (isOp_of (by kernel_rfl) : IsOp gs_o5 13 (some (2, false)) (.convert 38 49 (.tmp 56))) (by kernel_rfl) (by kernel_rfl) (grd_op (d := 46) (by kernel_rfl) (by kernel_rfl) rfl rfl) rfl)
    refine steps_snoc (k := 12) ?_ (s_skip (i := 12) hP (g := (some (2, false))) (isOp_of (by kernel_rfl) : IsOp gs_o5 12 (some (2, false)) (.load 38 (.tmp 55))) (by kernel_rfl) (by kernel_rfl) (grd_op (d := 46) (by kernel_rfl) (by kernel_rfl) rfl rfl) rfl)
    refine steps_snoc (k := 11) ?_ (s_skip (i := 11) hP (g := (some (2, false))) (isOp_of (by kernel_rfl) : IsOp gs_o5 11 (some (2, false)) (.indexAddr 22 (.tmp 52) (.tmp 54))) (by kernel_rfl) (by kernel_rfl) (grd_op (d := 46) (by kernel_rfl) (by kernel_rfl) rfl rfl) rfl)
    refine steps_snoc (k := 10) ?_ (s_skip (i := 10) hP (g := (some (2, false))) (isOp_of (by kernel_rfl) : IsOp gs_o5 10 (some (2, false)) (.binOp .sub 3 (.tmp 53) (.const (.int .i64 2)) 3)) (by kernel_rfl) (by kernel_rfl) (grd_op (d := 46) (by kernel_rfl) (by kernel_rfl) rfl rfl) rfl)
    refine steps_snoc (k := 9) ?_ (s_skip (i := 9) hP (g := (some (2, false))) (isOp_of (by kernel_rfl) : IsOp gs_o5 9 (some (2, false)) (.move (.tmp 5))) (by kernel_rfl) (by kernel_rfl) (grd_op (d := 46) (by kernel_rfl) (by kernel_rfl) rfl rfl) rfl)
    refine steps_snoc (k := 8) ?_ (s_skip (i := 8) hP (g := (some (2, false))) (isOp_of (by kernel_rfl) : IsOp gs_o5 8 (some (2, false)) (.move (.tmp 0))) (by kernel_rfl) (by kernel_rfl) (grd_op (d := 46) (by kernel_rfl) (by kernel_rfl) rfl rfl) rfl)
    refine steps_snoc (k := 7) ?_ (s_skip (i := 7) hP (g := (some (2, false))) (isOp_of (by kernel_rfl) : IsOp gs_o5 7 (some (2, false)) (.binOp .shl 49 (.tmp 50) (.const (.int .u64 32)) 67)) (by kernel_rfl) (by kernel_rfl) (grd_op (d := 46) (by kernel_rfl) (by kernel_rfl) rfl rfl) rfl)
    refine steps_snoc (k := 6) ?_ (s_skip (i := 6) hP (g := (some (2, false))) (isOp_of (by kernel_rfl) : IsOp gs_o5 6 (some (2, false)) (.move (.tmp 10))) (by kernel_rfl) (by kernel_rfl) (grd_op (d := 46) (by kernel_rfl) (by kernel_rfl) rfl rfl) rfl)
    refine steps_snoc (k := 5) ?_ (s_skip (i := 5) hP (g := (some (2, false))) (isOp_of (by kernel_rfl) : IsOp gs_o5 5 (some (2, false)) (.binOp .mul 49 (.tmp 47) (.tmp 48) 49)) (by kernel_rfl) (by kernel_rfl) (grd_op (d := 46) (by kernel_rfl) (by kernel_rfl) rfl rfl) rfl)
    refine steps_snoc (k := 4) ?_ (s_skip (i := 4) hP (g := (some (2, false))) (isOp_of (by kernel_rfl) : IsOp gs_o5 4 (some (2, false)) (.move (.tmp 8))) (by kernel_rfl) (by kernel_rfl) (grd_op (d := 46) (by kernel_rfl) (by kernel_rfl) rfl rfl) rfl)
    refine steps_snoc (k := 3) ?_ (s_skip (i := 3) hP (g := (some (2, false))) (isOp_of (by kernel_rfl) : IsOp gs_o5 3 (some (2, false)) (.move (.tmp 9))) (by kernel_rfl) (by kernel_rfl) (grd_op (d := 46) (by kernel_rfl) (by kernel_rfl) rfl rfl) rfl)
    refine steps_snoc (k := 2) ?_ (s_move (i := 2) hP (g := none) (isOp_of (by kernel_rfl) : IsOp gs_o5 2 none (.move (.tmp 45))) (by kernel_rfl) (by kernel_rfl) (grd_none) (src_op (f := (eqF (.bool true))) 1 (by kernel_rfl) (by kernel_rfl) rfl) rfl)
    refine steps_snoc (k := 1) ?_ (s_op2 (i := 1) hP (g := none) (isOp_of (by kernel_rfl) : IsOp gs_o5 1 none (.binOp .gtr 49 (.tmp 44) (.const (.int .u64 4294967295)) 49)) (by kernel_rfl) (by kernel_rfl) (grd_none) (src_op (f := (eqF (.int .u64 (q : Int)))) 0 (by kernel_rfl) (by kernel_rfl) rfl) (src_const _) (fun ρ w hx hy => h_gtr (r := true) (by simp; omega) hx hy) rfl)
    refine steps_snoc (k := 0) ?_ (s_move (i := 0) hP (g := none) (isOp_of (by kernel_rfl) : IsOp gs_o5 0 none (.move (.tmp 9))) (by kernel_rfl) (by kernel_rfl) (grd_none) (src_low hst 7 rfl (by kernel_rfl)) rfl)
    exact steps_nil
  · intro m a w hI hm
    exact ⟨(low_fact hst 0 rfl (by kernel_rfl) hI), (low_fact hst 1 rfl (by kernel_rfl) hI), (low_fact hst 2 rfl (by kernel_rfl) hI), (low_fact hst 3 rfl (by kernel_rfl) hI), (low_fact hst 4 rfl (by kernel_rfl) hI), (low_fact hst 5 rfl (by kernel_rfl) hI), (low_fact hst 6 rfl (by kernel_rfl) hI), (low_fact hst 7 rfl (by kernel_rfl) hI), (low_fact hst 8 rfl (by kernel_rfl) hI), (out_op hI hm 16 60 _ (by kernel_rfl) rfl), trivial⟩
set_option maxRecDepth 100000 in
theorem gs_r6 {Q : Exit → Act → World → Prop} {Wb W0 : World} {a0 : Act} {g i n cap cd pn pn1 pn2 d1 d2 t : Nat} {bd : Addr} (_hn : 2 ≤ n) (_hnb : n ≤ 1099511627776) (_cp : Wb.cell? ((⟨g, i, none⟩ : Addr).add n) = some (.int .u32 (pn : Int))) (_cp1 : Wb.cell? ((⟨g, i, none⟩ : Addr).add (n - 1)) = some (.int .u32 (pn1 : Int))) (_cp2 : Wb.cell? ((⟨g, i, none⟩ : Addr).add (n - 2)) = some (.int .u32 (pn2 : Int))) (_cd1 : Wb.cell? (bd.add (n - 1)) = some (.int .u32 (d1 : Int))) (_cd2 : Wb.cell? (bd.add (n - 2)) = some (.int .u32 (d2 : Int))) (_bp : pn < 4294967296) (_bp1 : pn1 < 4294967296) (_bp2 : pn2 < 4294967296) (_bd1 : d1 < 4294967296) (_bd2 : d2 < 4294967296) (_hd : 2147483648 ≤ d1) (_ht : pn * 4294967296 + pn1 = t) (_ht64 : t < 18446744073709551616) {q r : Nat} (_hq0 : 0 < q) (_hq1 : q ≤ 4294967297) (_hr : r ≤ 4294967295) (_c1 : 4294967295 < q) (_hbk : 4294967295 < r + d1) (hst : St Wb 70 [(0, (eqF (.slice (some (⟨g, i, none⟩ : Addr)) (n + 1) cap))), (1, (eqF (.slice (some bd) n cd))), (4, (eqF (.int .u32 0))), (5, (eqF (.int .i64 (n : Int)))), (6, (eqF (.int .u64 ((t : Int) : Int)))), (7, (eqF (.int .u64 (d1 : Int)))), (8, (eqF (.int .u64 (d2 : Int)))), (9, (eqF (.int .u64 (q : Int)))), (10, (eqF (.int .u64 (r : Int)))), (60, (eqF (.bool true)))] [] a0 W0)
    (fin : ∀ a w, St Wb 70 [(0, (eqF (.slice (some (⟨g, i, none⟩ : Addr)) (n + 1) cap))), (1, (eqF (.slice (some bd) n cd))), (4, (eqF (.int .u32 0))), (5, (eqF (.int .i64 (n : Int)))), (6, (eqF (.int .u64 ((t : Int) : Int)))), (7, (eqF (.int .u64 (d1 : Int)))), (8, (eqF (.int .u64 (d2 : Int)))), (9, (eqF (.int .u64 ((q - 1 : Nat) : Int)))), (10, (eqF (.int .u64 (r : Int)))), (60, (eqF (.bool true)))] [] a w → Q .normal a w) : (Code.region 6 gs_o6 false).wp Tryd.prog Q a0 W0 := by
  have hP : Plan gs_o6 70 ([] : List BoxS) [] := ⟨by kernel_rfl, by kernel_rfl, by kernel_rfl, by kernel_rfl, by kernel_rfl, by kernel_rfl⟩
  refine region_st (F := [(eqF (.int .u64 (q : Int))), (eqF (.int .u64 ((q - 1 : Nat) : Int))), (eqF (.int .u64 ((q - 1 : Nat) : Int)))]) hP hst rfl rfl ?_ ?_ fin
  · show Steps gs_o6 70 Wb W0 a0 _ _ _ 3
    refine steps_snoc (k := 2) ?_ (s_assign (i := 2) hP (g := none) (isOp_of (by kernel_rfl) : IsOp gs_o6 2 none (.assign (.tmp 62))) (by kernel_rfl) (by kernel_rfl) (grd_none) (src_op (f := (eqF (.int .u64 ((q - 1 : Nat) : Int)))) 1 (by kernel_rfl) (by kernel_rfl) rfl) rfl)
    refine steps_snoc (k := 1) ?_ (s_op2 (i := 1) hP (g := none) (isOp_of (by kernel_rfl) : IsOp gs_o6 1 none (.binOp .sub 49 (.tmp 61) (.const (.int .u64 1)) 49)) (by kernel_rfl) (by kernel_rfl) (grd_none) (src_op (f := (eqF (.int .u64 (q : Int)))) 0 (by kernel_rfl) (by kernel_rfl) rfl) (src_const _) (fun ρ w hx hy => h_sub (z := ((q - 1 : Nat) : Int)) (by rw [IntKind.wrap_u64]; omega) hx hy) rfl)
    refine steps_snoc (k := 0) ?_ (s_move (i := 0) hP (g := none) (isOp_of (by kernel_rfl) : IsOp gs_o6 0 none (.move (.tmp 9))) (by kernel_rfl) (by kernel_rfl) (grd_none) (src_low hst 7 rfl (by kernel_rfl)) rfl)
    exact steps_nil
  · intro m a w hI hm
    exact ⟨(low_fact hst 0 rfl (by kernel_rfl) hI), (low_fact hst 1 rfl (by kernel_rfl) hI), (low_fact hst 2 rfl (by kernel_rfl) hI), (low_fact hst 3 rfl (by kernel_rfl) hI), (low_fact hst 4 rfl (by kernel_rfl) hI), (low_fact hst 5 rfl (by kernel_rfl) hI), (low_fact hst 6 rfl (by kernel_rfl) hI), (out_op hI hm 2 9 _ (by kernel_rfl) rfl), (low_fact hst 8 rfl (by kernel_rfl) hI), (low_fact hst 9 rfl (by kernel_rfl) hI), trivial⟩
set_option maxRecDepth 100000 in
theorem gs_r7 {Q : Exit → Act → World → Prop} {Wb W0 : World} {a0 : Act} {g i n cap cd pn pn1 pn2 d1 d2 t : Nat} {bd : Addr} (_hn : 2 ≤ n) (_hnb : n ≤ 1099511627776) (_cp : Wb.cell? ((⟨g, i, none⟩ : Addr).add n) = some (.int .u32 (pn : Int))) (_cp1 : Wb.cell? ((⟨g, i, none⟩ : Addr).add (n - 1)) = some (.int .u32 (pn1 : Int))) (_cp2 : Wb.cell? ((⟨g, i, none⟩ : Addr).add (n - 2)) = some (.int .u32 (pn2 : Int))) (_cd1 : Wb.cell? (bd.add (n - 1)) = some (.int .u32 (d1 : Int))) (_cd2 : Wb.cell? (bd.add (n - 2)) = some (.int .u32 (d2 : Int))) (_bp : pn < 4294967296) (_bp1 : pn1 < 4294967296) (_bp2 : pn2 < 4294967296) (_bd1 : d1 < 4294967296) (_bd2 : d2 < 4294967296) (_hd : 2147483648 ≤ d1) (_ht : pn * 4294967296 + pn1 = t) (_ht64 : t < 18446744073709551616) {q r : Nat} (_hq0 : 0 < q) (_hq1 : q ≤ 4294967297) (_hr : r ≤ 4294967295) (_c1 : 4294967295 < q) (_hbk : 4294967295 < r + d1) (hst : St Wb 70 [(0, (eqF (.slice (some (⟨g, i, none⟩ : Addr)) (n + 1) cap))), (1, (eqF (.slice (some bd) n cd))), (4, (eqF (.int .u32 0))), (5, (eqF (.int .i64 (n : Int)))), (6, (eqF (.int .u64 ((t : Int) : Int)))), (7, (eqF (.int .u64 (d1 : Int)))), (8, (eqF (.int .u64 (d2 : Int)))), (9, (eqF (.int .u64 ((q - 1 : Nat) : Int)))), (10, (eqF (.int .u64 (r : Int)))), (60, (eqF (.bool true)))] [] a0 W0)
    (fin : ∀ a w, St Wb 70 [(0, (eqF (.slice (some (⟨g, i, none⟩ : Addr)) (n + 1) cap))), (1, (eqF (.slice (some bd) n cd))), (4, (eqF (.int .u32 0))), (5, (eqF (.int .i64 (n : Int)))), (6, (eqF (.int .u64 ((t : Int) : Int)))), (7, (eqF (.int .u64 (d1 : Int)))), (8, (eqF (.int .u64 (d2 : Int)))), (9, (eqF (.int .u64 ((q - 1 : Nat) : Int)))), (10, (eqF (.int .u64 ((r + d1 : Nat) : Int)))), (60, (eqF (.bool true)))] [] a w → Q .normal a w) : (Code.region 7 gs_o7 false).wp Tryd.prog Q a0 W0 := by
  have hP : Plan gs_o7 70 ([] : List BoxS) [] := ⟨by kernel_rfl, by kernel_rfl, by kernel_rfl, by kernel_rfl, by kernel_rfl, by kernel_rfl⟩
  refine region_st (F := [(eqF (.int .u64 (r : Int))), (eqF (.int .u64 (d1 : Int))), (eqF (.int .u64 ((r + d1 : Nat) : Int))), (eqF (.int .u64 ((r + d1 : Nat) : Int)))]) hP hst rfl rfl ?_ ?_ fin
  · show Steps gs_o7 70 Wb W0 a0 _ _ _ 4
    refine steps_snoc (k := 3) ?_ (s_assign (i := 3) hP (g := none) (isOp_of (by kernel_rfl) : IsOp gs_o7 3 none (.assign (.tmp 65))) (by kernel_rfl) (by kernel_rfl) (grd_none) (src_op (f := (eqF (.int .u64 ((r + d1 : Nat) : Int)))) 2 (by kernel_rfl) (by kernel_rfl) rfl) rfl)
    refine steps_snoc (k := 2) ?_ (s_op2 (i := 2) hP (g := none) (isOp_of (by kernel_rfl) : IsOp gs_o7 2 none (.binOp .add 49 (.tmp 63) (.tmp 64) 49)) (by kernel_rfl) (by kernel_rfl) (grd_none) (src_op (f := (eqF (.int .u64 (r : Int)))) 0 (by kernel_rfl) (by kernel_rfl) rfl) (src_op (f := (eqF (.int .u64 (d1 : Int)))) 1 (by kernel_rfl) (by kernel_rfl) rfl) (fun ρ w hx hy => h_add (z := ((r + d1 : Nat) : Int)) (by rw [IntKind.wrap_u64]; omega) hx hy) rfl)
    refine steps_snoc (k := 1) ?_ (s_move (i := 1) hP (g := none) (isOp_of (by kernel_rfl) : IsOp gs_o7 1 none (.move (.tmp 7))) (by kernel_rfl) (by kernel_rfl) (grd_none) (src_low hst 5 rfl (by kernel_rfl)) rfl)
    refine steps_snoc (k := 0) ?_ (s_move (i := 0) hP (g := none) (isOp_of (by kernel_rfl) : IsOp gs_o7 0 none (.move (.tmp 10))) (by kernel_rfl) (by kernel_rfl) (grd_none) (src_low hst 8 rfl (by kernel_rfl)) rfl)
    exact steps_nil
  · intro m a w hI hm
    exact ⟨(low_fact hst 0 rfl (by kernel_rfl) hI), (low_fact hst 1 rfl (by kernel_rfl) hI), (low_fact hst 2 rfl (by kernel_rfl) hI), (low_fact hst 3 rfl (by kernel_rfl) hI), (low_fact hst 4 rfl (by kernel_rfl) hI), (low_fact hst 5 rfl (by kernel_rfl) hI), (low_fact hst 6 rfl (by kernel_rfl) hI), (low_fact hst 7 rfl (by kernel_rfl) hI), (out_op hI hm 3 10 _ (by kernel_rfl) rfl), (low_fact hst 9 rfl (by kernel_rfl) hI), trivial⟩
set_option maxRecDepth 100000 in
theorem gs_r8 {Q : Exit → Act → World → Prop} {Wb W0 : World} {a0 : Act} {g i n cap cd pn pn1 pn2 d1 d2 t : Nat} {bd : Addr} (_hn : 2 ≤ n) (_hnb : n ≤ 1099511627776) (_cp : Wb.cell? ((⟨g, i, none⟩ : Addr).add n) = some (.int .u32 (pn : Int))) (_cp1 : Wb.cell? ((⟨g, i, none⟩ : Addr).add (n - 1)) = some (.int .u32 (pn1 : Int))) (_cp2 : Wb.cell? ((⟨g, i, none⟩ : Addr).add (n - 2)) = some (.int .u32 (pn2 : Int))) (_cd1 : Wb.cell? (bd.add (n - 1)) = some (.int .u32 (d1 : Int))) (_cd2 : Wb.cell? (bd.add (n - 2)) = some (.int .u32 (d2 : Int))) (_bp : pn < 4294967296) (_bp1 : pn1 < 4294967296) (_bp2 : pn2 < 4294967296) (_bd1 : d1 < 4294967296) (_bd2 : d2 < 4294967296) (_hd : 2147483648 ≤ d1) (_ht : pn * 4294967296 + pn1 = t) (_ht64 : t < 18446744073709551616) {q r : Nat} (_hq0 : 0 < q) (_hq1 : q ≤ 4294967297) (_hr : r ≤ 4294967295) (_c1 : 4294967295 < q) (_hbk : 4294967295 < r + d1) (hst : St Wb 70 [(0, (eqF (.slice (some (⟨g, i, none⟩ : Addr)) (n + 1) cap))), (1, (eqF (.slice (some bd) n cd))), (4, (eqF (.int .u32 0))), (5, (eqF (.int .i64 (n : Int)))), (6, (eqF (.int .u64 ((t : Int) : Int)))), (7, (eqF (.int .u64 (d1 : Int)))), (8, (eqF (.int .u64 (d2 : Int)))), (9, (eqF (.int .u64 ((q - 1 : Nat) : Int)))), (10, (eqF (.int .u64 ((r + d1 : Nat) : Int)))), (60, (eqF (.bool true)))] [] a0 W0)
    (fin : ∀ a w, St Wb 70 [(0, (eqF (.slice (some (⟨g, i, none⟩ : Addr)) (n + 1) cap))), (1, (eqF (.slice (some bd) n cd))), (4, (eqF (.int .u32 0))), (5, (eqF (.int .i64 (n : Int)))), (6, (eqF (.int .u64 ((t : Int) : Int)))), (7, (eqF (.int .u64 (d1 : Int)))), (8, (eqF (.int .u64 (d2 : Int)))), (9, (eqF (.int .u64 ((q - 1 : Nat) : Int)))), (10, (eqF (.int .u64 ((r + d1 : Nat) : Int)))), (60, (eqF (.bool true))), (67, (eqF (.bool true)))] [] a w → Q .normal a w) : (Code.region 8 gs_o8 false).wp Tryd.prog Q a0 W0 := by
  have hP : Plan gs_o8 70 ([] : List BoxS) [] := ⟨by kernel_rfl, by kernel_rfl, by kernel_rfl, by kernel_rfl, by kernel_rfl, by kernel_rfl⟩
  refine region_st (F := [(eqF (.int .u64 ((r + d1 : Nat) : Int))), (eqF (.bool true))]) hP hst rfl rfl ?_ ?_ fin
  · show Steps gs_o8 70 Wb W0 a0 _ _ _ 2
    refine steps_snoc (k := 1) ?_ (s_op2 (i := 1) hP (g := none) (isOp_of (by kernel_rfl) : IsOp gs_o8 1 none (.binOp .gtr 49 (.tmp 66) (.const (.int .u64 4294967295)) 49)) (by kernel_rfl) (by kernel_rfl) (grd_none) (src_op (f := (eqF (.int .u64 ((r + d1 : Nat) : Int)))) 0 (by kernel_rfl) (by kernel_rfl) rfl) (src_const _) (fun ρ w hx hy => h_gtr (r := true) (by simp; omega) hx hy) rfl)
    refine steps_snoc (k := 0) ?_ (s_move (i := 0) hP (g := none) (isOp_of (by kernel_rfl) : IsOp gs_o8 0 none (.move (.tmp 10))) (by kernel_rfl) (by kernel_rfl) (grd_none) (src_low hst 8 rfl (by kernel_rfl)) rfl)
    exact steps_nil
  · intro m a w hI hm
    exact ⟨(low_fact hst 0 rfl (by kernel_rfl) hI), (low_fact hst 1 rfl (by kernel_rfl) hI), (low_fact hst 2 rfl (by kernel_rfl) hI), (low_fact hst 3 rfl (by kernel_rfl) hI), (low_fact hst 4 rfl (by kernel_rfl) hI), (low_fact hst 5 rfl (by kernel_rfl) hI), (low_fact hst 6 rfl (by kernel_rfl) hI), (low_fact hst 7 rfl (by kernel_rfl) hI), (low_fact hst 8 rfl (by kernel_rfl) hI), (low_fact hst 9 rfl (by kernel_rfl) hI), (out_op hI hm 1 67 _ (by kernel_rfl) rfl), trivial⟩
set_option maxRecDepth 100000 in
theorem gs_r9 {Q : Exit → Act → World → Prop} {Wb W0 : World} {a0 : Act} {g i n cap cd pn pn1 pn2 d1 d2 t : Nat} {bd : Addr} (_hn : 2 ≤ n) (_hnb : n ≤ 1099511627776) (_cp : Wb.cell? ((⟨g, i, none⟩ : Addr).add n) = some (.int .u32 (pn : Int))) (_cp1 : Wb.cell? ((⟨g, i, none⟩ : Addr).add (n - 1)) = some (.int .u32 (pn1 : Int))) (_cp2 : Wb.cell? ((⟨g, i, none⟩ : Addr).add (n - 2)) = some (.int .u32 (pn2 : Int))) (_cd1 : Wb.cell? (bd.add (n - 1)) = some (.int .u32 (d1 : Int))) (_cd2 : Wb.cell? (bd.add (n - 2)) = some (.int .u32 (d2 : Int))) (_bp : pn < 4294967296) (_bp1 : pn1 < 4294967296) (_bp2 : pn2 < 4294967296) (_bd1 : d1 < 4294967296) (_bd2 : d2 < 4294967296) (_hd : 2147483648 ≤ d1) (_ht : pn * 4294967296 + pn1 = t) (_ht64 : t < 18446744073709551616) {q2 r2 : Nat} (_k1 : q2 < 4294967296) (hst : St Wb 70 [(0, (eqF (.slice (some (⟨g, i, none⟩ : Addr)) (n + 1) cap))), (1, (eqF (.slice (some bd) n cd))), (4, (eqF (.int .u32 0))), (5, (eqF (.int .i64 (n : Int)))), (6, (eqF (.int .u64 ((t : Int) : Int)))), (7, (eqF (.int .u64 (d1 : Int)))), (8, (eqF (.int .u64 (d2 : Int)))), (9, (eqF (.int .u64 (q2 : Int)))), (10, (eqF (.int .u64 (r2 : Int)))), (60, (eqF (.bool true))), (67, (eqF (.bool true)))] [] a0 W0)
    (fin : ∀ a w, St Wb 70 [(0, (eqF (.slice (some (⟨g, i, none⟩ : Addr)) (n + 1) cap))), (1, (eqF (.slice (some bd) n cd))), (4, (eqF (.int .u32 (q2 : Int)))), (5, (eqF (.int .i64 (n : Int)))), (6, (eqF (.int .u64 ((t : Int) : Int)))), (7, (eqF (.int .u64 (d1 : Int)))), (8, (eqF (.int .u64 (d2 : Int)))), (9, (eqF (.int .u64 (q2 : Int)))), (10, (eqF (.int .u64 (r2 : Int)))), (60, (eqF (.bool true))), (67, (eqF (.bool true)))] [] a w → Q .normal a w) : (Code.region 9 gs_o9 false).wp Tryd.prog Q a0 W0 := by
  have hP : Plan gs_o9 70 ([] : List BoxS) [] := ⟨by kernel_rfl, by kernel_rfl, by kernel_rfl, by kernel_rfl, by kernel_rfl, by kernel_rfl⟩
  refine region_st (F := [(eqF (.int .u64 (q2 : Int))), (eqF (.int .u32 (q2 : Int))), (eqF (.int .u32 (q2 : Int)))]) hP hst rfl rfl ?_ ?_ fin
  · show Steps gs_o9 70 Wb W0 a0 _ _ _ 3
    refine steps_snoc (k := 2) ?_ (s_assign (i := 2) hP (g := none) (isOp_of (by kernel_rfl) : IsOp gs_o9 2 none (.assign (.tmp 69))) (by kernel_rfl) (by kernel_rfl) (grd_none) (src_op (f := (eqF (.int .u32 (q2 : Int)))) 1 (by kernel_rfl) (by kernel_rfl) rfl) rfl)
    refine steps_snoc (k := 1) ?_ (s_op1 (i := 1) hP (g := none) (isOp_of (by kernel_rfl) : IsOp gs_o9 1 none (.convert 49 38 (.tmp 68))) (by kernel_rfl) (by kernel_rfl) (grd_none) (src_op (f := (eqF (.int .u64 (q2 : Int)))) 0 (by kernel_rfl) (by kernel_rfl) rfl) (fun ρ w hx => h_conv64 (z := (q2 : Int)) (by rw [IntKind.wrap_u32]; omega) hx) rfl)
    refine steps_snoc (k := 0) ?_ (s_move (i := 0) hP (g := none) (isOp_of (by kernel_rfl) : IsOp gs_o9 0 none (.move (.tmp 9))) (by kernel_rfl) (by kernel_rfl) (grd_none) (src_low hst 7 rfl (by kernel_rfl)) rfl)
    exact steps_nil
  · intro m a w hI hm
    exact ⟨(low_fact hst 0 rfl (by kernel_rfl) hI), (low_fact hst 1 rfl (by kernel_rfl) hI), (out_op hI hm 2 4 _ (by kernel_rfl) rfl), (low_fact hst 3 rfl (by kernel_rfl) hI), (low_fact hst 4 rfl (by kernel_rfl) hI), (low_fact hst 5 rfl (by kernel_rfl) hI), (low_fact hst 6 rfl (by kernel_rfl) hI), (low_fact hst 7 rfl (by kernel_rfl) hI), (low_fact hst 8 rfl (by kernel_rfl) hI), (low_fact hst 9 rfl (by kernel_rfl) hI), (low_fact hst 10 rfl (by kernel_rfl) hI), trivial⟩
set_option maxRecDepth 100000 in
theorem gs_r5b {Q : Exit → Act → World → Prop} {Wb W0 : World} {a0 : Act} {g i n cap cd pn pn1 pn2 d1 d2 t : Nat} {bd : Addr} (_hn : 2 ≤ n) (_hnb : n ≤ 1099511627776) (_cp : Wb.cell? ((⟨g, i, none⟩ : Addr).add n) = some (.int .u32 (pn : Int))) (_cp1 : Wb.cell? ((⟨g, i, none⟩ : Addr).add (n - 1)) = some (.int .u32 (pn1 : Int))) (_cp2 : Wb.cell? ((⟨g, i, none⟩ : Addr).add (n - 2)) = some (.int .u32 (pn2 : Int))) (_cd1 : Wb.cell? (bd.add (n - 1)) = some (.int .u32 (d1 : Int))) (_cd2 : Wb.cell? (bd.add (n - 2)) = some (.int .u32 (d2 : Int))) (_bp : pn < 4294967296) (_bp1 : pn1 < 4294967296) (_bp2 : pn2 < 4294967296) (_bd1 : d1 < 4294967296) (_bd2 : d2 < 4294967296) (_hd : 2147483648 ≤ d1) (_ht : pn * 4294967296 + pn1 = t) (_ht64 : t < 18446744073709551616) {q r : Nat} (_hq0 : 0 < q) (_hq1 : q ≤ 4294967297) (_hr : r ≤ 4294967295) (_c1 : 4294967295 < q) (_hnb2 : r + d1 ≤ 4294967295) (hst : St Wb 70 [(0, (eqF (.slice (some (⟨g, i, none⟩ : Addr)) (n + 1) cap))), (1, (eqF (.slice (some bd) n cd))), (4, (eqF (.int .u32 0))), (5, (eqF (.int .i64 (n : Int)))), (6, (eqF (.int .u64 ((t : Int) : Int)))), (7, (eqF (.int .u64 (d1 : Int)))), (8, (eqF (.int .u64 (d2 : Int)))), (9, (eqF (.int .u64 (q : Int)))), (10, (eqF (.int .u64 (r : Int))))] [] a0 W0)
    (fin : ∀ a w, St Wb 70 [(0, (eqF (.slice (some (⟨g, i, none⟩ : Addr)) (n + 1) cap))), (1, (eqF (.slice (some bd) n cd))), (4, (eqF (.int .u32 0))), (5, (eqF (.int .i64 (n : Int)))), (6, (eqF (.int .u64 ((t : Int) : Int)))), (7, (eqF (.int .u64 (d1 : Int)))), (8, (eqF (.int .u64 (d2 : Int)))), (9, (eqF (.int .u64 (q : Int)))), (10, (eqF (.int .u64 (r : Int)))), (60, (eqF (.bool true)))] [] a w → Q .normal a w) : (Code.region 5 gs_o5 false).wp Tryd.prog Q a0 W0 := by
  have hP : Plan gs_o5 70 ([] : List BoxS) [] := ⟨by kernel_rfl, by kernel_rfl, by kernel_rfl, by kernel_rfl, by kernel_rfl, by kernel_rfl⟩
  refine region_st (F := [(eqF (.int .u64 (q : Int))), (eqF (.bool true)), (eqF (.bool true)), anyF, anyF, anyF, anyF, anyF, anyF, anyF, anyF, anyF, anyF, anyF, anyF, anyF, (eqF (.bool true))]) hP hst rfl rfl ?_ ?_ fin
  · show Steps gs_o5 70 Wb W0 a0 _ _ _ 17
    refine steps_snoc (k := 16) ?_ (s_pickT (i := 16) hP (g := none) (isOp_of (by kernel_rfl) : IsOp gs_o5 16 none (.pick (.tmp 46) (.const (.bool true)) (.tmp 59))) (by kernel_rfl) (by kernel_rfl) (grd_none) (src_op (f := (eqF (.bool true))) 2 (by kernel_rfl) (by kernel_rfl) rfl) (src_const _) rfl)
    refine steps_snoc (k := 15) ?_ (s_skip (i := 15) hP (g := (some (2, false))) (isOp_of (by kernel_rfl) : IsOp gs_o5 15 (some (2, false)) (.binOp .gtr 49 (.tmp 49) (.tmp 58) 49)) (by kernel_rfl) (by kernel_rfl) (grd_op (d := 46) (by kernel_rfl) (by kernel_rfl) rfl rfl) rfl)
    refine steps_snoc (k := 14) ?_ (s_skip (i := 14) hP (g := (some (2, false))) (isOp_of (by kernel_rfl) : IsOp gs_o5 14 (some (2, false)) (.binOp .or 49 (.tmp 51) (.tmp 57) 49)) (by kernel_rfl) (by kernel_rfl) (grd_op (d := 46) (by kernel_rfl) (by kernel_rfl) rfl rfl) rfl)
    refine steps_snoc (k := 13) ?_ (s_skip (i := 13) hP (g := (some (2, false))) (isOp_of (by kernel_rfl) : IsOp gs_o5 13 (some (2, false)) (.convert 38 49 (.tmp 56))) (by kernel_rfl) (by kernel_rfl) (grd_op (d := 46) (by kernel_rfl) (by kernel_rfl) rfl rfl) rfl)
    refine steps_snoc (k := 12) ?_ (s_skip (i := 12) hP (g := (some (2, false))) (isOp_of (by kernel_rfl) : IsOp gs_o5 12 (some (2, false)) (.load 38 (.tmp 55))) (by kernel_rfl) (by kernel_rfl) (grd_op (d := 46) (by kernel_rfl) (by kernel_rfl) rfl rfl) rfl)
    refine steps_snoc (k := 11) ?_ (s_skip (i := 11) hP (g := (some (2, false))) (isOp_of (by kernel_rfl) : IsOp gs_o5 11 (some (2, false)) (.indexAddr 22 (.tmp 52) (.tmp 54))) (by kernel_rfl) (by kernel_rfl) (grd_op (d := 46) (by kernel_rfl) (by kernel_rfl) rfl rfl) rfl)
    refine steps_snoc (k := 10) ?_ (s_skip (i := 10) hP (g := (some (2, false))) (isOp_of (by kernel_rfl) : IsOp gs_o5 10 (some (2, false)) (.binOp .sub 3 (.tmp 53) (.const (.int .i64 2)) 3)) (by kernel_rfl) (by kernel_rfl) (grd_op (d := 46) (by kernel_rfl) (by kernel_rfl) rfl rfl) rfl)
    refine steps_snoc (k := 9) ?_ (s_skip (i := 9) hP (g := (some (2, false))) (isOp_of (by kernel_rfl) : IsOp gs_o5 9 (some (2, false)) (.move (.tmp 5))) (by kernel_rfl) (by kernel_rfl) (grd_op (d := 46) (by kernel_rfl) (by kernel_rfl) rfl rfl) rfl)
    refine steps_snoc (k := 8) ?_ (s_skip (i := 8) hP (g := (some (2, false))) (isOp_of (by kernel_rfl) : IsOp gs_o5 8 (some (2, false)) (.move (.tmp 0))) (by kernel_rfl) (by kernel_rfl) (grd_op (d := 46) (by kernel_rfl) (by kernel_rfl) rfl rfl) rfl)
    refine steps_snoc (k := 7) ?_ (s_skip (i := 7) hP (g := (some (2, false))) (isOp_of (by kernel_rfl) : IsOp gs_o5 7 (some (2, false)) (.binOp .shl 49 (.tmp 50) (.const (.int .u64 32)) 67)) (by kernel_rfl) (by kernel_rfl) (grd_op (d := 46) (by kernel_rfl) (by kernel_rfl) rfl rfl) rfl)
    refine steps_snoc (k := 6) ?_ (s_skip (i := 6) hP (g := (some (2, false))) (isOp_of (by kernel_rfl) : IsOp gs_o5 6 (some (2, false)) (.move (.tmp 10))) (by kernel_rfl) (by kernel_rfl) (grd_op (d := 46) (by kernel_rfl) (by kernel_rfl) rfl rfl) rfl)
    refine steps_snoc (k := 5) ?_ (s_skip (i := 5) hP (g := (some (2, false))) (isOp_of (by kernel_rfl) : IsOp gs_o5 5 (some (2, false)) (.binOp .mul 49 (.tmp 47) (.tmp 48) 49)) (by kernel_rfl) (by kernel_rfl) (grd_op (d := 46) (by kernel_rfl) (by kernel_rfl) rfl rfl) rfl)
    refine steps_snoc (k := 4) ?_ (s_skip (i := 4) hP (g := (some (2, false))) (isOp_of (by kernel_rfl) : IsOp gs_o5 4 (some (2, false)) (.move (.tmp 8))) (by kernel_rfl) (by kernel_rfl) (grd_op (d := 46) (by kernel_rfl) (by kernel_rfl) rfl rfl) rfl)
    refine steps_snoc (k := 3) ?_ (s_skip (i := 3) hP (g := (some (2, false))) (isOp_of (by kernel_rfl) : IsOp gs_o5 3 (some (2, false)) (.move (.tmp 9))) (by kernel_rfl) (by kernel_rfl) (grd_op (d := 46) (by kernel_rfl) (by kernel_rfl) rfl rfl) rfl)
    refine steps_snoc (k := 2) ?_ (s_move (i := 2) hP (g := none) (isOp_of (by kernel_rfl) : IsOp gs_o5 2 none (.move (.tmp 45))) (by kernel_rfl) (by kernel_rfl) (grd_none) (src_op (f := (eqF (.bool true))) 1 (by kernel_rfl) (by kernel_rfl) rfl) rfl)
    refine steps_snoc (k := 1) ?_ (s_op2 (i := 1) hP (g := none) (isOp_of (by kernel_rfl) : IsOp gs_o5 1 none (.binOp .gtr 49 (.tmp 44) (.const (.int .u64 4294967295)) 49)) (by kernel_rfl) (by kernel_rfl) (grd_none) (src_op (f := (eqF (.int .u64 (q : Int)))) 0 (by kernel_rfl) (by kernel_rfl) rfl) (src_const _) (fun ρ w hx hy => h_gtr (r := true) (by simp; omega) hx hy) rfl)
    refine steps_snoc (k := 0) ?_ (s_move (i := 0) hP (g := none) (isOp_of (by kernel_rfl) : IsOp gs_o5 0 none (.move (.tmp 9))) (by kernel_rfl) (by kernel_rfl) (grd_none) (src_low hst 7 rfl (by kernel_rfl)) rfl)
    exact steps_nil
  · intro m a w hI hm
    exact ⟨(low_fact hst 0 rfl (by kernel_rfl) hI), (low_fact hst 1 rfl (by kernel_rfl) hI), (low_fact hst 2 rfl (by kernel_rfl) hI), (low_fact hst 3 rfl (by kernel_rfl) hI), (low_fact hst 4 rfl (by kernel_rfl) hI), (low_fact hst 5 rfl (by kernel_rfl) hI), (low_fact hst 6 rfl (by kernel_rfl) hI), (low_fact hst 7 rfl (by kernel_rfl) hI), (low_fact hst 8 rfl (by kernel_rfl) hI), (out_op hI hm 16 60 _ (by kernel_rfl) rfl), trivial⟩
set_option maxRecDepth 100000 in
theorem gs_r6b {Q : Exit → Act → World → Prop} {Wb W0 : World} {a0 : Act} {g i n cap cd pn pn1 pn2 d1 d2 t : Nat} {bd : Addr} (_hn : 2 ≤ n) (_hnb : n ≤ 1099511627776) (_cp : Wb.cell? ((⟨g, i, none⟩ : Addr).add n) = some (.int .u32 (pn : Int))) (_cp1 : Wb.cell? ((⟨g, i, none⟩ : Addr).add (n - 1)) = some (.int .u32 (pn1 : Int))) (_cp2 : Wb.cell? ((⟨g, i, none⟩ : Addr).add (n - 2)) = some (.int .u32 (pn2 : Int))) (_cd1 : Wb.cell? (bd.add (n - 1)) = some (.int .u32 (d1 : Int))) (_cd2 : Wb.cell? (bd.add (n - 2)) = some (.int .u32 (d2 : Int))) (_bp : pn < 4294967296) (_bp1 : pn1 < 4294967296) (_bp2 : pn2 < 4294967296) (_bd1 : d1 < 4294967296) (_bd2 : d2 < 4294967296) (_hd : 2147483648 ≤ d1) (_ht : pn * 4294967296 + pn1 = t) (_ht64 : t < 18446744073709551616) {q r : Nat} (_hq0 : 0 < q) (_hq1 : q ≤ 4294967297) (_hr : r ≤ 4294967295) (_c1 : 4294967295 < q) (_hnb2 : r + d1 ≤ 4294967295) (hst : St Wb 70 [(0, (eqF (.slice (some (⟨g, i, none⟩ : Addr)) (n + 1) cap))), (1, (eqF (.slice (some bd) n cd))), (4, (eqF (.int .u32 0))), (5, (eqF (.int .i64 (n : Int)))), (6, (eqF (.int .u64 ((t : Int) : Int)))), (7, (eqF (.int .u64 (d1 : Int)))), (8, (eqF (.int .u64 (d2 : Int)))), (9, (eqF (.int .u64 (q : Int)))), (10, (eqF (.int .u64 (r : Int)))), (60, (eqF (.bool true)))] [] a0 W0)
    (fin : ∀ a w, St Wb 70 [(0, (eqF (.slice (some (⟨g, i, none⟩ : Addr)) (n + 1) cap))), (1, (eqF (.slice (some bd) n cd))), (4, (eqF (.int .u32 0))), (5, (eqF (.int .i64 (n : Int)))), (6, (eqF (.int .u64 ((t : Int) : Int)))), (7, (eqF (.int .u64 (d1 : Int)))), (8, (eqF (.int .u64 (d2 : Int)))), (9, (eqF (.int .u64 ((q - 1 : Nat) : Int)))), (10, (eqF (.int .u64 (r : Int)))), (60, (eqF (.bool true)))] [] a w → Q .normal a w) : (Code.region 6 gs_o6 false).wp Tryd.prog Q a0 W0 := by
  have hP : Plan gs_o6 70 ([] : List BoxS) [] := ⟨by kernel_rfl, by kernel_rfl, by kernel_rfl, by kernel_rfl, by kernel_rfl, by kernel_rfl⟩
  refine region_st (F := [(eqF (.int .u64 (q : Int))), (eqF (.int .u64 ((q - 1 : Nat) : Int))), (eqF (.int .u64 ((q - 1 : Nat) : Int)))]) hP hst rfl rfl ?_ ?_ fin
  · show Steps gs_o6 70 Wb W0 a0 _ _ _ 3
    refine steps_snoc (k := 2) ?_ (s_assign (i := 2) hP (g := none) (isOp_of (by kernel_rfl) : IsOp gs_o6 2 none (.assign (.tmp 62))) (by kernel_rfl) (by kernel_rfl) (grd_none) (src_op (f := (eqF (.int .u64 ((q - 1 : Nat) : Int)))) 1 (by kernel_rfl) (by kernel_rfl) rfl) rfl)
    refine steps_snoc (k := 1) ?_ (s_op2 (i := 1) hP (g := none) (isOp_of (by kernel_rfl) : IsOp gs_o6 1 none (.binOp .sub 49 (.tmp 61) (.const (.int .u64 1)) 49)) (by kernel_rfl) (by kernel_rfl) (grd_none) (src_op (f := (eqF (.int .u64 (q : Int)))) 0 (by kernel_rfl) (by kernel_rfl) rfl) (src_const _) (fun ρ w hx hy => h_sub (z := ((q - 1 : Nat) : Int)) (by rw [IntKind.wrap_u64]; omega) hx hy) rfl)
    refine steps_snoc (k := 0) ?_ (s_move (i := 0) hP (g := none) (isOp_of (by kernel_rfl) : IsOp gs_o6 0 none (.move (.tmp 9))) (by kernel_rfl) (by kernel_rfl) (grd_none) (src_low hst 7 rfl (by kernel_rfl)) rfl)
    exact steps_nil
  · intro m a w hI hm
    exact ⟨(low_fact hst 0 rfl (by kernel_rfl) hI), (low_fact hst 1 rfl (by kernel_rfl) hI), (low_fact hst 2 rfl (by kernel_rfl) hI), (low_fact hst 3 rfl (by kernel_rfl) hI), (low_fact hst 4 rfl (by kernel_rfl) hI), (low_fact hst 5 rfl (by kernel_rfl) hI), (low_fact hst 6 rfl (by kernel_rfl) hI), (out_op hI hm 2 9 _ (by kernel_rfl) rfl), (low_fact hst 8 rfl (by kernel_rfl) hI), (low_fact hst 9 rfl (by kernel_rfl) hI), trivial⟩
set_option maxRecDepth 100000 in
theorem gs_r7b {Q : Exit → Act → World → Prop} {Wb W0 : World} {a0 : Act} {g i n cap cd pn pn1 pn2 d1 d2 t : Nat} {bd : Addr} (_hn : 2 ≤ n) (_hnb : n ≤ 1099511627776) (_cp : Wb.cell? ((⟨g, i, none⟩ : Addr).add n) = some (.int .u32 (pn : Int))) (_cp1 : Wb.cell? ((⟨g, i, none⟩ : Addr).add (n - 1)) = some (.int .u32 (pn1 : Int))) (_cp2 : Wb.cell? ((⟨g, i, none⟩ : Addr).add (n - 2)) = some (.int .u32 (pn2 : Int))) (_cd1 : Wb.cell? (bd.add (n - 1)) = some (.int .u32 (d1 : Int))) (_cd2 : Wb.cell? (bd.add (n - 2)) = some (.int .u32 (d2 : Int))) (_bp : pn < 4294967296) (_bp1 : pn1 < 4294967296) (_bp2 : pn2 < 4294967296) (_bd1 : d1 < 4294967296) (_bd2 : d2 < 4294967296) (_hd : 2147483648 ≤ d1) (_ht : pn * 4294967296 + pn1 = t) (_ht64 : t < 18446744073709551616) {q r : Nat} (_hq0 : 0 < q) (_hq1 : q ≤ 4294967297) (_hr : r ≤ 4294967295) (_c1 : 4294967295 < q) (_hnb2 : r + d1 ≤ 4294967295) (hst : St Wb 70 [(0, (eqF (.slice (some (⟨g, i, none⟩ : Addr)) (n + 1) cap))), (1, (eqF (.slice (some bd) n cd))), (4, (eqF (.int .u32 0))), (5, (eqF (.int .i64 (n : Int)))), (6, (eqF (.int .u64 ((t : Int) : Int)))), (7, (eqF (.int .u64 (d1 : Int)))), (8, (eqF (.int .u64 (d2 : Int)))), (9, (eqF (.int .u64 ((q - 1 : Nat) : Int)))), (10, (eqF (.int .u64 (r : Int)))), (60, (eqF (.bool true)))] [] a0 W0)
    (fin : ∀ a w, St Wb 70 [(0, (eqF (.slice (some (⟨g, i, none⟩ : Addr)) (n + 1) cap))), (1, (eqF (.slice (some bd) n cd))), (4, (eqF (.int .u32 0))), (5, (eqF (.int .i64 (n : Int)))), (6, (eqF (.int .u64 ((t : Int) : Int)))), (7, (eqF (.int .u64 (d1 : Int)))), (8, (eqF (.int .u64 (d2 : Int)))), (9, (eqF (.int .u64 ((q - 1 : Nat) : Int)))), (10, (eqF (.int .u64 ((r + d1 : Nat) : Int)))), (60, (eqF (.bool true)))] [] a w → Q .normal a w) : (Code.region 7 gs_o7 false).wp Tryd.prog Q a0 W0 := by
  have hP : Plan gs_o7 70 ([] : List BoxS) [] := ⟨by kernel_rfl, by kernel_rfl, by kernel_rfl, by kernel_rfl, by kernel_rfl, by kernel_rfl⟩
  refine region_st (F := [(eqF (.int .u64 (r : Int))), (eqF (.int .u64 (d1 : Int))), (eqF (.int .u64 ((r + d1 : Nat) : Int))), (eqF (.int .u64 ((r + d1 : Nat) : Int)))]) hP hst rfl rfl ?_ ?_ fin
  · show Steps gs_o7 70 Wb W0 a0 _ _ _ 4
    refine steps_snoc (k := 3) ?_ (s_assign (i := 3) hP (g := none) (isOp_of (by kernel_rfl) : IsOp gs_o7 3 none (.assign (.tmp 65))) (by kernel_rfl) (by kernel_rfl) (grd_none) (src_op (f := (eqF (.int .u64 ((r + d1 : Nat) : Int)))) 2 (by kernel_rfl) (by kernel_rfl) rfl) rfl)
    refine steps_snoc (k := 2) ?_ (s_op2 (i := 2) hP (g := none) (isOp_of (by kernel_rfl) : IsOp gs_o7 2 none (.binOp .add 49 (.tmp 63) (.tmp 64) 49)) (by kernel_rfl) (by kernel_rfl) (grd_none) (src_op (f := (eqF (.int .u64 (r : Int)))) 0 (by kernel_rfl) (by kernel_rfl) rfl) (src_op (f := (eqF (.int .u64 (d1 : Int)))) 1 (by kernel_rfl) (by kernel_rfl) rfl) (fun ρ w hx hy => h_add (z := ((r + d1 : Nat) : Int)) (by rw [IntKind.wrap_u64]; omega) hx hy) rfl)
    refine steps_snoc (k := 1) ?_ (s_move (i := 1) hP (g := none) (isOp_of (by kernel_rfl) : IsOp gs_o7 1 none (.move (.tmp 7))) (by kernel_rfl) (by kernel_rfl) (grd_none) (src_low hst 5 rfl (by kernel_rfl)) rfl)
    refine steps_snoc (k := 0) ?_ (s_move (i := 0) hP (g := none) (isOp_of (by kernel_rfl) : IsOp gs_o7 0 none (.move (.tmp 10))) (by kernel_rfl) (by kernel_rfl) (grd_none) (src_low hst 8 rfl (by kernel_rfl)) rfl)
    exact steps_nil
  · intro m a w hI hm
    exact ⟨(low_fact hst 0 rfl (by kernel_rfl) hI), (low_fact hst 1 rfl (by kernel_rfl) hI), (low_fact hst 2 rfl (by kernel_rfl) hI), (low_fact hst 3 rfl (by kernel_rfl) hI), (low_fact hst 4 rfl (by kernel_rfl) hI), (low_fact hst 5 rfl (by kernel_rfl) hI), (low_fact hst 6 rfl (by kernel_rfl) hI), (low_fact hst 7 rfl (by kernel_rfl) hI), (out_op hI hm 3 10 _ (by kernel_rfl) rfl), (low_fact hst 9 rfl (by kernel_rfl) hI), trivial⟩
set_option maxRecDepth 100000 in
theorem gs_r8b {Q : Exit → Act → World → Prop} {Wb W0 : World} {a0 : Act} {g i n cap cd pn pn1 pn2 d1 d2 t : Nat} {bd : Addr} (_hn : 2 ≤ n) (_hnb : n ≤ 1099511627776) (_cp : Wb.cell? ((⟨g, i, none⟩ : Addr).add n) = some (.int .u32 (pn : Int))) (_cp1 : Wb.cell? ((⟨g, i, none⟩ : Addr).add (n - 1)) = some (.int .u32 (pn1 : Int))) (_cp2 : Wb.cell? ((⟨g, i, none⟩ : Addr).add (n - 2)) = some (.int .u32 (pn2 : Int))) (_cd1 : Wb.cell? (bd.add (n - 1)) = some (.int .u32 (d1 : Int))) (_cd2 : Wb.cell? (bd.add (n - 2)) = some (.int .u32 (d2 : Int))) (_bp : pn < 4294967296) (_bp1 : pn1 < 4294967296) (_bp2 : pn2 < 4294967296) (_bd1 : d1 < 4294967296) (_bd2 : d2 < 4294967296) (_hd : 2147483648 ≤ d1) (_ht : pn * 4294967296 + pn1 = t) (_ht64 : t < 18446744073709551616) {q r : Nat} (_hq0 : 0 < q) (_hq1 : q ≤ 4294967297) (_hr : r ≤ 4294967295) (_c1 : 4294967295 < q) (_hnb2 : r + d1 ≤ 4294967295) (hst : St Wb 70 [(0, (eqF (.slice (some (⟨g, i, none⟩ : Addr)) (n + 1) cap))), (1, (eqF (.slice (some bd) n cd))), (4, (eqF (.int .u32 0))), (5, (eqF (.int .i64 (n : Int)))), (6, (eqF (.int .u64 ((t : Int) : Int)))), (7, (eqF (.int .u64 (d1 : Int)))), (8, (eqF (.int .u64 (d2 : Int)))), (9, (eqF (.int .u64 ((q - 1 : Nat) : Int)))), (10, (eqF (.int .u64 ((r + d1 : Nat) : Int)))), (60, (eqF (.bool true)))] [] a0 W0)
    (fin : ∀ a w, St Wb 70 [(0, (eqF (.slice (some (⟨g, i, none⟩ : Addr)) (n + 1) cap))), (1, (eqF (.slice (some bd) n cd))), (4, (eqF (.int .u32 0))), (5, (eqF (.int .i64 (n : Int)))), (6, (eqF (.int .u64 ((t : Int) : Int)))), (7, (eqF (.int .u64 (d1 : Int)))), (8, (eqF (.int .u64 (d2 : Int)))), (9, (eqF (.int .u64 ((q - 1 : Nat) : Int)))), (10, (eqF (.int .u64 ((r + d1 : Nat) : Int)))), (60, (eqF (.bool true))), (67, (eqF (.bool false)))] [] a w → Q .normal a w) : (Code.region 8 gs_o8 false).wp Tryd.prog Q a0 W0 := by
  have hP : Plan gs_o8 70 ([] : List BoxS) [] := ⟨by kernel_rfl, by kernel_rfl, by kernel_rfl, by kernel_rfl, by kernel_rfl, by kernel_rfl⟩
  refine region_st (F := [(eqF (.int .u64 ((r + d1 : Nat) : Int))), (eqF (.bool false))]) hP hst rfl rfl ?_ ?_ fin
  · show Steps gs_o8 70 Wb W0 a0 _ _ _ 2
    refine steps_snoc (k := 1) ?_ (s_op2 (i := 1) hP (g := none) (isOp_of (by kernel_rfl) : IsOp gs_o8 1 none (.binOp .gtr 49 (.tmp 66) (.const (.int .u64 4294967295)) 49)) (by kernel_rfl) (by kernel_rfl) (grd_none) (src_op (f := (eqF (.int .u64 ((r + d1 : Nat) : Int)))) 0 (by kernel_rfl) (by kernel_rfl) rfl) (src_const _) (fun ρ w hx hy => h_gtr (r := false) (by simp; omega) hx hy) rfl)
    refine steps_snoc (k := 0) ?_ (s_move (i := 0) hP (g := none) (isOp_of (by kernel_rfl) : IsOp gs_o8 0 none (.move (.tmp 10))) (by kernel_rfl) (by kernel_rfl) (grd_none) (src_low hst 8 rfl (by kernel_rfl)) rfl)
    exact steps_nil
  · intro m a w hI hm
    exact ⟨(low_fact hst 0 rfl (by kernel_rfl) hI), (low_fact hst 1 rfl (by kernel_rfl) hI), (low_fact hst 2 rfl (by kernel_rfl) hI), (low_fact hst 3 rfl (by kernel_rfl) hI), (low_fact hst 4 rfl (by kernel_rfl) hI), (low_fact hst 5 rfl (by kernel_rfl) hI), (low_fact hst 6 rfl (by kernel_rfl) hI), (low_fact hst 7 rfl (by kernel_rfl) hI), (low_fact hst 8 rfl (by kernel_rfl) hI), (low_fact hst 9 rfl (by kernel_rfl) hI), (out_op hI hm 1 67 _ (by kernel_rfl) rfl), trivial⟩
set_option maxRecDepth 100000 in
theorem gs_r5c {Q : Exit → Act → World → Prop} {Wb W0 : World} {a0 : Act} {g i n cap cd pn pn1 pn2 d1 d2 t : Nat} {bd : Addr} (_hn : 2 ≤ n) (_hnb : n ≤ 1099511627776) (_cp : Wb.cell? ((⟨g, i, none⟩ : Addr).add n) = some (.int .u32 (pn : Int))) (_cp1 : Wb.cell? ((⟨g, i, none⟩ : Addr).add (n - 1)) = some (.int .u32 (pn1 : Int))) (cp2 : Wb.cell? ((⟨g, i, none⟩ : Addr).add (n - 2)) = some (.int .u32 (pn2 : Int))) (_cd1 : Wb.cell? (bd.add (n - 1)) = some (.int .u32 (d1 : Int))) (_cd2 : Wb.cell? (bd.add (n - 2)) = some (.int .u32 (d2 : Int))) (_bp : pn < 4294967296) (_bp1 : pn1 < 4294967296) (bp2 : pn2 < 4294967296) (_bd1 : d1 < 4294967296) (bd2 : d2 < 4294967296) (_hd : 2147483648 ≤ d1) (_ht : pn * 4294967296 + pn1 = t) (_ht64 : t < 18446744073709551616) {q r : Nat} (_hq0 : 0 < q) (_hq1 : q ≤ 4294967297) (_hr : r ≤ 4294967295) (_c1n : q ≤ 4294967295) (_c2 : r * 4294967296 + pn2 < q * d2) (_hbk : 4294967295 < r + d1) (hst : St Wb 70 [(0, (eqF (.slice (some (⟨g, i, none⟩ : Addr)) (n + 1) cap))), (1, (eqF (.slice (some bd) n cd))), (4, (eqF (.int .u32 0))), (5, (eqF (.int .i64 (n : Int)))), (6, (eqF (.int .u64 ((t : Int) : Int)))), (7, (eqF (.int .u64 (d1 : Int)))), (8, (eqF (.int .u64 (d2 : Int)))), (9, (eqF (.int .u64 (q : Int)))), (10, (eqF (.int .u64 (r : Int))))] [] a0 W0)
    (fin : ∀ a w, St Wb 70 [(0, (eqF (.slice (some (⟨g, i, none⟩ : Addr)) (n + 1) cap))), (1, (eqF (.slice (some bd) n cd))), (4, (eqF (.int .u32 0))), (5, (eqF (.int .i64 (n : Int)))), (6, (eqF (.int .u64 ((t : Int) : Int)))), (7, (eqF (.int .u64 (d1 : Int)))), (8, (eqF (.int .u64 (d2 : Int)))), (9, (eqF (.int .u64 (q : Int)))), (10, (eqF (.int .u64 (r : Int)))), (60, (eqF (.bool true)))] [] a w → Q .normal a w) : (Code.region 5 gs_o5 false).wp Tryd.prog Q a0 W0 := by
  have hP : Plan gs_o5 70 ([] : List BoxS) [] := ⟨by kernel_rfl, by kernel_rfl, by kernel_rfl, by kernel_rfl, by kernel_rfl, by kernel_rfl⟩
  refine region_st (F := [(eqF (.int .u64 (q : Int))), (eqF (.bool false)), (eqF (.bool false)), (eqF (.int .u64 (q : Int))), (eqF (.int .u64 (d2 : Int))), (eqF (.int .u64 ((q * d2 : Nat) : Int))), (eqF (.int .u64 (r : Int))), (eqF (.int .u64 ((r * 4294967296 : Nat) : Int))), (eqF (.slice (some (⟨g, i, none⟩ : Addr)) (n + 1) cap)), (eqF (.int .i64 (n : Int))), (eqF (.int .i64 ((n - 2 : Nat) : Int))), (eqF (.pointer (some (((⟨g, i, none⟩ : Addr)).add (n - 2))))), (eqF (.int .u32 (pn2 : Int))), (eqF (.int .u64 (pn2 : Int))), (eqF (.int .u64 (((r * 4294967296 + pn2 : Nat) : Int) : Int))), (eqF (.bool true)), (eqF (.bool true))]) hP hst rfl rfl ?_ ?_ fin
  · show Steps gs_o5 70 Wb W0 a0 _ _ _ 17
    refine steps_snoc (k := 16) ?_ (s_pickF (i := 16) hP (g := none) (isOp_of (by kernel_rfl) : IsOp gs_o5 16 none (.pick (.tmp 46) (.const (.bool true)) (.tmp 59))) (by kernel_rfl) (by kernel_rfl) (grd_none) (src_op (f := (eqF (.bool false))) 2 (by kernel_rfl) (by kernel_rfl) rfl) (src_op (f := (eqF (.bool true))) 15 (by kernel_rfl) (by kernel_rfl) rfl) rfl)
    refine steps_snoc (k := 15) ?_ (s_op2 (i := 15) hP (g := (some (2, false))) (isOp_of (by kernel_rfl) : IsOp gs_o5 15 (some (2, false)) (.binOp .gtr 49 (.tmp 49) (.tmp 58) 49)) (by kernel_rfl) (by kernel_rfl) (grd_op (d := 46) (by kernel_rfl) (by kernel_rfl) rfl rfl) (src_op (f := (eqF (.int .u64 ((q * d2 : Nat) : Int)))) 5 (by kernel_rfl) (by kernel_rfl) rfl) (src_op (f := (eqF (.int .u64 (((r * 4294967296 + pn2 : Nat) : Int) : Int)))) 14 (by kernel_rfl) (by kernel_rfl) rfl) (fun ρ w hx hy => h_gtr (r := true) (by simp; omega) hx hy) rfl)
    refine steps_snoc (k := 14) ?_ (s_op2 (i := 14) hP (g := (some (2, false))) (isOp_of (by kernel_rfl) : IsOp gs_o5 14 (some (2, false)) (.binOp .or 49 (.tmp 51) (.tmp 57) 49)) (by kernel_rfl) (by kernel_rfl) (grd_op (d := 46) (by kernel_rfl) (by kernel_rfl) rfl rfl) (src_op (f := (eqF (.int .u64 ((r * 4294967296 : Nat) : Int)))) 7 (by kernel_rfl) (by kernel_rfl) rfl) (src_op (f := (eqF (.int .u64 (pn2 : Int)))) 13 (by kernel_rfl) (by kernel_rfl) rfl) (fun ρ w hx hy => h_or64 (z := (((r * 4294967296 + pn2 : Nat) : Int) : Int)) (by rw [show ((r * 4294967296 : Nat) : Int) = (r : Int) * 4294967296 from by omega]; exact or_word r pn2 (by omega) bp2) hx hy) rfl)
    refine steps_snoc (k := 13) ?_ (s_op1 (i := 13) hP (g := (some (2, false))) (isOp_of (by kernel_rfl) : IsOp gs_o5 13 (some (2, false)) (.convert 38 49 (.tmp 56))) (by kernel_rfl) (by kernel_rfl) (grd_op (d := 46) (by kernel_rfl) (by kernel_rfl) rfl rfl) (src_op (f := (eqF (.int .u32 (pn2 : Int)))) 12 (by kernel_rfl) (by kernel_rfl) rfl) (fun ρ w hx => h_conv32 (by omega) (by omega) hx) rfl)
    refine steps_snoc (k := 12) ?_ (s_loadP (i := 12) hP (g := (some (2, false))) (isOp_of (by kernel_rfl) : IsOp gs_o5 12 (some (2, false)) (.load 38 (.tmp 55))) (by kernel_rfl) (by kernel_rfl) (grd_op (d := 46) (by kernel_rfl) (by kernel_rfl) rfl rfl) (src_op (f := (eqF (.pointer (some (((⟨g, i, none⟩ : Addr)).add (n - 2)))))) 11 (by kernel_rfl) (by kernel_rfl) rfl) cp2 load32_run rfl)
    refine steps_snoc (k := 11) ?_ (s_op2 (i := 11) hP (g := (some (2, false))) (isOp_of (by kernel_rfl) : IsOp gs_o5 11 (some (2, false)) (.indexAddr 22 (.tmp 52) (.tmp 54))) (by kernel_rfl) (by kernel_rfl) (grd_op (d := 46) (by kernel_rfl) (by kernel_rfl) rfl rfl) (src_op (f := (eqF (.slice (some (⟨g, i, none⟩ : Addr)) (n + 1) cap))) 8 (by kernel_rfl) (by kernel_rfl) rfl) (src_op (f := (eqF (.int .i64 ((n - 2 : Nat) : Int)))) 10 (by kernel_rfl) (by kernel_rfl) rfl) (fun ρ w hx hy => h_idx (k := n - 2) (by omega) hx hy) rfl)
    refine steps_snoc (k := 10) ?_ (s_op2 (i := 10) hP (g := (some (2, false))) (isOp_of (by kernel_rfl) : IsOp gs_o5 10 (some (2, false)) (.binOp .sub 3 (.tmp 53) (.const (.int .i64 2)) 3)) (by kernel_rfl) (by kernel_rfl) (grd_op (d := 46) (by kernel_rfl) (by kernel_rfl) rfl rfl) (src_op (f := (eqF (.int .i64 (n : Int)))) 9 (by kernel_rfl) (by kernel_rfl) rfl) (src_const _) (fun ρ w hx hy => h_sub (z := ((n - 2 : Nat) : Int)) (by rw [IntKind.wrap_i64]; omega) hx hy) rfl)
    refine steps_snoc (k := 9) ?_ (s_move (i := 9) hP (g := (some (2, false))) (isOp_of (by kernel_rfl) : IsOp gs_o5 9 (some (2, false)) (.move (.tmp 5))) (by kernel_rfl) (by kernel_rfl) (grd_op (d := 46) (by kernel_rfl) (by kernel_rfl) rfl rfl) (src_low hst 3 rfl (by kernel_rfl)) rfl)
    refine steps_snoc (k := 8) ?_ (s_move (i := 8) hP (g := (some (2, false))) (isOp_of (by kernel_rfl) : IsOp gs_o5 8 (some (2, false)) (.move (.tmp 0))) (by kernel_rfl) (by kernel_rfl) (grd_op (d := 46) (by kernel_rfl) (by kernel_rfl) rfl rfl) (src_low hst 0 rfl (by kernel_rfl)) rfl)
    refine steps_snoc (k := 7) ?_ (s_op2 (i := 7) hP (g := (some (2, false))) (isOp_of (by kernel_rfl) : IsOp gs_o5 7 (some (2, false)) (.binOp .shl 49 (.tmp 50) (.const (.int .u64 32)) 67)) (by kernel_rfl) (by kernel_rfl) (grd_op (d := 46) (by kernel_rfl) (by kernel_rfl) rfl rfl) (src_op (f := (eqF (.int .u64 (r : Int)))) 6 (by kernel_rfl) (by kernel_rfl) rfl) (src_const _) (fun ρ w hx hy => h_shl32 (z := ((r * 4294967296 : Nat) : Int)) (by rw [IntKind.wrap_u64]; omega) hx hy) rfl)
    refine steps_snoc (k := 6) ?_ (s_move (i := 6) hP (g := (some (2, false))) (isOp_of (by kernel_rfl) : IsOp gs_o5 6 (some (2, false)) (.move (.tmp 10))) (by kernel_rfl) (by kernel_rfl) (grd_op (d := 46) (by kernel_rfl) (by kernel_rfl) rfl rfl) (src_low hst 8 rfl (by kernel_rfl)) rfl)
    refine steps_snoc (k := 5) ?_ (s_op2 (i := 5) hP (g := (some (2, false))) (isOp_of (by kernel_rfl) : IsOp gs_o5 5 (some (2, false)) (.binOp .mul 49 (.tmp 47) (.tmp 48) 49)) (by kernel_rfl) (by kernel_rfl) (grd_op (d := 46) (by kernel_rfl) (by kernel_rfl) rfl rfl) (src_op (f := (eqF (.int .u64 (q : Int)))) 3 (by kernel_rfl) (by kernel_rfl) rfl) (src_op (f := (eqF (.int .u64 (d2 : Int)))) 4 (by kernel_rfl) (by kernel_rfl) rfl) (fun ρ w hx hy => h_mul (z := ((q * d2 : Nat) : Int)) (by rw [← Int.natCast_mul, IntKind.wrap_u64]; have := mul_bd (show q < 4294967296 by omega) bd2; omega) hx hy) rfl)
    refine steps_snoc (k := 4) ?_ (s_move (i := 4) hP (g := (some (2, false))) (isOp_of (by kernel_rfl) : IsOp gs_o5 4 (some (2, false)) (.move (.tmp 8))) (by kernel_rfl) (by kernel_rfl) (grd_op (d := 46) (by kernel_rfl) (by kernel_rfl) rfl rfl) (src_low hst 6 rfl (by kernel_rfl)) rfl)
    refine steps_snoc (k := 3) ?_ (s_move (i := 3) hP (g := (some (2, false))) (isOp_of (by kernel_rfl) : IsOp gs_o5 3 (some (2, false)) (.move (.tmp 9))) (by kernel_rfl) (by kernel_rfl) (grd_op (d := 46) (by kernel_rfl) (by kernel_rfl) rfl rfl) (src_low hst 7 rfl (by kernel_rfl)) rfl)
    refine steps_snoc (k := 2) ?_ (s_move (i := 2) hP (g := none) (isOp_of (by kernel_rfl) : IsOp gs_o5 2 none (.move (.tmp 45))) (by kernel_rfl) (by kernel_rfl) (grd_none) (src_op (f := (eqF (.bool false))) 1 (by kernel_rfl) (by kernel_rfl) rfl) rfl)
    refine steps_snoc (k := 1) ?_ (s_op2 (i := 1) hP (g := none) (isOp_of (by kernel_rfl) : IsOp gs_o5 1 none (.binOp .gtr 49 (.tmp 44) (.const (.int .u64 4294967295)) 49)) (by kernel_rfl) (by kernel_rfl) (grd_none) (src_op (f := (eqF (.int .u64 (q : Int)))) 0 (by kernel_rfl) (by kernel_rfl) rfl) (src_const _) (fun ρ w hx hy => h_gtr (r := false) (by simp; omega) hx hy) rfl)
    refine steps_snoc (k := 0) ?_ (s_move (i := 0) hP (g := none) (isOp_of (by kernel_rfl) : IsOp gs_o5 0 none (.move (.tmp 9))) (by kernel_rfl) (by kernel_rfl) (grd_none) (src_low hst 7 rfl (by kernel_rfl)) rfl)
    exact steps_nil
  · intro m a w hI hm
    exact ⟨(low_fact hst 0 rfl (by kernel_rfl) hI), (low_fact hst 1 rfl (by kernel_rfl) hI), (low_fact hst 2 rfl (by kernel_rfl) hI), (low_fact hst 3 rfl (by kernel_rfl) hI), (low_fact hst 4 rfl (by kernel_rfl) hI), (low_fact hst 5 rfl (by kernel_rfl) hI), (low_fact hst 6 rfl (by kernel_rfl) hI), (low_fact hst 7 rfl (by kernel_rfl) hI), (low_fact hst 8 rfl (by kernel_rfl) hI), (out_op hI hm 16 60 _ (by kernel_rfl) rfl), trivial⟩
set_option maxRecDepth 100000 in
theorem gs_r6c {Q : Exit → Act → World → Prop} {Wb W0 : World} {a0 : Act} {g i n cap cd pn pn1 pn2 d1 d2 t : Nat} {bd : Addr} (_hn : 2 ≤ n) (_hnb : n ≤ 1099511627776) (_cp : Wb.cell? ((⟨g, i, none⟩ : Addr).add n) = some (.int .u32 (pn : Int))) (_cp1 : Wb.cell? ((⟨g, i, none⟩ : Addr).add (n - 1)) = some (.int .u32 (pn1 : Int))) (_cp2 : Wb.cell? ((⟨g, i, none⟩ : Addr).add (n - 2)) = some (.int .u32 (pn2 : Int))) (_cd1 : Wb.cell? (bd.add (n - 1)) = some (.int .u32 (d1 : Int))) (_cd2 : Wb.cell? (bd.add (n - 2)) = some (.int .u32 (d2 : Int))) (_bp : pn < 4294967296) (_bp1 : pn1 < 4294967296) (_bp2 : pn2 < 4294967296) (_bd1 : d1 < 4294967296) (_bd2 : d2 < 4294967296) (_hd : 2147483648 ≤ d1) (_ht : pn * 4294967296 + pn1 = t) (_ht64 : t < 18446744073709551616) {q r : Nat} (_hq0 : 0 < q) (_hq1 : q ≤ 4294967297) (_hr : r ≤ 4294967295) (_c1n : q ≤ 4294967295) (_c2 : r * 4294967296 + pn2 < q * d2) (_hbk : 4294967295 < r + d1) (hst : St Wb 70 [(0, (eqF (.slice (some (⟨g, i, none⟩ : Addr)) (n + 1) cap))), (1, (eqF (.slice (some bd) n cd))), (4, (eqF (.int .u32 0))), (5, (eqF (.int .i64 (n : Int)))), (6, (eqF (.int .u64 ((t : Int) : Int)))), (7, (eqF (.int .u64 (d1 : Int)))), (8, (eqF (.int .u64 (d2 : Int)))), (9, (eqF (.int .u64 (q : Int)))), (10, (eqF (.int .u64 (r : Int)))), (60, (eqF (.bool true)))] [] a0 W0)
    (fin : ∀ a w, St Wb 70 [(0, (eqF (.slice (some (⟨g, i, none⟩ : Addr)) (n + 1) cap))), (1, (eqF (.slice (some bd) n cd))), (4, (eqF (.int .u32 0))), (5, (eqF (.int .i64 (n : Int)))), (6, (eqF (.int .u64 ((t : Int) : Int)))), (7, (eqF (.int .u64 (d1 : Int)))), (8, (eqF (.int .u64 (d2 : Int)))), (9, (eqF (.int .u64 ((q - 1 : Nat) : Int)))), (10, (eqF (.int .u64 (r : Int)))), (60, (eqF (.bool true)))] [] a w → Q .normal a w) : (Code.region 6 gs_o6 false).wp Tryd.prog Q a0 W0 := by
  have hP : Plan gs_o6 70 ([] : List BoxS) [] := ⟨by kernel_rfl, by kernel_rfl, by kernel_rfl, by kernel_rfl, by kernel_rfl, by kernel_rfl⟩
  refine region_st (F := [(eqF (.int .u64 (q : Int))), (eqF (.int .u64 ((q - 1 : Nat) : Int))), (eqF (.int .u64 ((q - 1 : Nat) : Int)))]) hP hst rfl rfl ?_ ?_ fin
  · show Steps gs_o6 70 Wb W0 a0 _ _ _ 3
    refine steps_snoc (k := 2) ?_ (s_assign (i := 2) hP (g := none) (isOp_of (by kernel_rfl) : IsOp gs_o6 2 none (.assign (.tmp 62))) (by kernel_rfl) (by kernel_rfl) (grd_none) (src_op (f := (eqF (.int .u64 ((q - 1 : Nat) : Int)))) 1 (by kernel_rfl) (by kernel_rfl) rfl) rfl)
    refine steps_snoc (k := 1) ?_ (s_op2 (i := 1) hP (g := none) (isOp_of (by kernel_rfl) : IsOp gs_o6 1 none (.binOp .sub 49 (.tmp 61) (.const (.int .u64 1)) 49)) (by kernel_rfl) (by kernel_rfl) (grd_none) (src_op (f := (eqF (.int .u64 (q : Int)))) 0 (by kernel_rfl) (by kernel_rfl) rfl) (src_const _) (fun ρ w hx hy => h_sub (z := ((q - 1 : Nat) : Int)) (by rw [IntKind.wrap_u64]; omega) hx hy) rfl)
    refine steps_snoc (k := 0) ?_ (s_move (i := 0) hP (g := none) (isOp_of (by kernel_rfl) : IsOp gs_o6 0 none (.move (.tmp 9))) (by kernel_rfl) (by kernel_rfl) (grd_none) (src_low hst 7 rfl (by kernel_rfl)) rfl)
    exact steps_nil
  · intro m a w hI hm
    exact ⟨(low_fact hst 0 rfl (by kernel_rfl) hI), (low_fact hst 1 rfl (by kernel_rfl) hI), (low_fact hst 2 rfl (by kernel_rfl) hI), (low_fact hst 3 rfl (by kernel_rfl) hI), (low_fact hst 4 rfl (by kernel_rfl) hI), (low_fact hst 5 rfl (by kernel_rfl) hI), (low_fact hst 6 rfl (by kernel_rfl) hI), (out_op hI hm 2 9 _ (by kernel_rfl) rfl), (low_fact hst 8 rfl (by kernel_rfl) hI), (low_fact hst 9 rfl (by kernel_rfl) hI), trivial⟩
set_option maxRecDepth 100000 in
theorem gs_r7c {Q : Exit → Act → World → Prop} {Wb W0 : World} {a0 : Act} {g i n cap cd pn pn1 pn2 d1 d2 t : Nat} {bd : Addr} (_hn : 2 ≤ n) (_hnb : n ≤ 1099511627776) (_cp : Wb.cell? ((⟨g, i, none⟩ : Addr).add n) = some (.int .u32 (pn : Int))) (_cp1 : Wb.cell? ((⟨g, i, none⟩ : Addr).add (n - 1)) = some (.int .u32 (pn1 : Int))) (_cp2 : Wb.cell? ((⟨g, i, none⟩ : Addr).add (n - 2)) = some (.int .u32 (pn2 : Int))) (_cd1 : Wb.cell? (bd.add (n - 1)) = some (.int .u32 (d1 : Int))) (_cd2 : Wb.cell? (bd.add (n - 2)) = some (.int .u32 (d2 : Int))) (_bp : pn < 4294967296) (_bp1 : pn1 < 4294967296) (_bp2 : pn2 < 4294967296) (_bd1 : d1 < 4294967296) (_bd2 : d2 < 4294967296) (_hd : 2147483648 ≤ d1) (_ht : pn * 4294967296 + pn1 = t) (_ht64 : t < 18446744073709551616) {q r : Nat} (_hq0 : 0 < q) (_hq1 : q ≤ 4294967297) (_hr : r ≤ 4294967295) (_c1n : q ≤ 4294967295) (_c2 : r * 4294967296 + pn2 < q * d2) (_hbk : 4294967295 < r + d1) (hst : St Wb 70 [(0, (eqF (.slice (some (⟨g, i, none⟩ : Addr)) (n + 1) cap))), (1, (eqF (.slice (some bd) n cd))), (4, (eqF (.int .u32 0))), (5, (eqF (.int .i64 (n : Int)))), (6, (eqF (.int .u64 ((t : Int) : Int)))), (7, (eqF (.int .u64 (d1 : Int)))), (8, (eqF (.int .u64 (d2 : Int)))), (9, (eqF (.int .u64 ((q - 1 : Nat) : Int)))), (10, (eqF (.int .u64 (r : Int)))), (60, (eqF (.bool true)))] [] a0 W0)
    (fin : ∀ a w, St Wb 70 [(0, (eqF (.slice (some (⟨g, i, none⟩ : Addr)) (n + 1) cap))), (1, (eqF (.slice (some bd) n cd))), (4, (eqF (.int .u32 0))), (5, (eqF (.int .i64 (n : Int)))), (6, (eqF (.int .u64 ((t : Int) : Int)))), (7, (eqF (.int .u64 (d1 : Int)))), (8, (eqF (.int .u64 (d2 : Int)))), (9, (eqF (.int .u64 ((q - 1 : Nat) : Int)))), (10, (eqF (.int .u64 ((r + d1 : Nat) : Int)))), (60, (eqF (.bool true)))] [] a w → Q .normal a w) : (Code.region 7 gs_o7 false).wp Tryd.prog Q a0 W0 := by
  have hP : Plan gs_o7 70 ([] : List BoxS) [] := ⟨by kernel_rfl, by kernel_rfl, by kernel_rfl, by kernel_rfl, by kernel_rfl, by kernel_rfl⟩
  refine region_st (F := [(eqF (.int .u64 (r : Int))), (eqF (.int .u64 (d1 : Int))), (eqF (.int .u64 ((r + d1 : Nat) : Int))), (eqF (.int .u64 ((r + d1 : Nat) : Int)))]) hP hst rfl rfl ?_ ?_ fin
  · show Steps gs_o7 70 Wb W0 a0 _ _ _ 4
    refine steps_snoc (k := 3) ?_ (s_assign (i := 3) hP (g := none) (isOp_of (by kernel_rfl) : IsOp gs_o7 3 none (.assign (.tmp 65))) (by kernel_rfl) (by kernel_rfl) (grd_none) (src_op (f := (eqF (.int .u64 ((r + d1 : Nat) : Int)))) 2 (by kernel_rfl) (by kernel_rfl) rfl) rfl)
    refine steps_snoc (k := 2) ?_ (s_op2 (i := 2) hP (g := none) (isOp_of (by kernel_rfl) : IsOp gs_o7 2 none (.binOp .add 49 (.tmp 63) (.tmp 64) 49)) (by kernel_rfl) (by kernel_rfl) (grd_none) (src_op (f := (eqF (.int .u64 (r : Int)))) 0 (by kernel_rfl) (by kernel_rfl) rfl) (src_op (f := (eqF (.int .u64 (d1 : Int)))) 1 (by kernel_rfl) (by kernel_rfl) rfl) (fun ρ w hx hy => h_add (z := ((r + d1 : Nat) : Int)) (by rw [IntKind.wrap_u64]; omega) hx hy) rfl)
    refine steps_snoc (k := 1) ?_ (s_move (i := 1) hP (g := none) (isOp_of (by kernel_rfl) : IsOp gs_o7 1 none (.move (.tmp 7))) (by kernel_rfl) (by kernel_rfl) (grd_none) (src_low hst 5 rfl (by kernel_rfl)) rfl)
    refine steps_snoc (k := 0) ?_ (s_move (i := 0) hP (g := none) (isOp_of (by kernel_rfl) : IsOp gs_o7 0 none (.move (.tmp 10))) (by kernel_rfl) (by kernel_rfl) (grd_none) (src_low hst 8 rfl (by kernel_rfl)) rfl)
    exact steps_nil
  · intro m a w hI hm
    exact ⟨(low_fact hst 0 rfl (by kernel_rfl) hI), (low_fact hst 1 rfl (by kernel_rfl) hI), (low_fact hst 2 rfl (by kernel_rfl) hI), (low_fact hst 3 rfl (by kernel_rfl) hI), (low_fact hst 4 rfl (by kernel_rfl) hI), (low_fact hst 5 rfl (by kernel_rfl) hI), (low_fact hst 6 rfl (by kernel_rfl) hI), (low_fact hst 7 rfl (by kernel_rfl) hI), (out_op hI hm 3 10 _ (by kernel_rfl) rfl), (low_fact hst 9 rfl (by kernel_rfl) hI), trivial⟩
set_option maxRecDepth 100000 in
theorem gs_r8c {Q : Exit → Act → World → Prop} {Wb W0 : World} {a0 : Act} {g i n cap cd pn pn1 pn2 d1 d2 t : Nat} {bd : Addr} (_hn : 2 ≤ n) (_hnb : n ≤ 1099511627776) (_cp : Wb.cell? ((⟨g, i, none⟩ : Addr).add n) = some (.int .u32 (pn : Int))) (_cp1 : Wb.cell? ((⟨g, i, none⟩ : Addr).add (n - 1)) = some (.int .u32 (pn1 : Int))) (_cp2 : Wb.cell? ((⟨g, i, none⟩ : Addr).add (n - 2)) = some (.int .u32 (pn2 : Int))) (_cd1 : Wb.cell? (bd.add (n - 1)) = some (.int .u32 (d1 : Int))) (_cd2 : Wb.cell? (bd.add (n - 2)) = some (.int .u32 (d2 : Int))) (_bp : pn < 4294967296) (_bp1 : pn1 < 4294967296) (_bp2 : pn2 < 4294967296) (_bd1 : d1 < 4294967296) (_bd2 : d2 < 4294967296) (_hd : 2147483648 ≤ d1) (_ht : pn * 4294967296 + pn1 = t) (_ht64 : t < 18446744073709551616) {q r : Nat} (_hq0 : 0 < q) (_hq1 : q ≤ 4294967297) (_hr : r ≤ 4294967295) (_c1n : q ≤ 4294967295) (_c2 : r * 4294967296 + pn2 < q * d2) (_hbk : 4294967295 < r + d1) (hst : St Wb 70 [(0, (eqF (.slice (some (⟨g, i, none⟩ : Addr)) (n + 1) cap))), (1, (eqF (.slice (some bd) n cd))), (4, (eqF (.int .u32 0))), (5, (eqF (.int .i64 (n : Int)))), (6, (eqF (.int .u64 ((t : Int) : Int)))), (7, (eqF (.int .u64 (d1 : Int)))), (8, (eqF (.int .u64 (d2 : Int)))), (9, (eqF (.int .u64 ((q - 1 : Nat) : Int)))), (10, (eqF (.int .u64 ((r + d1 : Nat) : Int)))), (60, (eqF (.bool true)))] [] a0 W0)
    (fin : ∀ a w, St Wb 70 [(0, (eqF (.slice (some (⟨g, i, none⟩ : Addr)) (n + 1) cap))), (1, (eqF (.slice (some bd) n cd))), (4, (eqF (.int .u32 0))), (5, (eqF (.int .i64 (n : Int)))), (6, (eqF (.int .u64 ((t : Int) : Int)))), (7, (eqF (.int .u64 (d1 : Int)))), (8, (eqF (.int .u64 (d2 : Int)))), (9, (eqF (.int .u64 ((q - 1 : Nat) : Int)))), (10, (eqF (.int .u64 ((r + d1 : Nat) : Int)))), (60, (eqF (.bool true))), (67, (eqF (.bool true)))] [] a w → Q .normal a w) : (Code.region 8 gs_o8 false).wp Tryd.prog Q a0 W0 := by
  have hP : Plan gs_o8 70 ([] : List BoxS) [] := ⟨by kernel_rfl, by kernel_rfl, by kernel_rfl, by kernel_rfl, by kernel_rfl, by kernel_rfl⟩
  refine region_st (F := [(eqF (.int .u64 ((r + d1 : Nat) : Int))), (eqF (.bool true))]) hP hst rfl rfl ?_ ?_ fin
  · show Steps gs_o8 70 Wb W0 a0 _ _ _ 2
    refine steps_snoc (k := 1) ?_ (s_op2 (i := 1) hP (g := none) (isOp_of (by kernel_rfl) : IsOp gs_o8 1 none (.binOp .gtr 49 (.tmp 66) (.const (.int .u64 4294967295)) 49)) (by kernel_rfl) (by kernel_rfl) (grd_none) (src_op (f := (eqF (.int .u64 ((r + d1 : Nat) : Int)))) 0 (by kernel_rfl) (by kernel_rfl) rfl) (src_const _) (fun ρ w hx hy => h_gtr (r := true) (by simp; omega) hx hy) rfl)
    refine steps_snoc (k := 0) ?_ (s_move (i := 0) hP (g := none) (isOp_of (by kernel_rfl) : IsOp gs_o8 0 none (.move (.tmp 10))) (by kernel_rfl) (by kernel_rfl) (grd_none) (src_low hst 8 rfl (by kernel_rfl)) rfl)
    exact steps_nil
  · intro m a w hI hm
    exact ⟨(low_fact hst 0 rfl (by kernel_rfl) hI), (low_fact hst 1 rfl (by kernel_rfl) hI), (low_fact hst 2 rfl (by kernel_rfl) hI), (low_fact hst 3 rfl (by kernel_rfl) hI), (low_fact hst 4 rfl (by kernel_rfl) hI), (low_fact hst 5 rfl (by kernel_rfl) hI), (low_fact hst 6 rfl (by kernel_rfl) hI), (low_fact hst 7 rfl (by kernel_rfl) hI), (low_fact hst 8 rfl (by kernel_rfl) hI), (low_fact hst 9 rfl (by kernel_rfl) hI), (out_op hI hm 1 67 _ (by kernel_rfl) rfl), trivial⟩
set_option maxRecDepth 100000 in
theorem gs_r9b {Q : Exit → Act → World → Prop} {Wb W0 : World} {a0 : Act} {g i n cap cd pn pn1 pn2 d1 d2 t : Nat} {bd : Addr} (_hn : 2 ≤ n) (_hnb : n ≤ 1099511627776) (_cp : Wb.cell? ((⟨g, i, none⟩ : Addr).add n) = some (.int .u32 (pn : Int))) (_cp1 : Wb.cell? ((⟨g, i, none⟩ : Addr).add (n - 1)) = some (.int .u32 (pn1 : Int))) (_cp2 : Wb.cell? ((⟨g, i, none⟩ : Addr).add (n - 2)) = some (.int .u32 (pn2 : Int))) (_cd1 : Wb.cell? (bd.add (n - 1)) = some (.int .u32 (d1 : Int))) (_cd2 : Wb.cell? (bd.add (n - 2)) = some (.int .u32 (d2 : Int))) (_bp : pn < 4294967296) (_bp1 : pn1 < 4294967296) (_bp2 : pn2 < 4294967296) (_bd1 : d1 < 4294967296) (_bd2 : d2 < 4294967296) (_hd : 2147483648 ≤ d1) (_ht : pn * 4294967296 + pn1 = t) (_ht64 : t < 18446744073709551616) {q2 r2 : Nat} (_k1 : q2 < 4294967296) (hst : St Wb 70 [(0, (eqF (.slice (some (⟨g, i, none⟩ : Addr)) (n + 1) cap))), (1, (eqF (.slice (some bd) n cd))), (4, (eqF (.int .u32 0))), (5, (eqF (.int .i64 (n : Int)))), (6, (eqF (.int .u64 ((t : Int) : Int)))), (7, (eqF (.int .u64 (d1 : Int)))), (8, (eqF (.int .u64 (d2 : Int)))), (9, (eqF (.int .u64 (q2 : Int)))), (10, (eqF (.int .u64 (r2 : Int)))), (60, (eqF (.bool true))), (67, (eqF (.bool true)))] [] a0 W0)
    (fin : ∀ a w, St Wb 70 [(0, (eqF (.slice (some (⟨g, i, none⟩ : Addr)) (n + 1) cap))), (1, (eqF (.slice (some bd) n cd))), (4, (eqF (.int .u32 (q2 : Int)))), (5, (eqF (.int .i64 (n : Int)))), (6, (eqF (.int .u64 ((t : Int) : Int)))), (7, (eqF (.int .u64 (d1 : Int)))), (8, (eqF (.int .u64 (d2 : Int)))), (9, (eqF (.int .u64 (q2 : Int)))), (10, (eqF (.int .u64 (r2 : Int)))), (60, (eqF (.bool true))), (67, (eqF (.bool true)))] [] a w → Q .normal a w) : (Code.region 9 gs_o9 false).wp Tryd.prog Q a0 W0 := by
  have hP : Plan gs_o9 70 ([] : List BoxS) [] := ⟨by kernel_rfl, by kernel_rfl, by kernel_rfl, by kernel_rfl, by kernel_rfl, by kernel_rfl⟩
  refine region_st (F := [(eqF (.int .u64 (q2 : Int))), (eqF (.int .u32 (q2 : Int))), (eqF (.int .u32 (q2 : Int)))]) hP hst rfl rfl ?_ ?_ fin
  · show Steps gs_o9 70 Wb W0 a0 _ _ _ 3
    refine steps_snoc (k := 2) ?_ (s_assign (i := 2) hP (g := none) (isOp_of (by kernel_rfl) : IsOp gs_o9 2 none (.assign (.tmp 69))) (by kernel_rfl) (by kernel_rfl) (grd_none) (src_op (f := (eqF (.int .u32 (q2 : Int)))) 1 (by kernel_rfl) (by kernel_rfl) rfl) rfl)
    refine steps_snoc (k := 1) ?_ (s_op1 (i := 1) hP (g := none) (isOp_of (by kernel_rfl) : IsOp gs_o9 1 none (.convert 49 38 (.tmp 68))) (by kernel_rfl) (by kernel_rfl) (grd_none) (src_op (f := (eqF (.int .u64 (q2 : Int)))) 0 (by kernel_rfl) (by kernel_rfl) rfl) (fun ρ w hx => h_conv64 (z := (q2 : Int)) (by rw [IntKind.wrap_u32]; omega) hx) rfl)
    refine steps_snoc (k := 0) ?_ (s_move (i := 0) hP (g := none) (isOp_of (by kernel_rfl) : IsOp gs_o9 0 none (.move (.tmp 9))) (by kernel_rfl) (by kernel_rfl) (grd_none) (src_low hst 7 rfl (by kernel_rfl)) rfl)
    exact steps_nil
  · intro m a w hI hm
    exact ⟨(low_fact hst 0 rfl (by kernel_rfl) hI), (low_fact hst 1 rfl (by kernel_rfl) hI), (out_op hI hm 2 4 _ (by kernel_rfl) rfl), (low_fact hst 3 rfl (by kernel_rfl) hI), (low_fact hst 4 rfl (by kernel_rfl) hI), (low_fact hst 5 rfl (by kernel_rfl) hI), (low_fact hst 6 rfl (by kernel_rfl) hI), (low_fact hst 7 rfl (by kernel_rfl) hI), (low_fact hst 8 rfl (by kernel_rfl) hI), (low_fact hst 9 rfl (by kernel_rfl) hI), (low_fact hst 10 rfl (by kernel_rfl) hI), trivial⟩
set_option maxRecDepth 100000 in
theorem gs_r5d {Q : Exit → Act → World → Prop} {Wb W0 : World} {a0 : Act} {g i n cap cd pn pn1 pn2 d1 d2 t : Nat} {bd : Addr} (_hn : 2 ≤ n) (_hnb : n ≤ 1099511627776) (_cp : Wb.cell? ((⟨g, i, none⟩ : Addr).add n) = some (.int .u32 (pn : Int))) (_cp1 : Wb.cell? ((⟨g, i, none⟩ : Addr).add (n - 1)) = some (.int .u32 (pn1 : Int))) (cp2 : Wb.cell? ((⟨g, i, none⟩ : Addr).add (n - 2)) = some (.int .u32 (pn2 : Int))) (_cd1 : Wb.cell? (bd.add (n - 1)) = some (.int .u32 (d1 : Int))) (_cd2 : Wb.cell? (bd.add (n - 2)) = some (.int .u32 (d2 : Int))) (_bp : pn < 4294967296) (_bp1 : pn1 < 4294967296) (bp2 : pn2 < 4294967296) (_bd1 : d1 < 4294967296) (bd2 : d2 < 4294967296) (_hd : 2147483648 ≤ d1) (_ht : pn * 4294967296 + pn1 = t) (_ht64 : t < 18446744073709551616) {q r : Nat} (_hq0 : 0 < q) (_hq1 : q ≤ 4294967297) (_hr : r ≤ 4294967295) (_c1n : q ≤ 4294967295) (_c2 : r * 4294967296 + pn2 < q * d2) (_hnb2 : r + d1 ≤ 4294967295) (hst : St Wb 70 [(0, (eqF (.slice (some (⟨g, i, none⟩ : Addr)) (n + 1) cap))), (1, (eqF (.slice (some bd) n cd))), (4, (eqF (.int .u32 0))), (5, (eqF (.int .i64 (n : Int)))), (6, (eqF (.int .u64 ((t : Int) : Int)))), (7, (eqF (.int .u64 (d1 : Int)))), (8, (eqF (.int .u64 (d2 : Int)))), (9, (eqF (.int .u64 (q : Int)))), (10, (eqF (.int .u64 (r : Int))))] [] a0 W0)
    (fin : ∀ a w, St Wb 70 [(0, (eqF (.slice (some (⟨g, i, none⟩ : Addr)) (n + 1) cap))), (1, (eqF (.slice (some bd) n cd))), (4, (eqF (.int .u32 0))), (5, (eqF (.int .i64 (n : Int)))), (6, (eqF (.int .u64 ((t : Int) : Int)))), (7, (eqF (.int .u64 (d1 : Int)))), (8, (eqF (.int .u64 (d2 : Int)))), (9, (eqF (.int .u64 (q : Int)))), (10, (eqF (.int .u64 (r : Int)))), (60, (eqF (.bool true)))] [] a w → Q .normal a w) : (Code.region 5 gs_o5 false).wp Tryd.prog Q a0 W0 := by
  have hP : Plan gs_o5 70 ([] : List BoxS) [] := ⟨by kernel_rfl, by kernel_rfl, by kernel_rfl, by kernel_rfl, by kernel_rfl, by kernel_rfl⟩
  refine region_st (F := [(eqF (.int .u64 (q : Int))), (eqF (.bool false)), (eqF (.bool false)), (eqF (.int .u64 (q : Int))), (eqF (.int .u64 (d2 : Int))), (eqF (.int .u64 ((q * d2 : Nat) : Int))), (eqF (.int .u64 (r : Int))), (eqF (.int .u64 ((r * 4294967296 : Nat) : Int))), (eqF (.slice (some (⟨g, i, none⟩ : Addr)) (n + 1) cap)), (eqF (.int .i64 (n : Int))), (eqF (.int .i64 ((n - 2 : Nat) : Int))), (eqF (.pointer (some (((⟨g, i, none⟩ : Addr)).add (n - 2))))), (eqF (.int .u32 (pn2 : Int))), (eqF (.int .u64 (pn2 : Int))), (eqF (.int .u64 (((r * 4294967296 + pn2 : Nat) : Int) : Int))), (eqF (.bool true)), (eqF (.bool true))]) hP hst rfl rfl ?_ ?_ fin
  · show Steps gs_o5 70 Wb W0 a0 _ _ _ 17
    refine steps_snoc (k := 16) ?_ (s_pickF (i := 16) hP (g := none) (isOp_of (by kernel_rfl) : IsOp gs_o5 16 none (.pick (.tmp 46) (.const (.bool true)) (.tmp 59))) (by kernel_rfl) (by kernel_rfl) (grd_none) (src_op (f := (eqF (.bool false))) 2 (by kernel_rfl) (by kernel_rfl) rfl) (src_op (f := (eqF (.bool true))) 15 (by kernel_rfl) (by kernel_rfl) rfl) rfl)
    refine steps_snoc (k := 15) ?_ (s_op2 (i := 15) hP (g := (some (2, false))) (isOp_of (by kernel_rfl) : IsOp gs_o5 15 (some (2, false)) (.binOp .gtr 49 (.tmp 49) (.tmp 58) 49)) (by kernel_rfl) (by kernel_rfl) (grd_op (d := 46) (by kernel_rfl) (by kernel_rfl) rfl rfl) (src_op (f := (eqF (.int .u64 ((q * d2 : Nat) : Int)))) 5 (by kernel_rfl) (by kernel_rfl) rfl) (src_op (f := (eqF (.int .u64 (((r * 4294967296 + pn2 : Nat) : Int) : Int)))) 14 (by kernel_rfl) (by kernel_rfl) rfl) (fun ρ w hx hy => h_gtr (r := true) (by simp; omega) hx hy) rfl)
    refine steps_snoc (k := 14) ?_ (s_op2 (i := 14) hP (g := (some (2, false))) (isOp_of (by kernel_rfl) : IsOp gs_o5 14 (some (2, false)) (.binOp .or 49 (.tmp 51) (.tmp 57) 49)) (by kernel_rfl) (by kernel_rfl) (grd_op (d := 46) (by kernel_rfl) (by kernel_rfl) rfl rfl) (src_op (f := (eqF (.int .u64 ((r * 4294967296 : Nat) : Int)))) 7 (by kernel_rfl) (by kernel_rfl) rfl) (src_op (f := (eqF (.int .u64 (pn2 : Int)))) 13 (by kernel_rfl) (by kernel_rfl) rfl) (fun ρ w hx hy => h_or64 (z := (((r * 4294967296 + pn2 : Nat) : Int) : Int)) (by rw [show ((r * 4294967296 : Nat) : Int) = (r : Int) * 4294967296 from by omega]; exact or_word r pn2 (by omega) bp2) hx hy) rfl)
    refine steps_snoc (k := 13) ?_ (s_op1 (i := 13) hP (g := (some (2, false))) (isOp_of (by kernel_rfl) : IsOp gs_o5 13 (some (2, false)) (.convert 38 49 (.tmp 56))) (by kernel_rfl) (by kernel_rfl) (grd_op (d := 46) (by kernel_rfl) (by kernel_rfl) rfl rfl) (src_op (f := (eqF (.int .u32 (pn2 : Int)))) 12 (by kernel_rfl) (by kernel_rfl) rfl) (fun ρ w hx => h_conv32 (by omega) (by omega) hx) rfl)
    refine steps_snoc (k := 12) ?_ (s_loadP (i := 12) hP (g := (some (2, false))) (isOp_of (by kernel_rfl) : IsOp gs_o5 12 (some (2, false)) (.load 38 (.tmp 55))) (by kernel_rfl) (by kernel_rfl) (grd_op (d := 46) (by kernel_rfl) (by kernel_rfl) rfl rfl) (src_op (f := (eqF (.pointer (some (((⟨g, i, none⟩ : Addr)).add (n - 2)))))) 11 (by kernel_rfl) (by kernel_rfl) rfl) cp2 load32_run rfl)
    refine steps_snoc (k := 11) ?_ (s_op2 (i := 11) hP (g := (some (2, false))) (isOp_of (by kernel_rfl) : IsOp gs_o5 11 (some (2, false)) (.indexAddr 22 (.tmp 52) (.tmp 54))) (by kernel_rfl) (by kernel_rfl) (grd_op (d := 46) (by kernel_rfl) (by kernel_rfl) rfl rfl) (src_op (f := (eqF (.slice (some (⟨g, i, none⟩ : Addr)) (n + 1) cap))) 8 (by kernel_rfl) (by kernel_rfl) rfl) (src_op (f := (eqF (.int .i64 ((n - 2 : Nat) : Int)))) 10 (by kernel_rfl) (by kernel_rfl) rfl) (fun ρ w hx hy => h_idx (k := n - 2) (by omega) hx hy) rfl)
    refine steps_snoc (k := 10) ?_ (s_op2 (i := 10) hP (g := (some (2, false))) (isOp_of (by kernel_rfl) : IsOp gs_o5 10 (some (2, false)) (.binOp .sub 3 (.tmp 53) (.const (.int .i64 2)) 3)) (by kernel_rfl) (by kernel_rfl) (grd_op (d := 46) (by kernel_rfl) (by kernel_rfl) rfl rfl) (src_op (f := (eqF (.int .i64 (n : Int)))) 9 (by kernel_rfl) (by kernel_rfl) rfl) (src_const _) (fun ρ w hx hy => h_sub (z := ((n - 2 : Nat) : Int)) (by rw [IntKind.wrap_i64]; omega) hx hy) rfl)
    refine steps_snoc (k := 9) ?_ (s_move (i := 9) hP (g := (some (2, false))) (isOp_of (by kernel_rfl) : IsOp gs_o5 9 (some (2, false)) (.move (.tmp 5))) (by kernel_rfl) (by kernel_rfl) (grd_op (d := 46) (by kernel_rfl) (by kernel_rfl) rfl rfl) (src_low hst 3 rfl (by kernel_rfl)) rfl)
    refine steps_snoc (k := 8) ?_ (s_move (i := 8) hP (g := (some (2, false))) (isOp_of (by kernel_rfl) : IsOp gs_o5 8 (some (2, false)) (.move (.tmp 0))) (by kernel_rfl) (by kernel_rfl) (grd_op (d := 46) (by kernel_rfl) (by kernel_rfl) rfl rfl) (src_low hst 0 rfl (by kernel_rfl)) rfl)
    refine steps_snoc (k := 7) ?_ (s_op2 (i := 7) hP (g := (some (2, false))) (isOp_of (by kernel_rfl) : IsOp gs_o5 7 (some (2, false)) (.binOp .shl 49 (.tmp 50) (.const (.int .u64 32)) 67)) (by kernel_rfl) (by kernel_rfl) (grd_op (d := 46) (by kernel_rfl) (by kernel_rfl) rfl rfl) (src_op (f := (eqF (.int .u64 (r : Int)))) 6 (by kernel_rfl) (by kernel_rfl) rfl) (src_const _) (fun ρ w hx hy => h_shl32 (z := ((r * 4294967296 : Nat) : Int)) (by rw [IntKind.wrap_u64]; omega) hx hy) rfl)
    refine steps_snoc (k := 6) ?_ (s_move (i := 6) hP (g := (some (2, false))) (isOp_of (by kernel_rfl) : IsOp gs_o5 6 (some (2, false)) (.move (.tmp 10))) (by kernel_rfl) (by kernel_rfl) (grd_op (d := 46) (by kernel_rfl) (by kernel_rfl) rfl rfl) (src_low hst 8 rfl (by kernel_rfl)) rfl)
    refine steps_snoc (k := 5) ?_ (s_op2 (i := 5) hP (g := (some (2, false))) (isOp_of (by kernel_rfl) : IsOp gs_o5 5 (some (2, false)) (.binOp .mul 49 (.tmp 47) (.tmp 48) 49)) (by kernel_rfl) (by kernel_rfl) (grd_op (d := 46) (by kernel_rfl) (by kernel_rfl) rfl rfl) (src_op (f := (eqF (.int .u64 (q : Int)))) 3 (by kernel_rfl) (by kernel_rfl) rfl) (src_op (f := (eqF (.int .u64 (d2 : Int)))) 4 (by kernel_rfl) (by kernel_rfl) rfl) (fun ρ w hx hy => h_mul (z := ((q * d2 : Nat) : Int)) (by rw [← Int.natCast_mul, IntKind.wrap_u64]; have := mul_bd (show q < 4294967296 by omega) bd2; omega) hx hy) rfl)
    refine steps_snoc (k := 4) ?_ (s_move (i := 4) hP (g := (some (2, false))) (isOp_of (by kernel_rfl) : IsOp gs_o5 4 (some (2, false)) (.move (.tmp 8))) (by kernel_rfl) (by kernel_rfl) (grd_op (d := 46) (by kernel_rfl) (by kernel_rfl) rfl rfl) (src_low hst 6 rfl (by kernel_rfl)) rfl)
    refine steps_snoc (k := 3) ?_ (s_move (i := 3) hP (g := (some (2, false))) (isOp_of (by kernel_rfl) : IsOp gs_o5 3 (some (2, false)) (.move (.tmp 9))) (by kernel_rfl) (by kernel_rfl) (grd_op (d := 46) (by kernel_rfl) (by kernel_rfl) rfl rfl) (src_low hst 7 rfl (by kernel_rfl)) rfl)
    refine steps_snoc (k := 2) ?_ (s_move (i := 2) hP (g := none) (isOp_of (by kernel_rfl) : IsOp gs_o5 2 none (.move (.tmp 45))) (by kernel_rfl) (by kernel_rfl) (grd_none) (src_op (f := (eqF (.bool false))) 1 (by kernel_rfl) (by kernel_rfl) rfl) rfl)
    refine steps_snoc (k := 1) ?_ (s_op2 (i := 1) hP (g := none) (isOp_of (by kernel_rfl) : IsOp gs_o5 1 none (.binOp .gtr 49 (.tmp 44) (.const (.int .u64 4294967295)) 49)) (by kernel_rfl) (by kernel_rfl) (grd_none) (src_op (f := (eqF (.int .u64 (q : Int)))) 0 (by kernel_rfl) (by kernel_rfl) rfl) (src_const _) (fun ρ w hx hy => h_gtr (r := false) (by simp; omega) hx hy) rfl)
    refine steps_snoc (k := 0) ?_ (s_move (i := 0) hP (g := none) (isOp_of (by kernel_rfl) : IsOp gs_o5 0 none (.move (.tmp 9))) (by kernel_rfl) (by kernel_rfl) (grd_none) (src_low hst 7 rfl (by kernel_rfl)) rfl)
    exact steps_nil
  · intro m a w hI hm
    exact ⟨(low_fact hst 0 rfl (by kernel_rfl) hI), (low_fact hst 1 rfl (by kernel_rfl) hI), (low_fact hst 2 rfl (by kernel_rfl) hI), (low_fact hst 3 rfl (by kernel_rfl) hI), (low_fact hst 4 rfl (by kernel_rfl) hI), (low_fact hst 5 rfl (by kernel_rfl) hI), (low_fact hst 6 rfl (by kernel_rfl) hI), (low_fact hst 7 rfl (by kernel_rfl) hI), (low_fact hst 8 rfl (by kernel_rfl) hI), (out_op hI hm 16 60 _ (by kernel_rfl) rfl), trivial⟩
set_option maxRecDepth 100000 in
theorem gs_r6d {Q : Exit → Act → World → Prop} {Wb W0 : World} {a0 : Act} {g i n cap cd pn pn1 pn2 d1 d2 t : Nat} {bd : Addr} (_hn : 2 ≤ n) (_hnb : n ≤ 1099511627776) (_cp : Wb.cell? ((⟨g, i, none⟩ : Addr).add n) = some (.int .u32 (pn : Int))) (_cp1 : Wb.cell? ((⟨g, i, none⟩ : Addr).add (n - 1)) = some (.int .u32 (pn1 : Int))) (_cp2 : Wb.cell? ((⟨g, i, none⟩ : Addr).add (n - 2)) = some (.int .u32 (pn2 : Int))) (_cd1 : Wb.cell? (bd.add (n - 1)) = some (.int .u32 (d1 : Int))) (_cd2 : Wb.cell? (bd.add (n - 2)) = some (.int .u32 (d2 : Int))) (_bp : pn < 4294967296) (_bp1 : pn1 < 4294967296) (_bp2 : pn2 < 4294967296) (_bd1 : d1 < 4294967296) (_bd2 : d2 < 4294967296) (_hd : 2147483648 ≤ d1) (_ht : pn * 4294967296 + pn1 = t) (_ht64 : t < 18446744073709551616) {q r : Nat} (_hq0 : 0 < q) (_hq1 : q ≤ 4294967297) (_hr : r ≤ 4294967295) (_c1n : q ≤ 4294967295) (_c2 : r * 4294967296 + pn2 < q * d2) (_hnb2 : r + d1 ≤ 4294967295) (hst : St Wb 70 [(0, (eqF (.slice (some (⟨g, i, none⟩ : Addr)) (n + 1) cap))), (1, (eqF (.slice (some bd) n cd))), (4, (eqF (.int .u32 0))), (5, (eqF (.int .i64 (n : Int)))), (6, (eqF (.int .u64 ((t : Int) : Int)))), (7, (eqF (.int .u64 (d1 : Int)))), (8, (eqF (.int .u64 (d2 : Int)))), (9, (eqF (.int .u64 (q : Int)))), (10, (eqF (.int .u64 (r : Int)))), (60, (eqF (.bool true)))] [] a0 W0)
    (fin : ∀ a w, St Wb 70 [(0, (eqF (.slice (some (⟨g, i, none⟩ : Addr)) (n + 1) cap))), (1, (eqF (.slice (some bd) n cd))), (4, (eqF (.int .u32 0))), (5, (eqF (.int .i64 (n : Int)))), (6, (eqF (.int .u64 ((t : Int) : Int)))), (7, (eqF (.int .u64 (d1 : Int)))), (8, (eqF (.int .u64 (d2 : Int)))), (9, (eqF (.int .u64 ((q - 1 : Nat) : Int)))), (10, (eqF (.int .u64 (r : Int)))), (60, (eqF (.bool true)))] [] a w → Q .normal a w) : (Code.region 6 gs_o6 false).wp Tryd.prog Q a0 W0 := by
  have hP : Plan gs_o6 70 ([] : List BoxS) [] := ⟨by kernel_rfl, by kernel_rfl, by kernel_rfl, by kernel_rfl, by kernel_rfl, by kernel_rfl⟩
  refine region_st (F := [(eqF (.int .u64 (q : Int))), (eqF (.int .u64 ((q - 1 : Nat) : Int))), (eqF (.int .u64 ((q - 1 : Nat) : Int)))]) hP hst rfl rfl ?_ ?_ fin
  · show Steps gs_o6 70 Wb W0 a0 _ _ _ 3
    refine steps_snoc (k := 2) ?_ (s_assign (i := 2) hP (g := none) (isOp_of (by kernel_rfl) : IsOp gs_o6 2 none (.assign (.tmp 62))) (by kernel_rfl) (by kernel_rfl) (grd_none) (src_op (f := (eqF (.int .u64 ((q - 1 : Nat) : Int)))) 1 (by kernel_rfl) (by kernel_rfl) rfl) rfl)
    refine steps_snoc (k := 1) ?_ (s_op2 (i := 1) hP (g := none) (isOp_of (by kernel_rfl) : IsOp gs_o6 1 none (.binOp .sub 49 (.tmp 61) (.const (.int .u64 1)) 49)) (by kernel_rfl) (by kernel_rfl) (grd_none) (src_op (f := (eqF (.int .u64 (q : Int)))) 0 (by kernel_rfl) (by kernel_rfl) rfl) (src_const _) (fun ρ w hx hy => h_sub (z := ((q - 1 : Nat) : Int)) (by rw [IntKind.wrap_u64]; omega) hx hy) rfl)
    refine steps_snoc (k := 0) ?_ (s_move (i := 0) hP (g := none) (isOp_of (by kernel_rfl) : IsOp gs_o6 0 none (.move (.tmp 9))) (by kernel_rfl) (by kernel_rfl) (grd_none) (src_low hst 7 rfl (by kernel_rfl)) rfl)
    exact steps_nil
  · intro m a w hI hm
    exact ⟨(low_fact hst 0 rfl (by kernel_rfl) hI), (low_fact hst 1 rfl (by kernel_rfl) hI), (low_fact hst 2 rfl (by kernel_rfl) hI), (low_fact hst 3 rfl (by kernel_rfl) hI), (low_fact hst 4 rfl (by kernel_rfl) hI), (low_fact hst 5 rfl (by kernel_rfl) hI), (low_fact hst 6 rfl (by kernel_rfl) hI), (out_op hI hm 2 9 _ (by kernel_rfl) rfl), (low_fact hst 8 rfl (by kernel_rfl) hI), (low_fact hst 9 rfl (by kernel_rfl) hI), trivial⟩
set_option maxRecDepth 100000 in
theorem gs_r7d {Q : Exit → Act → World → Prop} {Wb W0 : World} {a0 : Act} {g i n cap cd pn pn1 pn2 d1 d2 t : Nat} {bd : Addr} (_hn : 2 ≤ n) (_hnb : n ≤ 1099511627776) (_cp : Wb.cell? ((⟨g, i, none⟩ : Addr).add n) = some (.int .u32 (pn : Int))) (_cp1 : Wb.cell? ((⟨g, i, none⟩ : Addr).add (n - 1)) = some (.int .u32 (pn1 : Int))) (_cp2 : Wb.cell? ((⟨g, i, none⟩ : Addr).add (n - 2)) = some (.int .u32 (pn2 : Int))) (_cd1 : Wb.cell? (bd.add (n - 1)) = some (.int .u32 (d1 : Int))) (_cd2 : Wb.cell? (bd.add (n - 2)) = some (.int .u32 (d2 : Int))) (_bp : pn < 4294967296) (_bp1 : pn1 < 4294967296) (_bp2 : pn2 < 4294967296) (_bd1 : d1 < 4294967296) (_bd2 : d2 < 4294967296) (_hd : 2147483648 ≤ d1) (_ht : pn * 4294967296 + pn1 = t) (_ht64 : t < 18446744073709551616) {q r : Nat} (_hq0 : 0 < q) (_hq1 : q ≤ 4294967297) (_hr : r ≤ 4294967295) (_c1n : q ≤ 4294967295) (_c2 : r * 4294967296 + pn2 < q * d2) (_hnb2 : r + d1 ≤ 4294967295) (hst : St Wb 70 [(0, (eqF (.slice (some (⟨g, i, none⟩ : Addr)) (n + 1) cap))), (1, (eqF (.slice (some bd) n cd))), (4, (eqF (.int .u32 0))), (5, (eqF (.int .i64 (n : Int)))), (6, (eqF (.int .u64 ((t : Int) : Int)))), (7, (eqF (.int .u64 (d1 : Int)))), (8, (eqF (.int .u64 (d2 : Int)))), (9, (eqF (.int .u64 ((q - 1 : Nat) : Int)))), (10, (eqF (.int .u64 (r : Int)))), (60, (eqF (.bool true)))] [] a0 W0)
    (fin : ∀ a w, St Wb 70 [(0, (eqF (.slice (some (⟨g, i, none⟩ : Addr)) (n + 1) cap))), (1, (eqF (.slice (some bd) n cd))), (4, (eqF (.int .u32 0))), (5, (eqF (.int .i64 (n : Int)))), (6, (eqF (.int .u64 ((t : Int) : Int)))), (7, (eqF (.int .u64 (d1 : Int)))), (8, (eqF (.int .u64 (d2 : Int)))), (9, (eqF (.int .u64 ((q - 1 : Nat) : Int)))), (10, (eqF (.int .u64 ((r + d1 : Nat) : Int)))), (60, (eqF (.bool true)))] [] a w → Q .normal a w) : (Code.region 7 gs_o7 false).wp Tryd.prog Q a0 W0 := by
  have hP : Plan gs_o7 70 ([] : List BoxS) [] := ⟨by kernel_rfl, by kernel_rfl, by kernel_rfl, by kernel_rfl, by kernel_rfl, by kernel_rfl⟩
  refine region_st (F := [(eqF (.int .u64 (r : Int))), (eqF (.int .u64 (d1 : Int))), (eqF (.int .u64 ((r + d1 : Nat) : Int))), (eqF (.int .u64 ((r + d1 : Nat) : Int)))]) hP hst rfl rfl ?_ ?_ fin
  · show Steps gs_o7 70 Wb W0 a0 _ _ _ 4
    refine steps_snoc (k := 3) ?_ (s_assign (i := 3) hP (g := none) (isOp_of (by kernel_rfl) : IsOp gs_o7 3 none (.assign (.tmp 65))) (by kernel_rfl) (by kernel_rfl) (grd_none) (src_op (f := (eqF (.int .u64 ((r + d1 : Nat) : Int)))) 2 (by kernel_rfl) (by kernel_rfl) rfl) rfl)
    refine steps_snoc (k := 2) ?_ (s_op2 (i := 2) hP (g := none) (isOp_of (by kernel_rfl) : IsOp gs_o7 2 none (.binOp .add 49 (.tmp 63) (.tmp 64) 49)) (by kernel_rfl) (by kernel_rfl) (grd_none) (src_op (f := (eqF (.int .u64 (r : Int)))) 0 (by kernel_rfl) (by kernel_rfl) rfl) (src_op (f := (eqF (.int .u64 (d1 : Int)))) 1 (by kernel_rfl) (by kernel_rfl) rfl) (fun ρ w hx hy => h_add (z := ((r + d1 : Nat) : Int)) (by rw [IntKind.wrap_u64]; omega) hx hy) rfl)
    refine steps_snoc (k := 1) ?_ (s_move (i := 1) hP (g := none) (isOp_of (by kernel_rfl) : IsOp gs_o7 1 none (.move (.tmp 7))) (by kernel_rfl) (by kernel_rfl) (grd_none) (src_low hst 5 rfl (by kernel_rfl)) rfl)
    refine steps_snoc (k := 0) ?_ (s_move (i := 0) hP (g := none) (isOp_of (by kernel_rfl) : IsOp gs_o7 0 none (.move (.tmp 10))) (by kernel_rfl) (by kernel_rfl) (grd_none) (src_low hst 8 rfl (by kernel_rfl)) rfl)
    exact steps_nil
  · intro m a w hI hm
    exact ⟨(low_fact hst 0 rfl (by kernel_rfl) hI), (low_fact hst 1 rfl (by kernel_rfl) hI), (low_fact hst 2 rfl (by kernel_rfl) hI), (low_fact hst 3 rfl (by kernel_rfl) hI), (low_fact hst 4 rfl (by kernel_rfl) hI), (low_fact hst 5 rfl (by kernel_rfl) hI), (low_fact hst 6 rfl (by kernel_rfl) hI), (low_fact hst 7 rfl (by kernel_rfl) hI), (out_op hI hm 3 10 _ (by kernel_rfl) rfl), (low_fact hst 9 rfl (by kernel_rfl) hI), trivial⟩
set_option maxRecDepth 100000 in
theorem gs_r8d {Q : Exit → Act → World → Prop} {Wb W0 : World} {a0 : Act} {g i n cap cd pn pn1 pn2 d1 d2 t : Nat} {bd : Addr} (_hn : 2 ≤ n) (_hnb : n ≤ 1099511627776) (_cp : Wb.cell? ((⟨g, i, none⟩ : Addr).add n) = some (.int .u32 (pn : Int))) (_cp1 : Wb.cell? ((⟨g, i, none⟩ : Addr).add (n - 1)) = some (.int .u32 (pn1 : Int))) (_cp2 : Wb.cell? ((⟨g, i, none⟩ : Addr).add (n - 2)) = some (.int .u32 (pn2 : Int))) (_cd1 : Wb.cell? (bd.add (n - 1)) = some (.int .u32 (d1 : Int))) (_cd2 : Wb.cell? (bd.add (n - 2)) = some (.int .u32 (d2 : Int))) (_bp : pn < 4294967296) (_bp1 : pn1 < 4294967296) (_bp2 : pn2 < 4294967296) (_bd1 : d1 < 4294967296) (_bd2 : d2 < 4294967296) (_hd : 2147483648 ≤ d1) (_ht : pn * 4294967296 + pn1 = t) (_ht64 : t < 18446744073709551616) {q r : Nat} (_hq0 : 0 < q) (_hq1 : q ≤ 4294967297) (_hr : r ≤ 4294967295) (_c1n : q ≤ 4294967295) (_c2 : r * 4294967296 + pn2 < q * d2) (_hnb2 : r + d1 ≤ 4294967295) (hst : St Wb 70 [(0, (eqF (.slice (some (⟨g, i, none⟩ : Addr)) (n + 1) cap))), (1, (eqF (.slice (some bd) n cd))), (4, (eqF (.int .u32 0))), (5, (eqF (.int .i64 (n : Int)))), (6, (eqF (.int .u64 ((t : Int) : Int)))), (7, (eqF (.int .u64 (d1 : Int)))), (8, (eqF (.int .u64 (d2 : Int)))), (9, (eqF (.int .u64 ((q - 1 : Nat) : Int)))), (10, (eqF (.int .u64 ((r + d1 : Nat) : Int)))), (60, (eqF (.bool true)))] [] a0 W0)
    (fin : ∀ a w, St Wb 70 [(0, (eqF (.slice (some (⟨g, i, none⟩ : Addr)) (n + 1) cap))), (1, (eqF (.slice (some bd) n cd))), (4, (eqF (.int .u32 0))), (5, (eqF (.int .i64 (n : Int)))), (6, (eqF (.int .u64 ((t : Int) : Int)))), (7, (eqF (.int .u64 (d1 : Int)))), (8, (eqF (.int .u64 (d2 : Int)))), (9, (eqF (.int .u64 ((q - 1 : Nat) : Int)))), (10, (eqF (.int .u64 ((r + d1 : Nat) : Int)))), (60, (eqF (.bool true))), (67, (eqF (.bool false)))] [] a w → Q .normal a w) : (Code.region 8 gs_o8 false).wp Tryd.prog Q a0 W0 := by
  have hP : Plan gs_o8 70 ([] : List BoxS) [] := ⟨by kernel_rfl, by kernel_rfl, by kernel_rfl, by kernel_rfl, by kernel_rfl, by kernel_rfl⟩
  refine region_st (F := [(eqF (.int .u64 ((r + d1 : Nat) : Int))), (eqF (.bool false))]) hP hst rfl rfl ?_ ?_ fin
  · show Steps gs_o8 70 Wb W0 a0 _ _ _ 2
    refine steps_snoc (k := 1) ?_ (s_op2 (i := 1) hP (g := none) (isOp_of (by kernel_rfl) : IsOp gs_o8 1 none (.binOp .gtr 49 (.tmp 66) (.const (.int .u64 4294967295)) 49)) (by kernel_rfl) (by kernel_rfl) (grd_none) (src_op (f := (eqF (.int .u64 ((r + d1 : Nat) : Int)))) 0 (by kernel_rfl) (by kernel_rfl) rfl) (src_const _) (fun ρ w hx hy => h_gtr (r := false) (by simp; omega) hx hy) rfl)
    refine steps_snoc (k := 0) ?_ (s_move (i := 0) hP (g := none) (isOp_of (by kernel_rfl) : IsOp gs_o8 0 none (.move (.tmp 10))) (by kernel_rfl) (by kernel_rfl) (grd_none) (src_low hst 8 rfl (by kernel_rfl)) rfl)
    exact steps_nil
  · intro m a w hI hm
    exact ⟨(low_fact hst 0 rfl (by kernel_rfl) hI), (low_fact hst 1 rfl (by kernel_rfl) hI), (low_fact hst 2 rfl (by kernel_rfl) hI), (low_fact hst 3 rfl (by kernel_rfl) hI), (low_fact hst 4 rfl (by kernel_rfl) hI), (low_fact hst 5 rfl (by kernel_rfl) hI), (low_fact hst 6 rfl (by kernel_rfl) hI), (low_fact hst 7 rfl (by kernel_rfl) hI), (low_fact hst 8 rfl (by kernel_rfl) hI), (low_fact hst 9 rfl (by kernel_rfl) hI), (out_op hI hm 1 67 _ (by kernel_rfl) rfl), trivial⟩
set_option maxRecDepth 100000 in
theorem gs_r5e {Q : Exit → Act → World → Prop} {Wb W0 : World} {a0 : Act} {g i n cap cd pn pn1 pn2 d1 d2 t : Nat} {bd : Addr} (_hn : 2 ≤ n) (_hnb : n ≤ 1099511627776) (_cp : Wb.cell? ((⟨g, i, none⟩ : Addr).add n) = some (.int .u32 (pn : Int))) (_cp1 : Wb.cell? ((⟨g, i, none⟩ : Addr).add (n - 1)) = some (.int .u32 (pn1 : Int))) (cp2 : Wb.cell? ((⟨g, i, none⟩ : Addr).add (n - 2)) = some (.int .u32 (pn2 : Int))) (_cd1 : Wb.cell? (bd.add (n - 1)) = some (.int .u32 (d1 : Int))) (_cd2 : Wb.cell? (bd.add (n - 2)) = some (.int .u32 (d2 : Int))) (_bp : pn < 4294967296) (_bp1 : pn1 < 4294967296) (bp2 : pn2 < 4294967296) (_bd1 : d1 < 4294967296) (bd2 : d2 < 4294967296) (_hd : 2147483648 ≤ d1) (_ht : pn * 4294967296 + pn1 = t) (_ht64 : t < 18446744073709551616) {q r : Nat} (_hq1 : q ≤ 4294967297) (_hr : r ≤ 4294967295) (_c1n : q ≤ 4294967295) (_c2n : q * d2 ≤ r * 4294967296 + pn2) (hst : St Wb 70 [(0, (eqF (.slice (some (⟨g, i, none⟩ : Addr)) (n + 1) cap))), (1, (eqF (.slice (some bd) n cd))), (4, (eqF (.int .u32 0))), (5, (eqF (.int .i64 (n : Int)))), (6, (eqF (.int .u64 ((t : Int) : Int)))), (7, (eqF (.int .u64 (d1 : Int)))), (8, (eqF (.int .u64 (d2 : Int)))), (9, (eqF (.int .u64 (q : Int)))), (10, (eqF (.int .u64 (r : Int))))] [] a0 W0)
    (fin : ∀ a w, St Wb 70 [(0, (eqF (.slice (some (⟨g, i, none⟩ : Addr)) (n + 1) cap))), (1, (eqF (.slice (some bd) n cd))), (4, (eqF (.int .u32 0))), (5, (eqF (.int .i64 (n : Int)))), (6, (eqF (.int .u64 ((t : Int) : Int)))), (7, (eqF (.int .u64 (d1 : Int)))), (8, (eqF (.int .u64 (d2 : Int)))), (9, (eqF (.int .u64 (q : Int)))), (10, (eqF (.int .u64 (r : Int)))), (60, (eqF (.bool false)))] [] a w → Q .normal a w) : (Code.region 5 gs_o5 false).wp Tryd.prog Q a0 W0 := by
  have hP : Plan gs_o5 70 ([] : List BoxS) [] := ⟨by kernel_rfl, by kernel_rfl, by kernel_rfl, by kernel_rfl, by kernel_rfl, by kernel_rfl⟩
  refine region_st (F := [(eqF (.int .u64 (q : Int))), (eqF (.bool false)), (eqF (.bool false)), (eqF (.int .u64 (q : Int))), (eqF (.int .u64 (d2 : Int))), (eqF (.int .u64 ((q * d2 : Nat) : Int))), (eqF (.int .u64 (r : Int))), (eqF (.int .u64 ((r * 4294967296 : Nat) : Int))), (eqF (.slice (some (⟨g, i, none⟩ : Addr)) (n + 1) cap)), (eqF (.int .i64 (n : Int))), (eqF (.int .i64 ((n - 2 : Nat) : Int))), (eqF (.pointer (some (((⟨g, i, none⟩ : Addr)).add (n - 2))))), (eqF (.int .u32 (pn2 : Int))), (eqF (.int .u64 (pn2 : Int))), (eqF (.int .u64 (((r * 4294967296 + pn2 : Nat) : Int) : Int))), (eqF (.bool false)), (eqF (.bool false))]) hP hst rfl rfl ?_ ?_ fin
  · show Steps gs_o5 70 Wb W0 a0 _ _ _ 17
    refine steps_snoc (k := 16) ?_ (s_pickF (i := 16) hP (g := none) (isOp_of (by kernel_rfl) : IsOp gs_o5 16 none (.pick (.tmp 46) (.const (.bool true)) (.tmp 59))) (by kernel_rfl) (by kernel_rfl) (grd_none) (src_op (f := (eqF (.bool false))) 2 (by kernel_rfl) (by kernel_rfl) rfl) (src_op (f := (eqF (.bool false))) 15 (by kernel_rfl) (by kernel_rfl) rfl) rfl)
    refine steps_snoc (k := 15) ?_ (s_op2 (i := 15) hP (g := (some (2, false))) (isOp_of (by kernel_rfl) : IsOp gs_o5 15 (some (2, false)) (.binOp .gtr 49 (.tmp 49) (.tmp 58) 49)) (by kernel_rfl) (by kernel_rfl) (grd_op (d := 46) (by kernel_rfl) (by kernel_rfl) rfl rfl) (src_op (f := (eqF (.int .u64 ((q * d2 : Nat) : Int)))) 5 (by kernel_rfl) (by kernel_rfl) rfl) (src_op (f := (eqF (.int .u64 (((r * 4294967296 + pn2 : Nat) : Int) : Int)))) 14 (by kernel_rfl) (by kernel_rfl) rfl) (fun ρ w hx hy => h_gtr (r := false) (by simp; omega) hx hy) rfl)
    refine steps_snoc (k := 14) ?_ (s_op2 (i := 14) hP (g := (some (2, false))) (isOp_of (by kernel_rfl) : IsOp gs_o5 14 (some (2, false)) (.binOp .or 49 (.tmp 51) (.tmp 57) 49)) (by kernel_rfl) (by kernel_rfl) (grd_op (d := 46) (by kernel_rfl) (by kernel_rfl) rfl rfl) (src_op (f := (eqF (.int .u64 ((r * 4294967296 : Nat) : Int)))) 7 (by kernel_rfl) (by kernel_rfl) rfl) (src_op (f := (eqF (.int .u64 (pn2 : Int)))) 13 (by kernel_rfl) (by kernel_rfl) rfl) (fun ρ w hx hy => h_or64 (z := (((r * 4294967296 + pn2 : Nat) : Int) : Int)) (by rw [show ((r * 4294967296 : Nat) : Int) = (r : Int) * 4294967296 from by omega]; exact or_word r pn2 (by omega) bp2) hx hy) rfl)
    refine steps_snoc (k := 13) ?_ (s_op1 (i := 13) hP (g := (some (2, false))) (isOp_of (by kernel_rfl) : IsOp gs_o5 13 (some (2, false)) (.convert 38 49 (.tmp 56))) (by kernel_rfl) (by kernel_rfl) (grd_op (d := 46) (by kernel_rfl) (by kernel_rfl) rfl rfl) (src_op (f := (eqF (.int .u32 (pn2 : Int)))) 12 (by kernel_rfl) (by kernel_rfl) rfl) (fun ρ w hx => h_conv32 (by omega) (by omega) hx) rfl)
    refine steps_snoc (k := 12) ?_ (s_loadP (i := 12) hP (g := (some (2, false))) (isOp_of (by kernel_rfl) : IsOp gs_o5 12 (some (2, false)) (.load 38 (.tmp 55))) (by kernel_rfl) (by kernel_rfl) (grd_op (d := 46) (by kernel_rfl) (by kernel_rfl) rfl rfl) (src_op (f := (eqF (.pointer (some (((⟨g, i, none⟩ : Addr)).add (n - 2)))))) 11 (by kernel_rfl) (by kernel_rfl) rfl) cp2 load32_run rfl)
    refine steps_snoc (k := 11) ?_ (s_op2 (i := 11) hP (g := (some (2, false))) (isOp_of (by kernel_rfl) : IsOp gs_o5 11 (some (2, false)) (.indexAddr 22 (.tmp 52) (.tmp 54))) (by kernel_rfl) (by kernel_rfl) (grd_op (d := 46) (by kernel_rfl) (by kernel_rfl) rfl rfl) (src_op (f := (eqF (.slice (some (⟨g, i, none⟩ : Addr)) (n + 1) cap))) 8 (by kernel_rfl) (by kernel_rfl) rfl) (src_op (f := (eqF (.int .i64 ((n - 2 : Nat) : Int)))) 10 (by kernel_rfl) (by kernel_rfl) rfl) (fun ρ w hx hy => h_idx (k := n - 2) (by omega) hx hy) rfl)
    refine steps_snoc (k := 10) ?_ (s_op2 (i := 10) hP (g := (some (2, false))) (isOp_of (by kernel_rfl) : IsOp gs_o5 10 (some (2, false)) (.binOp .sub 3 (.tmp 53) (.const (.int .i64 2)) 3)) (by kernel_rfl) (by kernel_rfl) (grd_op (d := 46) (by kernel_rfl) (by kernel_rfl) rfl rfl) (src_op (f := (eqF (.int .i64 (n : Int)))) 9 (by kernel_rfl) (by kernel_rfl) rfl) (src_const _) (fun ρ w hx hy => h_sub (z := ((n - 2 : Nat) : Int)) (by rw [IntKind.wrap_i64]; omega) hx hy) rfl)
    refine steps_snoc (k := 9) ?_ (s_move (i := 9) hP (g := (some (2, false))) (isOp_of (by kernel_rfl) : IsOp gs_o5 9 (some (2, false)) (.move (.tmp 5))) (by kernel_rfl) (by kernel_rfl) (grd_op (d := 46) (by kernel_rfl) (by kernel_rfl) rfl rfl) (src_low hst 3 rfl (by kernel_rfl)) rfl)
    refine steps_snoc (k := 8) ?_ (s_move (i := 8) hP (g := (some (2, false))) (isOp_of (by kernel_rfl) : IsOp gs_o5 8 (some (2, false)) (.move (.tmp 0))) (by kernel_rfl) (by kernel_rfl) (grd_op (d := 46) (by kernel_rfl) (by kernel_rfl) rfl rfl) (src_low hst 0 rfl (by kernel_rfl)) rfl)
    refine steps_snoc (k := 7) ?_ (s_op2 (i := 7) hP (g := (some (2, false))) (isOp_of (by kernel_rfl) : IsOp gs_o5 7 (some (2, false)) (.binOp .shl 49 (.tmp 50) (.const (.int .u64 32)) 67)) (by kernel_rfl) (by kernel_rfl) (grd_op (d := 46) (by kernel_rfl) (by kernel_rfl) rfl rfl) (src_op (f := (eqF (.int .u64 (r : Int)))) 6 (by kernel_rfl) (by kernel_rfl) rfl) (src_const _) (fun ρ w hx hy => h_shl32 (z := ((r * 4294967296 : Nat) : Int)) (by rw [IntKind.wrap_u64]; omega) hx hy) rfl)
    refine steps_snoc (k := 6) ?_ (s_move (i := 6) hP (g := (some (2, false))) (isOp_of (by kernel_rfl) : IsOp gs_o5 6 (some (2, false)) (.move (.tmp 10))) (by kernel_rfl) (by kernel_rfl) (grd_op (d := 46) (by kernel_rfl) (by kernel_rfl) rfl rfl) (src_low hst 8 rfl (by kernel_rfl)) rfl)
    refine steps_snoc (k := 5) ?_ (s_op2 (i := 5) hP (g := (some (2, false))) (isOp_of (by kernel_rfl) : IsOp gs_o5 5 (some (2, false)) (.binOp .mul 49 (.tmp 47) (.tmp 48) 49)) (by kernel_rfl) (by kernel_rfl) (grd_op (d := 46) (by kernel_rfl) (by kernel_rfl) rfl rfl) (src_op (f := (eqF (.int .u64 (q : Int)))) 3 (by kernel_rfl) (by kernel_rfl) rfl) (src_op (f := (eqF (.int .u64 (d2 : Int)))) 4 (by kernel_rfl) (by kernel_rfl) rfl) (fun ρ w hx hy => h_mul (z := ((q * d2 : Nat) : Int)) (by rw [← Int.natCast_mul, IntKind.wrap_u64]; have := mul_bd (show q < 4294967296 by omega) bd2; omega) hx hy) rfl)
    refine steps_snoc (k := 4) ?_ (s_move (i := 4) hP (g := (some (2, false))) (isOp_of (by kernel_rfl) : IsOp gs_o5 4 (some (2, false)) (.move (.tmp 8))) (by kernel_rfl) (by kernel_rfl) (grd_op (d := 46) (by kernel_rfl) (by kernel_rfl) rfl rfl) (src_low hst 6 rfl (by kernel_rfl)) rfl)
    refine steps_snoc (k := 3) ?_ (s_move (i := 3) hP (g := (some (2, false))) (isOp_of (by kernel_rfl) : IsOp gs_o5 3 (some (2, false)) (.move (.tmp 9))) (by kernel_rfl) (by kernel_rfl) (grd_op (d := 46) (by kernel_rfl) (by kernel_rfl) rfl rfl) (src_low hst 7 rfl (by kernel_rfl)) rfl)
    refine steps_snoc (k := 2) ?_ (s_move (i := 2) hP (g := none) (isOp_of (by kernel_rfl) : IsOp gs_o5 2 none (.move (.tmp 45))) (by kernel_rfl) (by kernel_rfl) (grd_none) (src_op (f := (eqF (.bool false))) 1 (by kernel_rfl) (by kernel_rfl) rfl) rfl)
    refine steps_snoc (k := 1) ?_ (s_op2 (i := 1) hP (g := none) (isOp_of (by kernel_rfl) : IsOp gs_o5 1 none (.binOp .gtr 49 (.tmp 44) (.const (.int .u64 4294967295)) 49)) (by kernel_rfl) (by kernel_rfl) (grd_none) (src_op (f := (eqF (.int .u64 (q : Int)))) 0 (by kernel_rfl) (by kernel_rfl) rfl) (src_const _) (fun ρ w hx hy => h_gtr (r := false) (by simp; omega) hx hy) rfl)
    refine steps_snoc (k := 0) ?_ (s_move (i := 0) hP (g := none) (isOp_of (by kernel_rfl) : IsOp gs_o5 0 none (.move (.tmp 9))) (by kernel_rfl) (by kernel_rfl) (grd_none) (src_low hst 7 rfl (by kernel_rfl)) rfl)
    exact steps_nil
  · intro m a w hI hm
    exact ⟨(low_fact hst 0 rfl (by kernel_rfl) hI), (low_fact hst 1 rfl (by kernel_rfl) hI), (low_fact hst 2 rfl (by kernel_rfl) hI), (low_fact hst 3 rfl (by kernel_rfl) hI), (low_fact hst 4 rfl (by kernel_rfl) hI), (low_fact hst 5 rfl (by kernel_rfl) hI), (low_fact hst 6 rfl (by kernel_rfl) hI), (low_fact hst 7 rfl (by kernel_rfl) hI), (low_fact hst 8 rfl (by kernel_rfl) hI), (out_op hI hm 16 60 _ (by kernel_rfl) rfl), trivial⟩
set_option maxRecDepth 100000 in
theorem gs_r9c {Q : Exit → Act → World → Prop} {Wb W0 : World} {a0 : Act} {g i n cap cd pn pn1 pn2 d1 d2 t : Nat} {bd : Addr} (_hn : 2 ≤ n) (_hnb : n ≤ 1099511627776) (_cp : Wb.cell? ((⟨g, i, none⟩ : Addr).add n) = some (.int .u32 (pn : Int))) (_cp1 : Wb.cell? ((⟨g, i, none⟩ : Addr).add (n - 1)) = some (.int .u32 (pn1 : Int))) (_cp2 : Wb.cell? ((⟨g, i, none⟩ : Addr).add (n - 2)) = some (.int .u32 (pn2 : Int))) (_cd1 : Wb.cell? (bd.add (n - 1)) = some (.int .u32 (d1 : Int))) (_cd2 : Wb.cell? (bd.add (n - 2)) = some (.int .u32 (d2 : Int))) (_bp : pn < 4294967296) (_bp1 : pn1 < 4294967296) (_bp2 : pn2 < 4294967296) (_bd1 : d1 < 4294967296) (_bd2 : d2 < 4294967296) (_hd : 2147483648 ≤ d1) (_ht : pn * 4294967296 + pn1 = t) (_ht64 : t < 18446744073709551616) {q r : Nat} (_k1 : q < 4294967296) (hst : St Wb 70 [(0, (eqF (.slice (some (⟨g, i, none⟩ : Addr)) (n + 1) cap))), (1, (eqF (.slice (some bd) n cd))), (4, (eqF (.int .u32 0))), (5, (eqF (.int .i64 (n : Int)))), (6, (eqF (.int .u64 ((t : Int) : Int)))), (7, (eqF (.int .u64 (d1 : Int)))), (8, (eqF (.int .u64 (d2 : Int)))), (9, (eqF (.int .u64 (q : Int)))), (10, (eqF (.int .u64 (r : Int)))), (60, (eqF (.bool false)))] [] a0 W0)
    (fin : ∀ a w, St Wb 70 [(0, (eqF (.slice (some (⟨g, i, none⟩ : Addr)) (n + 1) cap))), (1, (eqF (.slice (some bd) n cd))), (4, (eqF (.int .u32 (q : Int)))), (5, (eqF (.int .i64 (n : Int)))), (6, (eqF (.int .u64 ((t : Int) : Int)))), (7, (eqF (.int .u64 (d1 : Int)))), (8, (eqF (.int .u64 (d2 : Int)))), (9, (eqF (.int .u64 (q : Int)))), (10, (eqF (.int .u64 (r : Int)))), (60, (eqF (.bool false)))] [] a w → Q .normal a w) : (Code.region 9 gs_o9 false).wp Tryd.prog Q a0 W0 := by
  have hP : Plan gs_o9 70 ([] : List BoxS) [] := ⟨by kernel_rfl, by kernel_rfl, by kernel_rfl, by kernel_rfl, by kernel_rfl, by kernel_rfl⟩
  refine region_st (F := [(eqF (.int .u64 (q : Int))), (eqF (.int .u32 (q : Int))), (eqF (.int .u32 (q : Int)))]) hP hst rfl rfl ?_ ?_ fin
  · show Steps gs_o9 70 Wb W0 a0 _ _ _ 3
    refine steps_snoc (k := 2) ?_ (s_assign (i := 2) hP (g := none) (isOp_of (by kernel_rfl) : IsOp gs_o9 2 none (.assign (.tmp 69))) (by kernel_rfl) (by kernel_rfl) (grd_none) (src_op (f := (eqF (.int .u32 (q : Int)))) 1 (by kernel_rfl) (by kernel_rfl) rfl) rfl)
    refine steps_snoc (k := 1) ?_ (s_op1 (i := 1) hP (g := none) (isOp_of (by kernel_rfl) : IsOp gs_o9 1 none (.convert 49 38 (.tmp 68))) (by kernel_rfl) (by kernel_rfl) (grd_none) (src_op (f := (eqF (.int .u64 (q : Int)))) 0 (by kernel_rfl) (by kernel_rfl) rfl) (fun ρ w hx => h_conv64 (z := (q : Int)) (by rw [IntKind.wrap_u32]; omega) hx) rfl)
    refine steps_snoc (k := 0) ?_ (s_move (i := 0) hP (g := none) (isOp_of (by kernel_rfl) : IsOp gs_o9 0 none (.move (.tmp 9))) (by kernel_rfl) (by kernel_rfl) (grd_none) (src_low hst 7 rfl (by kernel_rfl)) rfl)
    exact steps_nil
  · intro m a w hI hm
    exact ⟨(low_fact hst 0 rfl (by kernel_rfl) hI), (low_fact hst 1 rfl (by kernel_rfl) hI), (out_op hI hm 2 4 _ (by kernel_rfl) rfl), (low_fact hst 3 rfl (by kernel_rfl) hI), (low_fact hst 4 rfl (by kernel_rfl) hI), (low_fact hst 5 rfl (by kernel_rfl) hI), (low_fact hst 6 rfl (by kernel_rfl) hI), (low_fact hst 7 rfl (by kernel_rfl) hI), (low_fact hst 8 rfl (by kernel_rfl) hI), (low_fact hst 9 rfl (by kernel_rfl) hI), trivial⟩
set_option maxRecDepth 100000 in
theorem guess_any (g i n cap cd pn pn1 pn2 d1 d2 t Qt : Nat) (bd : Addr) (W : World) (hn : 2 ≤ n) (hnb : n ≤ 1099511627776) (cp : W.cell? ((⟨g, i, none⟩ : Addr).add n) = some (.int .u32 (pn : Int))) (cp1 : W.cell? ((⟨g, i, none⟩ : Addr).add (n - 1)) = some (.int .u32 (pn1 : Int))) (cp2 : W.cell? ((⟨g, i, none⟩ : Addr).add (n - 2)) = some (.int .u32 (pn2 : Int))) (cd1 : W.cell? (bd.add (n - 1)) = some (.int .u32 (d1 : Int))) (cd2 : W.cell? (bd.add (n - 2)) = some (.int .u32 (d2 : Int))) (bp : pn < 4294967296) (bp1 : pn1 < 4294967296) (bp2 : pn2 < 4294967296) (bd1 : d1 < 4294967296) (bd2 : d2 < 4294967296) (hd : 2147483648 ≤ d1) (ht : pn * 4294967296 + pn1 = t) (ht64 : t < 18446744073709551616) (hle : pn ≤ d1) (hQb : Qt < 4294967296) (hq0 : Qt ≤ t / d1) (hQ : ∀ q, t * 4294967296 + pn2 < q * (d1 * 4294967296 + d2) → Qt < q) :
    Calls Tryd.prog 81 #[.slice (some ⟨g, i, none⟩) (n + 1) cap, .slice (some bd) n cd] W (GivesP (guessF Qt (d1 * 4294967296 + d2) (t * 4294967296 + pn2)) W) := by
  refine calls_stW (S := [(0, (eqF (.slice (some (⟨g, i, none⟩ : Addr)) (n + 1) cap))), (1, (eqF (.slice (some bd) n cd)))]) Tryd.func81 (by kernel_rfl) Tryd.ntmps81 (by simp) (fun x hx => ?_) fun a w hst => ?_
  · simp only [List.mem_cons, List.not_mem_nil, or_false] at hx
    rcases hx with rfl | rfl
    · exact ⟨_, rfl, rfl⟩
    · exact ⟨_, rfl, rfl⟩
  show Code.wp _ gs_n0 _ a w
  rw [gs_e0]
  refine wp_seq ?_
  rw [gs_e1]
  refine gs_r0 hn hnb cp cp1 cp2 cd1 cd2 bp bp1 bp2 bd1 bd2 hd ht ht64 hst ?_
  clear hst
  intro a w hst
  show Code.wp _ gs_n2 _ a w
  rw [gs_e2]
  refine wp_seq ?_
  rw [gs_e3]
  refine gs_r1 hn hnb cp cp1 cp2 cd1 cd2 bp bp1 bp2 bd1 bd2 hd ht ht64 hst ?_
  clear hst
  intro a w hst
  show Code.wp _ gs_n4 _ a w
  rw [gs_e4]
  refine wp_seq ?_
  rw [gs_e5]
  refine gs_r2 hn hnb cp cp1 cp2 cd1 cd2 bp bp1 bp2 bd1 bd2 hd ht ht64 hst ?_
  clear hst
  intro a w hst
  show Code.wp _ gs_n6 _ a w
  rw [gs_e6]
  refine wp_seq ?_
  rw [gs_e7]
  refine gs_r3 hn hnb cp cp1 cp2 cd1 cd2 bp bp1 bp2 bd1 bd2 hd ht ht64 hst ?_
  clear hst
  intro a w hst
  show Code.wp _ gs_n8 _ a w
  rw [gs_e8]
  refine wp_seq ?_
  rw [gs_e9]
  refine gs_r4 hn hnb cp cp1 cp2 cd1 cd2 bp bp1 bp2 bd1 bd2 hd ht ht64 hst ?_
  clear hst
  intro a w hst
  show Code.wp _ gs_n10 _ a w
  rw [gs_e10]
  refine wp_seq ?_
  rw [gs_e11]
  refine wp_block ?_
  show Code.wp _ gs_n13 _ a w
  rw [gs_e13]
  obtain ⟨g1, g2, g3, _⟩ := guess_top ht bp1 hle hd bd1
  refine loop_ghost (fun (x : Nat × Nat) a w => St W 70 [(0, (eqF (.slice (some (⟨g, i, none⟩ : Addr)) (n + 1) cap))), (1, (eqF (.slice (some bd) n cd))), (4, (eqF (.int .u32 0))), (5, (eqF (.int .i64 (n : Int)))), (6, (eqF (.int .u64 ((t : Int) : Int)))), (7, (eqF (.int .u64 (d1 : Int)))), (8, (eqF (.int .u64 (d2 : Int)))), (9, (eqF (.int .u64 (x.1 : Int)))), (10, (eqF (.int .u64 (x.2 : Int))))] [] a w ∧ x.1 * d1 + x.2 = t ∧ Qt ≤ x.1 ∧ x.2 ≤ 4294967295 ∧ x.1 ≤ 4294967297) (fun x => x.1) ?_ (t / d1, t % d1) ⟨hst, g2, hq0, by show t % d1 ≤ _; omega, g1⟩
  rintro ⟨q, r⟩ a w ⟨hst, hqr, hQq, hr, hq1⟩
  simp only [] at hst hqr hQq hr hq1
  show Code.wp _ gs_n14 _ a w
  rcases Nat.lt_or_ge 4294967295 q with c1 | c1n
  · have hQl : Qt < q := by omega
    have hq0 : 0 < q := by omega
    rcases Nat.lt_or_ge 4294967295 (r + d1) with hbk | hnb2
    · rw [gs_e14]
      refine wp_seq ?_
      rw [gs_e15]
      refine wp_seq ?_
      rw [gs_e17]
      refine gs_r5 hn hnb cp cp1 cp2 cd1 cd2 bp bp1 bp2 bd1 bd2 hd ht ht64 hq0 hq1 hr c1 hbk hst ?_
      clear hst
      intro a w hst
      show Code.wp _ gs_n18 _ a w
      rw [gs_e18]
      refine wp_cond_true (st_bool hst 9 rfl) ?_
      show Code.wp _ gs_n19 _ a w
      rw [gs_e19]
      refine wp_skip ?_
      show Code.wp _ gs_n16 _ a w
      rw [gs_e16]
      refine wp_block ?_
      show Code.wp _ gs_n21 _ a w
      rw [gs_e21]
      refine wp_seq ?_
      rw [gs_e22]
      refine gs_r6 hn hnb cp cp1 cp2 cd1 cd2 bp bp1 bp2 bd1 bd2 hd ht ht64 hq0 hq1 hr c1 hbk hst ?_
      clear hst
      intro a w hst
      show Code.wp _ gs_n23 _ a w
      rw [gs_e23]
      refine wp_seq ?_
      rw [gs_e24]
      refine gs_r7 hn hnb cp cp1 cp2 cd1 cd2 bp bp1 bp2 bd1 bd2 hd ht ht64 hq0 hq1 hr c1 hbk hst ?_
      clear hst
      intro a w hst
      show Code.wp _ gs_n25 _ a w
      rw [gs_e25]
      refine wp_seq ?_
      rw [gs_e26]
      refine gs_r8 hn hnb cp cp1 cp2 cd1 cd2 bp bp1 bp2 bd1 bd2 hd ht ht64 hq0 hq1 hr c1 hbk hst ?_
      clear hst
      intro a w hst
      show Code.wp _ gs_n27 _ a w
      rw [gs_e27]
      refine wp_cond_true (st_bool hst 10 rfl) ?_
      show Code.wp _ gs_n28 _ a w
      rw [gs_e28]
      refine wp_exit ?_
      obtain ⟨k1, k2⟩ := guess_brk (pn2 := pn2) (guess_next hqr hq0) ht bp1 hle (by omega) bd2 (show 4294967296 ≤ r + d1 by omega)
      generalize hq2 : q - 1 = q2 at *
      generalize hr2 : r + d1 = r2 at *
      have hqr2 := guess_next hqr hq0
      rw [hq2, hr2] at hqr2
      show Code.wp _ gs_n12 _ a w
      rw [gs_e12]
      refine wp_seq ?_
      rw [gs_e30]
      refine gs_r9 hn hnb cp cp1 cp2 cd1 cd2 bp bp1 bp2 bd1 bd2 hd ht ht64 k1 hst ?_
      clear hst
      intro a w hst
      show Code.wp _ gs_n31 _ a w
      rw [gs_e31]
      refine wp_ret ?_
      exact ret_tmp_of hst rfl 2 rfl (fun v w h => ⟨q2, h, k1, by omega, guess_ok hqr2 k2⟩)
    · rw [gs_e14]
      refine wp_seq ?_
      rw [gs_e15]
      refine wp_seq ?_
      rw [gs_e17]
      refine gs_r5b hn hnb cp cp1 cp2 cd1 cd2 bp bp1 bp2 bd1 bd2 hd ht ht64 hq0 hq1 hr c1 hnb2 hst ?_
      clear hst
      intro a w hst
      show Code.wp _ gs_n18 _ a w
      rw [gs_e18]
      refine wp_cond_true (st_bool hst 9 rfl) ?_
      show Code.wp _ gs_n19 _ a w
      rw [gs_e19]
      refine wp_skip ?_
      show Code.wp _ gs_n16 _ a w
      rw [gs_e16]
      refine wp_block ?_
      show Code.wp _ gs_n21 _ a w
      rw [gs_e21]
      refine wp_seq ?_
      rw [gs_e22]
      refine gs_r6b hn hnb cp cp1 cp2 cd1 cd2 bp bp1 bp2 bd1 bd2 hd ht ht64 hq0 hq1 hr c1 hnb2 hst ?_
      clear hst
      intro a w hst
      show Code.wp _ gs_n23 _ a w
      rw [gs_e23]
      refine wp_seq ?_
      rw [gs_e24]
      refine gs_r7b hn hnb cp cp1 cp2 cd1 cd2 bp bp1 bp2 bd1 bd2 hd ht ht64 hq0 hq1 hr c1 hnb2 hst ?_
      clear hst
      intro a w hst
      show Code.wp _ gs_n25 _ a w
      rw [gs_e25]
      refine wp_seq ?_
      rw [gs_e26]
      refine gs_r8b hn hnb cp cp1 cp2 cd1 cd2 bp bp1 bp2 bd1 bd2 hd ht ht64 hq0 hq1 hr c1 hnb2 hst ?_
      clear hst
      intro a w hst
      show Code.wp _ gs_n27 _ a w
      rw [gs_e27]
      refine wp_cond_false (st_bool hst 10 rfl) ?_
      show Code.wp _ gs_n29 _ a w
      rw [gs_e29]
      refine wp_skip ?_
      exact ⟨(q - 1, r + d1), ⟨(hst.to ⟨hst.slots.get (k := 0) rfl, hst.slots.get (k := 1) rfl, hst.slots.get (k := 2) rfl, hst.slots.get (k := 3) rfl, hst.slots.get (k := 4) rfl, hst.slots.get (k := 5) rfl, hst.slots.get (k := 6) rfl, hst.slots.get (k := 7) rfl, hst.slots.get (k := 8) rfl, trivial⟩), guess_next hqr hq0, by show Qt ≤ q - 1; omega, by show r + d1 ≤ _; omega, by show q - 1 ≤ _; omega⟩, by show q - 1 < q; omega⟩
  · rcases Nat.lt_or_ge (r * 4294967296 + pn2) (q * d2) with c2 | c2n
    · have hQl : Qt < q := guess_dec hqr hQ c2
      have hq0 : 0 < q := by omega
      rcases Nat.lt_or_ge 4294967295 (r + d1) with hbk | hnb2
      · rw [gs_e14]
        refine wp_seq ?_
        rw [gs_e15]
        refine wp_seq ?_
        rw [gs_e17]
        refine gs_r5c hn hnb cp cp1 cp2 cd1 cd2 bp bp1 bp2 bd1 bd2 hd ht ht64 hq0 hq1 hr c1n c2 hbk hst ?_
        clear hst
        intro a w hst
        show Code.wp _ gs_n18 _ a w
        rw [gs_e18]
        refine wp_cond_true (st_bool hst 9 rfl) ?_
        show Code.wp _ gs_n19 _ a w
        rw [gs_e19]
        refine wp_skip ?_
        show Code.wp _ gs_n16 _ a w
        rw [gs_e16]
        refine wp_block ?_
        show Code.wp _ gs_n21 _ a w
        rw [gs_e21]
        refine wp_seq ?_
        rw [gs_e22]
        refine gs_r6c hn hnb cp cp1 cp2 cd1 cd2 bp bp1 bp2 bd1 bd2 hd ht ht64 hq0 hq1 hr c1n c2 hbk hst ?_
        clear hst
        intro a w hst
        show Code.wp _ gs_n23 _ a w
        rw [gs_e23]
        refine wp_seq ?_
        rw [gs_e24]
        refine gs_r7c hn hnb cp cp1 cp2 cd1 cd2 bp bp1 bp2 bd1 bd2 hd ht ht64 hq0 hq1 hr c1n c2 hbk hst ?_
        clear hst
        intro a w hst
        show Code.wp _ gs_n25 _ a w
        rw [gs_e25]
        refine wp_seq ?_
        rw [gs_e26]
        refine gs_r8c hn hnb cp cp1 cp2 cd1 cd2 bp bp1 bp2 bd1 bd2 hd ht ht64 hq0 hq1 hr c1n c2 hbk hst ?_
        clear hst
        intro a w hst
        show Code.wp _ gs_n27 _ a w
        rw [gs_e27]
        refine wp_cond_true (st_bool hst 10 rfl) ?_
        show Code.wp _ gs_n28 _ a w
        rw [gs_e28]
        refine wp_exit ?_
        obtain ⟨k1, k2⟩ := guess_brk (pn2 := pn2) (guess_next hqr hq0) ht bp1 hle (by omega) bd2 (show 4294967296 ≤ r + d1 by omega)
        generalize hq2 : q - 1 = q2 at *
        generalize hr2 : r + d1 = r2 at *
        have hqr2 := guess_next hqr hq0
        rw [hq2, hr2] at hqr2
        show Code.wp _ gs_n12 _ a w
        rw [gs_e12]
        refine wp_seq ?_
        rw [gs_e30]
        refine gs_r9b hn hnb cp cp1 cp2 cd1 cd2 bp bp1 bp2 bd1 bd2 hd ht ht64 k1 hst ?_
        clear hst
        intro a w hst
        show Code.wp _ gs_n31 _ a w
        rw [gs_e31]
        refine wp_ret ?_
        exact ret_tmp_of hst rfl 2 rfl (fun v w h => ⟨q2, h, k1, by omega, guess_ok hqr2 k2⟩)
      · rw [gs_e14]
        refine wp_seq ?_
        rw [gs_e15]
        refine wp_seq ?_
        rw [gs_e17]
        refine gs_r5d hn hnb cp cp1 cp2 cd1 cd2 bp bp1 bp2 bd1 bd2 hd ht ht64 hq0 hq1 hr c1n c2 hnb2 hst ?_
        clear hst
        intro a w hst
        show Code.wp _ gs_n18 _ a w
        rw [gs_e18]
        refine wp_cond_true (st_bool hst 9 rfl) ?_
        show Code.wp _ gs_n19 _ a w
        rw [gs_e19]
        refine wp_skip ?_
        show Code.wp _ gs_n16 _ a w
        rw [gs_e16]
        refine wp_block ?_
        show Code.wp _ gs_n21 _ a w
        rw [gs_e21]
        refine wp_seq ?_
        rw [gs_e22]
        refine gs_r6d hn hnb cp cp1 cp2 cd1 cd2 bp bp1 bp2 bd1 bd2 hd ht ht64 hq0 hq1 hr c1n c2 hnb2 hst ?_
        clear hst
        intro a w hst
        show Code.wp _ gs_n23 _ a w
        rw [gs_e23]
        refine wp_seq ?_
        rw [gs_e24]
        refine gs_r7d hn hnb cp cp1 cp2 cd1 cd2 bp bp1 bp2 bd1 bd2 hd ht ht64 hq0 hq1 hr c1n c2 hnb2 hst ?_
        clear hst
        intro a w hst
        show Code.wp _ gs_n25 _ a w
        rw [gs_e25]
        refine wp_seq ?_
        rw [gs_e26]
        refine gs_r8d hn hnb cp cp1 cp2 cd1 cd2 bp bp1 bp2 bd1 bd2 hd ht ht64 hq0 hq1 hr c1n c2 hnb2 hst ?_
        clear hst
        intro a w hst
        show Code.wp _ gs_n27 _ a w
        rw [gs_e27]
        refine wp_cond_false (st_bool hst 10 rfl) ?_
        show Code.wp _ gs_n29 _ a w
        rw [gs_e29]
        refine wp_skip ?_
        exact ⟨(q - 1, r + d1), ⟨(hst.to ⟨hst.slots.get (k := 0) rfl, hst.slots.get (k := 1) rfl, hst.slots.get (k := 2) rfl, hst.slots.get (k := 3) rfl, hst.slots.get (k := 4) rfl, hst.slots.get (k := 5) rfl, hst.slots.get (k := 6) rfl, hst.slots.get (k := 7) rfl, hst.slots.get (k := 8) rfl, trivial⟩), guess_next hqr hq0, by show Qt ≤ q - 1; omega, by show r + d1 ≤ _; omega, by show q - 1 ≤ _; omega⟩, by show q - 1 < q; omega⟩
    · rw [gs_e14]
      refine wp_seq ?_
      rw [gs_e15]
      refine wp_seq ?_
      rw [gs_e17]
      refine gs_r5e hn hnb cp cp1 cp2 cd1 cd2 bp bp1 bp2 bd1 bd2 hd ht ht64 hq1 hr c1n c2n hst ?_
      clear hst
      intro a w hst
      show Code.wp _ gs_n18 _ a w
      rw [gs_e18]
      refine wp_cond_false (st_bool hst 9 rfl) ?_
      show Code.wp _ gs_n20 _ a w
      rw [gs_e20]
      refine wp_exit ?_
      have k1 : q < 4294967296 := by omega
      have k2 : q * d2 ≤ r * 4294967296 + pn2 := by omega
      have hqr2 := hqr
      show Code.wp _ gs_n12 _ a w
      rw [gs_e12]
      refine wp_seq ?_
      rw [gs_e30]
      refine gs_r9c hn hnb cp cp1 cp2 cd1 cd2 bp bp1 bp2 bd1 bd2 hd ht ht64 k1 hst ?_
      clear hst
      intro a w hst
      show Code.wp _ gs_n31 _ a w
      rw [gs_e31]
      refine wp_ret ?_
      exact ret_tmp_of hst rfl 2 rfl (fun v w h => ⟨q, h, k1, by omega, guess_ok hqr2 k2⟩)
end Go.Proofs.YtjajmonhcnmidaaDoor
