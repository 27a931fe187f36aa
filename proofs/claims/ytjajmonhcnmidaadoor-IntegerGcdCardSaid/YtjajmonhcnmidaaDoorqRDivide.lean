/- The reference's divide (written by wip/tools/gen_rdivide.py). -/
import Derived.Test.YtjajmonhcnmidaaDoorqRDvP
import Derived.Test.YtjajmonhcnmidaaDoorGm
namespace Go.Proofs.YtjajmonhcnmidaaDoor
open Go.RowKit

theorem sm_le {a b i : Nat} (h : Sm ((b : Nat) : Int) i) (hle : a ≤ b) : Sm ((a : Nat) : Int) i := Nat.lt_of_le_of_lt hle h
theorem kRLessB {x y : Nat} {va vb : Value} {w : World} {b : Bool} (ha : (natF x).p va w) (hb : (natF y).p vb w) (hx : len x ≤ 1099511627776) (hy : len y ≤ 1099511627776) (e : decide (x < y) = b) : Calls Tryd.prog 50 #[va, vb] w (GivesP (eqF (.bool b)) w) := e ▸ kRLess ha hb hx hy
theorem rdvpl_quadrature_quadratureref01_Add : Plainly 22 := fun _ _ => by simp [go_sem]
theorem rdvpl_quadrature_quadratureref01_Made : Plainly 32 := fun _ _ => by simp [go_sem]
theorem rdvpl_quadrature_quadratureref01_Mul : Plainly 24 := fun _ _ => by simp [go_sem]
theorem rdvpl_quadrature_quadratureref01_Sub : Plainly 23 := fun _ _ => by simp [go_sem]
theorem rdvpl_quadrature_quadratureref01_estimate : Plainly 72 := fun _ _ => by simp [go_sem]
theorem rdvpl_quadrature_quadratureref01_less : Plainly 50 := fun _ _ => by simp [go_sem]
theorem rdvpl_quadrature_quadratureref01_short : Plainly 71 := fun _ _ => by simp [go_sem]
noncomputable def rdv_n0 : Code := bodyOf Tryd.f56
noncomputable def rdv_n1 : Code := cl rdv_n0
noncomputable def rdv_n2 : Code := cr rdv_n0
theorem rdv_e0 : rdv_n0 = .seq rdv_n1 rdv_n2 := by kernel_rfl
noncomputable def rdv_o0 : Array Oper := opsOf rdv_n1
theorem rdv_e1 : rdv_n1 = .region 0 rdv_o0 false := by kernel_rfl
noncomputable def rdv_n3 : Code := cl rdv_n2
noncomputable def rdv_n4 : Code := cr rdv_n2
theorem rdv_e2 : rdv_n2 = .seq rdv_n3 rdv_n4 := by kernel_rfl
noncomputable def rdv_n5 : Code := cl rdv_n3
noncomputable def rdv_n6 : Code := cr rdv_n3
theorem rdv_e3 : rdv_n3 = .seq rdv_n5 rdv_n6 := by kernel_rfl
noncomputable def rdv_o1 : Array Oper := opsOf rdv_n5
theorem rdv_e5 : rdv_n5 = .region 1 rdv_o1 false := by kernel_rfl
noncomputable def rdv_n7 : Code := cl rdv_n6
noncomputable def rdv_n8 : Code := cr rdv_n6
theorem rdv_e6 : rdv_n6 = .cond (.tmp 18) rdv_n7 rdv_n8 := by kernel_rfl
noncomputable def rdv_n9 : Code := cl rdv_n7
noncomputable def rdv_n10 : Code := cr rdv_n7
theorem rdv_e7 : rdv_n7 = .seq rdv_n9 rdv_n10 := by kernel_rfl
noncomputable def rdv_o2 : Array Oper := opsOf rdv_n9
theorem rdv_e9 : rdv_n9 = .region 2 rdv_o2 false := by kernel_rfl
noncomputable def rdv_n11 : Code := cl rdv_n10
noncomputable def rdv_n12 : Code := cr rdv_n10
theorem rdv_e10 : rdv_n10 = .seq rdv_n11 rdv_n12 := by kernel_rfl
noncomputable def rdv_o3 : Array Oper := opsOf rdv_n11
theorem rdv_e11 : rdv_n11 = .region 3 rdv_o3 false := by kernel_rfl
theorem rdv_e12 : rdv_n12 = .ret := by kernel_rfl
theorem rdv_e8 : rdv_n8 = .skip := by kernel_rfl
noncomputable def rdv_n13 : Code := cl rdv_n4
noncomputable def rdv_n14 : Code := cr rdv_n4
theorem rdv_e4 : rdv_n4 = .seq rdv_n13 rdv_n14 := by kernel_rfl
noncomputable def rdv_o4 : Array Oper := opsOf rdv_n13
theorem rdv_e13 : rdv_n13 = .region 4 rdv_o4 false := by kernel_rfl
noncomputable def rdv_n15 : Code := cl rdv_n14
noncomputable def rdv_n16 : Code := cr rdv_n14
theorem rdv_e14 : rdv_n14 = .seq rdv_n15 rdv_n16 := by kernel_rfl
noncomputable def rdv_n17 : Code := cl rdv_n15
theorem rdv_e15 : rdv_n15 = .block 0 rdv_n17 := by kernel_rfl
noncomputable def rdv_n18 : Code := cl rdv_n17
theorem rdv_e17 : rdv_n17 = .loop rdv_n18 := by kernel_rfl
noncomputable def rdv_n19 : Code := cl rdv_n18
noncomputable def rdv_n20 : Code := cr rdv_n18
theorem rdv_e18 : rdv_n18 = .seq rdv_n19 rdv_n20 := by kernel_rfl
noncomputable def rdv_n21 : Code := cl rdv_n19
noncomputable def rdv_n22 : Code := cr rdv_n19
theorem rdv_e19 : rdv_n19 = .seq rdv_n21 rdv_n22 := by kernel_rfl
noncomputable def rdv_o5 : Array Oper := opsOf rdv_n21
theorem rdv_e21 : rdv_n21 = .region 5 rdv_o5 false := by kernel_rfl
noncomputable def rdv_n23 : Code := cl rdv_n22
noncomputable def rdv_n24 : Code := cr rdv_n22
theorem rdv_e22 : rdv_n22 = .cond (.tmp 42) rdv_n23 rdv_n24 := by kernel_rfl
theorem rdv_e23 : rdv_n23 = .skip := by kernel_rfl
theorem rdv_e24 : rdv_n24 = .exit 0 := by kernel_rfl
noncomputable def rdv_n25 : Code := cl rdv_n20
theorem rdv_e20 : rdv_n20 = .block 1 rdv_n25 := by kernel_rfl
noncomputable def rdv_o6 : Array Oper := opsOf rdv_n25
theorem rdv_e25 : rdv_n25 = .region 6 rdv_o6 false := by kernel_rfl
noncomputable def rdv_n26 : Code := cl rdv_n16
noncomputable def rdv_n27 : Code := cr rdv_n16
theorem rdv_e16 : rdv_n16 = .seq rdv_n26 rdv_n27 := by kernel_rfl
noncomputable def rdv_o7 : Array Oper := opsOf rdv_n26
theorem rdv_e26 : rdv_n26 = .region 7 rdv_o7 false := by kernel_rfl
noncomputable def rdv_n28 : Code := cl rdv_n27
noncomputable def rdv_n29 : Code := cr rdv_n27
theorem rdv_e27 : rdv_n27 = .seq rdv_n28 rdv_n29 := by kernel_rfl
noncomputable def rdv_o8 : Array Oper := opsOf rdv_n28
theorem rdv_e28 : rdv_n28 = .region 8 rdv_o8 true := by kernel_rfl
noncomputable def rdv_n30 : Code := cl rdv_n29
noncomputable def rdv_n31 : Code := cr rdv_n29
theorem rdv_e29 : rdv_n29 = .seq rdv_n30 rdv_n31 := by kernel_rfl
noncomputable def rdv_n32 : Code := cl rdv_n30
theorem rdv_e30 : rdv_n30 = .block 2 rdv_n32 := by kernel_rfl
noncomputable def rdv_n33 : Code := cl rdv_n32
theorem rdv_e32 : rdv_n32 = .loop rdv_n33 := by kernel_rfl
noncomputable def rdv_n34 : Code := cl rdv_n33
noncomputable def rdv_n35 : Code := cr rdv_n33
theorem rdv_e33 : rdv_n33 = .seq rdv_n34 rdv_n35 := by kernel_rfl
noncomputable def rdv_n36 : Code := cl rdv_n34
noncomputable def rdv_n37 : Code := cr rdv_n34
theorem rdv_e34 : rdv_n34 = .seq rdv_n36 rdv_n37 := by kernel_rfl
noncomputable def rdv_o9 : Array Oper := opsOf rdv_n36
theorem rdv_e36 : rdv_n36 = .region 9 rdv_o9 false := by kernel_rfl
noncomputable def rdv_n38 : Code := cl rdv_n37
noncomputable def rdv_n39 : Code := cr rdv_n37
theorem rdv_e37 : rdv_n37 = .cond (.tmp 62) rdv_n38 rdv_n39 := by kernel_rfl
theorem rdv_e38 : rdv_n38 = .skip := by kernel_rfl
theorem rdv_e39 : rdv_n39 = .exit 2 := by kernel_rfl
noncomputable def rdv_n40 : Code := cl rdv_n35
theorem rdv_e35 : rdv_n35 = .block 3 rdv_n40 := by kernel_rfl
noncomputable def rdv_n41 : Code := cl rdv_n40
noncomputable def rdv_n42 : Code := cr rdv_n40
theorem rdv_e40 : rdv_n40 = .seq rdv_n41 rdv_n42 := by kernel_rfl
noncomputable def rdv_o10 : Array Oper := opsOf rdv_n41
theorem rdv_e41 : rdv_n41 = .region 10 rdv_o10 false := by kernel_rfl
noncomputable def rdv_n43 : Code := cl rdv_n42
noncomputable def rdv_n44 : Code := cr rdv_n42
theorem rdv_e42 : rdv_n42 = .seq rdv_n43 rdv_n44 := by kernel_rfl
noncomputable def rdv_o11 : Array Oper := opsOf rdv_n43
theorem rdv_e43 : rdv_n43 = .region 11 rdv_o11 false := by kernel_rfl
noncomputable def rdv_o12 : Array Oper := opsOf rdv_n44
theorem rdv_e44 : rdv_n44 = .region 12 rdv_o12 true := by kernel_rfl
noncomputable def rdv_n45 : Code := cl rdv_n31
noncomputable def rdv_n46 : Code := cr rdv_n31
theorem rdv_e31 : rdv_n31 = .seq rdv_n45 rdv_n46 := by kernel_rfl
noncomputable def rdv_o13 : Array Oper := opsOf rdv_n45
theorem rdv_e45 : rdv_n45 = .region 13 rdv_o13 false := by kernel_rfl
noncomputable def rdv_n47 : Code := cl rdv_n46
noncomputable def rdv_n48 : Code := cr rdv_n46
theorem rdv_e46 : rdv_n46 = .seq rdv_n47 rdv_n48 := by kernel_rfl
noncomputable def rdv_o14 : Array Oper := opsOf rdv_n47
theorem rdv_e47 : rdv_n47 = .region 14 rdv_o14 true := by kernel_rfl
theorem rdv_e48 : rdv_n48 = .ret := by kernel_rfl
set_option maxRecDepth 100000 in
theorem rdv_r0 {Q : Exit → Act → World → Prop} {Wb W0 : World} {a0 : Act} {x y i j n cap t : Nat} {bd : Addr} (_sx : Sm ((x : Nat) : Int) i) (_sy : Sm ((y : Nat) : Int) j) (_hi : i ≤ 400) (_hj : j ≤ 400) (_hN : NatAt Wb (.slice (some bd) n cap) y) (_ct : Wb.cell? (bd.add (n - 1)) = some (.int .u32 (t : Int))) (_hn : 1 ≤ n) (_hn2 : n ≤ 1099511627776) (_ht0 : 0 < t) (_ht : t < 4294967296) (_n1 : n = 1) (_ct0 : Wb.cell? (bd.add 0) = some (.int .u32 (t : Int))) (hst : St Wb 86 [(0, (natF x)), (1, (eqF (.slice (some bd) n cap)))] [] a0 W0)
    (fin : ∀ a w, St Wb 86 [(0, (natF x)), (1, (eqF (.slice (some bd) n cap)))] [(4, zeroIF), (5, zeroIF)] a w → Q .normal a w) : (Code.region 0 rdv_o0 false).wp Tryd.prog Q a0 W0 := by
  have hP : Plan rdv_o0 86 ([⟨4, some 0, none, zeroIF, zeroIF⟩, ⟨5, some 1, none, zeroIF, zeroIF⟩] : List BoxS) [] := ⟨by kernel_rfl, by kernel_rfl, by kernel_rfl, by kernel_rfl, by kernel_rfl, by kernel_rfl⟩
  refine region_st (F := [anyF, anyF]) hP hst rfl rfl ?_ ?_ fin
  · show Steps rdv_o0 86 Wb W0 a0 _ _ _ 2
    refine steps_snoc (k := 1) ?_ (s_alloc (i := 1) (d := 5) hP 1 _ (isOp_of (by kernel_rfl) : IsOp rdv_o0 1 none (.alloc 27)) (by kernel_rfl) rfl rfl rfl (by kernel_rfl) (by kernel_rfl) (by kernel_rfl) (by kernel_rfl) rfl allocI_run allocI_old)
    refine steps_snoc (k := 0) ?_ (s_alloc (i := 0) (d := 4) hP 0 _ (isOp_of (by kernel_rfl) : IsOp rdv_o0 0 none (.alloc 27)) (by kernel_rfl) rfl rfl rfl (by kernel_rfl) (by kernel_rfl) (by kernel_rfl) (by kernel_rfl) rfl allocI_run allocI_old)
    exact steps_nil
  · intro m a w hI hm
    exact ⟨(low_fact hst 0 rfl (by kernel_rfl) hI), (low_fact hst 1 rfl (by kernel_rfl) hI), trivial⟩
set_option maxRecDepth 100000 in
theorem rdv_r1 {Q : Exit → Act → World → Prop} {Wb W0 : World} {a0 : Act} {x y i j n cap t : Nat} {bd : Addr} (_sx : Sm ((x : Nat) : Int) i) (_sy : Sm ((y : Nat) : Int) j) (_hi : i ≤ 400) (_hj : j ≤ 400) (_hN : NatAt Wb (.slice (some bd) n cap) y) (_ct : Wb.cell? (bd.add (n - 1)) = some (.int .u32 (t : Int))) (_hn : 1 ≤ n) (_hn2 : n ≤ 1099511627776) (_ht0 : 0 < t) (_ht : t < 4294967296) (_n1 : n = 1) (_ct0 : Wb.cell? (bd.add 0) = some (.int .u32 (t : Int))) (hst : St Wb 86 [(0, (natF x)), (1, (eqF (.slice (some bd) n cap)))] [(4, zeroIF), (5, zeroIF)] a0 W0)
    (fin : ∀ a w, St Wb 86 [(0, (natF x)), (1, (eqF (.slice (some bd) n cap))), (18, (eqF (.bool true)))] [(4, zeroIF), (5, zeroIF)] a w → Q .normal a w) : (Code.region 1 rdv_o1 false).wp Tryd.prog Q a0 W0 := by
  have hP : Plan rdv_o1 86 ([⟨4, none, none, zeroIF, zeroIF⟩, ⟨5, none, none, zeroIF, zeroIF⟩] : List BoxS) [] := ⟨by kernel_rfl, by kernel_rfl, by kernel_rfl, by kernel_rfl, by kernel_rfl, by kernel_rfl⟩
  refine region_st (F := [(eqF (.slice (some bd) n cap)), (eqF (.int .i64 (n : Int))), (eqF (.bool true))]) hP hst rfl rfl ?_ ?_ fin
  · show Steps rdv_o1 86 Wb W0 a0 _ _ _ 3
    refine steps_snoc (k := 2) ?_ (s_op2 (i := 2) hP (g := none) (isOp_of (by kernel_rfl) : IsOp rdv_o1 2 none (.binOp .eql 3 (.tmp 17) (.const (.int .i64 1)) 3)) (by kernel_rfl) (by kernel_rfl) (grd_none) (src_op (f := (eqF (.int .i64 (n : Int)))) 1 (by kernel_rfl) (by kernel_rfl) rfl) (src_const _) (fun ρ w hx hy => h_eqlI (r := true) (by simp; omega) hx hy) rfl)
    refine steps_snoc (k := 1) ?_ (s_op1 (i := 1) hP (g := none) (isOp_of (by kernel_rfl) : IsOp rdv_o1 1 none (.call { callee := .builtin .len, args := #[.tmp 16], argTypes := #[22] })) (by kernel_rfl) (by kernel_rfl) (grd_none) (src_op (f := (eqF (.slice (some bd) n cap))) 0 (by kernel_rfl) (by kernel_rfl) rfl) (fun ρ w hx => h_len hx) rfl)
    refine steps_snoc (k := 0) ?_ (s_move (i := 0) hP (g := none) (isOp_of (by kernel_rfl) : IsOp rdv_o1 0 none (.move (.tmp 1))) (by kernel_rfl) (by kernel_rfl) (grd_none) (src_low hst 1 rfl (by kernel_rfl)) rfl)
    exact steps_nil
  · intro m a w hI hm
    exact ⟨(low_fact hst 0 rfl (by kernel_rfl) hI), (low_fact hst 1 rfl (by kernel_rfl) hI), (out_op hI hm 2 18 _ (by kernel_rfl) rfl), trivial⟩
set_option maxRecDepth 100000 in
theorem rdv_r2 {Q : Exit → Act → World → Prop} {Wb W0 : World} {a0 : Act} {x y i j n cap t : Nat} {bd : Addr} (sx : Sm ((x : Nat) : Int) i) (_sy : Sm ((y : Nat) : Int) j) (_hi : i ≤ 400) (_hj : j ≤ 400) (_hN : NatAt Wb (.slice (some bd) n cap) y) (_ct : Wb.cell? (bd.add (n - 1)) = some (.int .u32 (t : Int))) (_hn : 1 ≤ n) (_hn2 : n ≤ 1099511627776) (_ht0 : 0 < t) (_ht : t < 4294967296) (_n1 : n = 1) (ct0 : Wb.cell? (bd.add 0) = some (.int .u32 (t : Int))) (hst : St Wb 86 [(0, (natF x)), (1, (eqF (.slice (some bd) n cap))), (18, (eqF (.bool true)))] [(4, zeroIF), (5, zeroIF)] a0 W0)
    (fin : ∀ a w, St Wb 86 [(0, (natF x)), (1, (eqF (.slice (some bd) n cap))), (6, (magF (x / t))), (7, (eqF (.int .u32 ((x % t : Nat) : Int)))), (18, (eqF (.bool true)))] [(4, zeroIF), (5, zeroIF)] a w → Q .normal a w) : (Code.region 2 rdv_o2 false).wp Tryd.prog Q a0 W0 := by
  have hP : Plan rdv_o2 86 ([⟨4, none, none, zeroIF, zeroIF⟩, ⟨5, none, none, zeroIF, zeroIF⟩] : List BoxS) [] := ⟨by kernel_rfl, by kernel_rfl, by kernel_rfl, by kernel_rfl, by kernel_rfl, by kernel_rfl⟩
  refine region_st (F := [(natF x), (eqF (.slice (some bd) n cap)), (eqF (.pointer (some ((bd).add (0))))), (eqF (.int .u32 (t : Int))), (tup2F (magF (x / t)) (eqF (.int .u32 ((x % t : Nat) : Int)))), (tup2F (magF (x / t)) (eqF (.int .u32 ((x % t : Nat) : Int)))), (magF (x / t)), (eqF (.int .u32 ((x % t : Nat) : Int))), (magF (x / t)), (eqF (.int .u32 ((x % t : Nat) : Int)))]) hP hst rfl rfl ?_ ?_ fin
  · show Steps rdv_o2 86 Wb W0 a0 _ _ _ 10
    refine steps_snoc (k := 9) ?_ (s_assign (i := 9) hP (g := none) (isOp_of (by kernel_rfl) : IsOp rdv_o2 9 none (.assign (.tmp 26))) (by kernel_rfl) (by kernel_rfl) (grd_none) (src_op (f := (eqF (.int .u32 ((x % t : Nat) : Int)))) 7 (by kernel_rfl) (by kernel_rfl) rfl) rfl)
    refine steps_snoc (k := 8) ?_ (s_assign (i := 8) hP (g := none) (isOp_of (by kernel_rfl) : IsOp rdv_o2 8 none (.assign (.tmp 25))) (by kernel_rfl) (by kernel_rfl) (grd_none) (src_op (f := (magF (x / t))) 6 (by kernel_rfl) (by kernel_rfl) rfl) rfl)
    refine steps_snoc (k := 7) ?_ (s_op1 (i := 7) hP (g := none) (isOp_of (by kernel_rfl) : IsOp rdv_o2 7 none (.extract (.tmp 19) 1)) (by kernel_rfl) (by kernel_rfl) (grd_none) (src_op (f := (tup2F (magF (x / t)) (eqF (.int .u32 ((x % t : Nat) : Int))))) 5 (by kernel_rfl) (by kernel_rfl) rfl) (fun ρ w hx => h_ext2_1 hx) rfl)
    refine steps_snoc (k := 6) ?_ (s_op1 (i := 6) hP (g := none) (isOp_of (by kernel_rfl) : IsOp rdv_o2 6 none (.extract (.tmp 19) 0)) (by kernel_rfl) (by kernel_rfl) (grd_none) (src_op (f := (tup2F (magF (x / t)) (eqF (.int .u32 ((x % t : Nat) : Int))))) 5 (by kernel_rfl) (by kernel_rfl) rfl) (fun ρ w hx => h_ext2_0 hx) rfl)
    refine steps_snoc (k := 5) ?_ (s_move (i := 5) hP (g := none) (isOp_of (by kernel_rfl) : IsOp rdv_o2 5 none (.move (.tmp 24))) (by kernel_rfl) (by kernel_rfl) (grd_none) (src_op (f := (tup2F (magF (x / t)) (eqF (.int .u32 ((x % t : Nat) : Int))))) 4 (by kernel_rfl) (by kernel_rfl) rfl) rfl)
    refine steps_snoc (k := 4) ?_ (s_call2 (i := 4) hP (g := none) (isOp_of (by kernel_rfl) : IsOp rdv_o2 4 none (.call { callee := .value (.func 71), args := #[.tmp 20, .tmp 23], argTypes := #[22, 38] })) (by kernel_rfl) (by kernel_rfl) (grd_none) (src_op (f := (natF x)) 0 (by kernel_rfl) (by kernel_rfl) rfl) (src_op (f := (eqF (.int .u32 (t : Int)))) 3 (by kernel_rfl) (by kernel_rfl) rfl) rdvpl_quadrature_quadratureref01_short (fun w v0 v1 hb h0 h1 => kRShort h0 h1 (Nat.le_trans (len_le_pow sx) (by omega)) (by omega) (by omega)) rfl)
    refine steps_snoc (k := 3) ?_ (s_loadP (i := 3) hP (g := none) (isOp_of (by kernel_rfl) : IsOp rdv_o2 3 none (.load 38 (.tmp 22))) (by kernel_rfl) (by kernel_rfl) (grd_none) (src_op (f := (eqF (.pointer (some ((bd).add (0)))))) 2 (by kernel_rfl) (by kernel_rfl) rfl) ct0 load32_run rfl)
    refine steps_snoc (k := 2) ?_ (s_op2 (i := 2) hP (g := none) (isOp_of (by kernel_rfl) : IsOp rdv_o2 2 none (.indexAddr 22 (.tmp 21) (.const (.int .i64 0)))) (by kernel_rfl) (by kernel_rfl) (grd_none) (src_op (f := (eqF (.slice (some bd) n cap))) 1 (by kernel_rfl) (by kernel_rfl) rfl) (src_const _) (fun ρ w hx hy => h_idx (k := 0) (by omega) hx hy) rfl)
    refine steps_snoc (k := 1) ?_ (s_move (i := 1) hP (g := none) (isOp_of (by kernel_rfl) : IsOp rdv_o2 1 none (.move (.tmp 1))) (by kernel_rfl) (by kernel_rfl) (grd_none) (src_low hst 1 rfl (by kernel_rfl)) rfl)
    refine steps_snoc (k := 0) ?_ (s_move (i := 0) hP (g := none) (isOp_of (by kernel_rfl) : IsOp rdv_o2 0 none (.move (.tmp 0))) (by kernel_rfl) (by kernel_rfl) (grd_none) (src_low hst 0 rfl (by kernel_rfl)) rfl)
    exact steps_nil
  · intro m a w hI hm
    exact ⟨(low_fact hst 0 rfl (by kernel_rfl) hI), (low_fact hst 1 rfl (by kernel_rfl) hI), (out_op hI hm 8 6 _ (by kernel_rfl) rfl), (out_op hI hm 9 7 _ (by kernel_rfl) rfl), (low_fact hst 2 rfl (by kernel_rfl) hI), trivial⟩
set_option maxRecDepth 100000 in
theorem rdv_r3 {Q : Exit → Act → World → Prop} {Wb W0 : World} {a0 : Act} {x y i j n cap t : Nat} {bd : Addr} (_sx : Sm ((x : Nat) : Int) i) (_sy : Sm ((y : Nat) : Int) j) (_hi : i ≤ 400) (_hj : j ≤ 400) (_hN : NatAt Wb (.slice (some bd) n cap) y) (_ct : Wb.cell? (bd.add (n - 1)) = some (.int .u32 (t : Int))) (_hn : 1 ≤ n) (_hn2 : n ≤ 1099511627776) (_ht0 : 0 < t) (_ht : t < 4294967296) (_n1 : n = 1) (_ct0 : Wb.cell? (bd.add 0) = some (.int .u32 (t : Int))) (hst : St Wb 86 [(0, (natF x)), (1, (eqF (.slice (some bd) n cap))), (6, (magF (x / t))), (7, (eqF (.int .u32 ((x % t : Nat) : Int)))), (18, (eqF (.bool true)))] [(4, zeroIF), (5, zeroIF)] a0 W0)
    (fin : ∀ a w, St Wb 86 [(0, (natF x)), (1, (eqF (.slice (some bd) n cap))), (6, (magF (x / t))), (7, (eqF (.int .u32 ((x % t : Nat) : Int)))), (18, (eqF (.bool true)))] [(4, (boxIF (((x / t) : Nat) : Int))), (5, (boxIF (((x % t) : Nat) : Int)))] a w → Q .normal a w) : (Code.region 3 rdv_o3 false).wp Tryd.prog Q a0 W0 := by
  have hP : Plan rdv_o3 86 ([⟨4, none, some 5, zeroIF, (boxIF (((x / t) : Nat) : Int))⟩, ⟨5, none, some 6, zeroIF, (boxIF (((x % t) : Nat) : Int))⟩] : List BoxS) [] := ⟨by kernel_rfl, by kernel_rfl, by kernel_rfl, by kernel_rfl, by kernel_rfl, by kernel_rfl⟩
  refine region_st (F := [(magF (x / t)), (intF (((x / t) : Nat) : Int)), (eqF (.int .u32 ((x % t : Nat) : Int))), (magF (x % t)), (intF (((x % t) : Nat) : Int)), anyF, anyF]) hP hst rfl rfl ?_ ?_ fin
  · show Steps rdv_o3 86 Wb W0 a0 _ _ _ 7
    refine steps_snoc (k := 6) ?_ (s_store (i := 6) 1 _ (isOp_of (by kernel_rfl) : IsOp rdv_o3 6 none (.store 27 (.tmp 5) (.tmp 31))) (by kernel_rfl) rfl rfl rfl (by kernel_rfl) (by kernel_rfl) (by kernel_rfl) (src_op (f := (intF (((x % t) : Nat) : Int))) 4 (by kernel_rfl) (by kernel_rfl) rfl) (storeI_zero _))
    refine steps_snoc (k := 5) ?_ (s_store (i := 5) 0 _ (isOp_of (by kernel_rfl) : IsOp rdv_o3 5 none (.store 27 (.tmp 4) (.tmp 28))) (by kernel_rfl) rfl rfl rfl (by kernel_rfl) (by kernel_rfl) (by kernel_rfl) (src_op (f := (intF (((x / t) : Nat) : Int))) 1 (by kernel_rfl) (by kernel_rfl) rfl) (storeI_zero _))
    refine steps_snoc (k := 4) ?_ (s_call2 (i := 4) hP (g := none) (isOp_of (by kernel_rfl) : IsOp rdv_o3 4 none (.call { callee := .value (.func 32), args := #[.tmp 30, .const (.bool false)], argTypes := #[22, 4] })) (by kernel_rfl) (by kernel_rfl) (grd_none) (src_op (f := (magF (x % t))) 3 (by kernel_rfl) (by kernel_rfl) rfl) (src_const _) rdvpl_quadrature_quadratureref01_Made (fun w v0 v1 hb h0 h1 => kRMadeM h0 h1) rfl)
    refine steps_snoc (k := 3) ?_ (s_op1 (i := 3) hP (g := none) (isOp_of (by kernel_rfl) : IsOp rdv_o3 3 none (.buildSlice 22 1 #[(0, .tmp 29)])) (by kernel_rfl) (by kernel_rfl) (grd_none) (src_op (f := (eqF (.int .u32 ((x % t : Nat) : Int)))) 2 (by kernel_rfl) (by kernel_rfl) rfl) (fun ρ w hx => h_row1 (Nat.lt_of_lt_of_le (Nat.mod_lt _ (by omega)) (Nat.le_of_lt (by assumption))) hx) rfl)
    refine steps_snoc (k := 2) ?_ (s_move (i := 2) hP (g := none) (isOp_of (by kernel_rfl) : IsOp rdv_o3 2 none (.move (.tmp 7))) (by kernel_rfl) (by kernel_rfl) (grd_none) (src_low hst 3 rfl (by kernel_rfl)) rfl)
    refine steps_snoc (k := 1) ?_ (s_call2 (i := 1) hP (g := none) (isOp_of (by kernel_rfl) : IsOp rdv_o3 1 none (.call { callee := .value (.func 32), args := #[.tmp 27, .const (.bool false)], argTypes := #[22, 4] })) (by kernel_rfl) (by kernel_rfl) (grd_none) (src_op (f := (magF (x / t))) 0 (by kernel_rfl) (by kernel_rfl) rfl) (src_const _) rdvpl_quadrature_quadratureref01_Made (fun w v0 v1 hb h0 h1 => kRMadeM h0 h1) rfl)
    refine steps_snoc (k := 0) ?_ (s_move (i := 0) hP (g := none) (isOp_of (by kernel_rfl) : IsOp rdv_o3 0 none (.move (.tmp 6))) (by kernel_rfl) (by kernel_rfl) (grd_none) (src_low hst 2 rfl (by kernel_rfl)) rfl)
    exact steps_nil
  · intro m a w hI hm
    exact ⟨(low_fact hst 0 rfl (by kernel_rfl) hI), (low_fact hst 1 rfl (by kernel_rfl) hI), (low_fact hst 2 rfl (by kernel_rfl) hI), (low_fact hst 3 rfl (by kernel_rfl) hI), (low_fact hst 4 rfl (by kernel_rfl) hI), trivial⟩
set_option maxRecDepth 100000 in
theorem rdv_r0b {Q : Exit → Act → World → Prop} {Wb W0 : World} {a0 : Act} {x y i j n cap t : Nat} {bd : Addr} (_sx : Sm ((x : Nat) : Int) i) (_sy : Sm ((y : Nat) : Int) j) (_hi : i ≤ 400) (_hj : j ≤ 400) (_hN : NatAt Wb (.slice (some bd) n cap) y) (_ct : Wb.cell? (bd.add (n - 1)) = some (.int .u32 (t : Int))) (_hn : 1 ≤ n) (_hn2 : n ≤ 1099511627776) (_ht0 : 0 < t) (_ht : t < 4294967296) (_n1 : ¬ n = 1) (hst : St Wb 86 [(0, (natF x)), (1, (eqF (.slice (some bd) n cap)))] [] a0 W0)
    (fin : ∀ a w, St Wb 86 [(0, (natF x)), (1, (eqF (.slice (some bd) n cap)))] [(4, zeroIF), (5, zeroIF)] a w → Q .normal a w) : (Code.region 0 rdv_o0 false).wp Tryd.prog Q a0 W0 := by
  have hP : Plan rdv_o0 86 ([⟨4, some 0, none, zeroIF, zeroIF⟩, ⟨5, some 1, none, zeroIF, zeroIF⟩] : List BoxS) [] := ⟨by kernel_rfl, by kernel_rfl, by kernel_rfl, by kernel_rfl, by kernel_rfl, by kernel_rfl⟩
  refine region_st (F := [anyF, anyF]) hP hst rfl rfl ?_ ?_ fin
  · show Steps rdv_o0 86 Wb W0 a0 _ _ _ 2
    refine steps_snoc (k := 1) ?_ (s_alloc (i := 1) (d := 5) hP 1 _ (isOp_of (by kernel_rfl) : IsOp rdv_o0 1 none (.alloc 27)) (by kernel_rfl) rfl rfl rfl (by kernel_rfl) (by kernel_rfl) (by kernel_rfl) (by kernel_rfl) rfl allocI_run allocI_old)
    refine steps_snoc (k := 0) ?_ (s_alloc (i := 0) (d := 4) hP 0 _ (isOp_of (by kernel_rfl) : IsOp rdv_o0 0 none (.alloc 27)) (by kernel_rfl) rfl rfl rfl (by kernel_rfl) (by kernel_rfl) (by kernel_rfl) (by kernel_rfl) rfl allocI_run allocI_old)
    exact steps_nil
  · intro m a w hI hm
    exact ⟨(low_fact hst 0 rfl (by kernel_rfl) hI), (low_fact hst 1 rfl (by kernel_rfl) hI), trivial⟩
set_option maxRecDepth 100000 in
theorem rdv_r1b {Q : Exit → Act → World → Prop} {Wb W0 : World} {a0 : Act} {x y i j n cap t : Nat} {bd : Addr} (_sx : Sm ((x : Nat) : Int) i) (_sy : Sm ((y : Nat) : Int) j) (_hi : i ≤ 400) (_hj : j ≤ 400) (_hN : NatAt Wb (.slice (some bd) n cap) y) (_ct : Wb.cell? (bd.add (n - 1)) = some (.int .u32 (t : Int))) (_hn : 1 ≤ n) (_hn2 : n ≤ 1099511627776) (_ht0 : 0 < t) (_ht : t < 4294967296) (_n1 : ¬ n = 1) (hst : St Wb 86 [(0, (natF x)), (1, (eqF (.slice (some bd) n cap)))] [(4, zeroIF), (5, zeroIF)] a0 W0)
    (fin : ∀ a w, St Wb 86 [(0, (natF x)), (1, (eqF (.slice (some bd) n cap))), (18, (eqF (.bool false)))] [(4, zeroIF), (5, zeroIF)] a w → Q .normal a w) : (Code.region 1 rdv_o1 false).wp Tryd.prog Q a0 W0 := by
  have hP : Plan rdv_o1 86 ([⟨4, none, none, zeroIF, zeroIF⟩, ⟨5, none, none, zeroIF, zeroIF⟩] : List BoxS) [] := ⟨by kernel_rfl, by kernel_rfl, by kernel_rfl, by kernel_rfl, by kernel_rfl, by kernel_rfl⟩
  refine region_st (F := [(eqF (.slice (some bd) n cap)), (eqF (.int .i64 (n : Int))), (eqF (.bool false))]) hP hst rfl rfl ?_ ?_ fin
  · show Steps rdv_o1 86 Wb W0 a0 _ _ _ 3
    refine steps_snoc (k := 2) ?_ (s_op2 (i := 2) hP (g := none) (isOp_of (by kernel_rfl) : IsOp rdv_o1 2 none (.binOp .eql 3 (.tmp 17) (.const (.int .i64 1)) 3)) (by kernel_rfl) (by kernel_rfl) (grd_none) (src_op (f := (eqF (.int .i64 (n : Int)))) 1 (by kernel_rfl) (by kernel_rfl) rfl) (src_const _) (fun ρ w hx hy => h_eqlI (r := false) (by simp; omega) hx hy) rfl)
    refine steps_snoc (k := 1) ?_ (s_op1 (i := 1) hP (g := none) (isOp_of (by kernel_rfl) : IsOp rdv_o1 1 none (.call { callee := .builtin .len, args := #[.tmp 16], argTypes := #[22] })) (by kernel_rfl) (by kernel_rfl) (grd_none) (src_op (f := (eqF (.slice (some bd) n cap))) 0 (by kernel_rfl) (by kernel_rfl) rfl) (fun ρ w hx => h_len hx) rfl)
    refine steps_snoc (k := 0) ?_ (s_move (i := 0) hP (g := none) (isOp_of (by kernel_rfl) : IsOp rdv_o1 0 none (.move (.tmp 1))) (by kernel_rfl) (by kernel_rfl) (grd_none) (src_low hst 1 rfl (by kernel_rfl)) rfl)
    exact steps_nil
  · intro m a w hI hm
    exact ⟨(low_fact hst 0 rfl (by kernel_rfl) hI), (low_fact hst 1 rfl (by kernel_rfl) hI), (out_op hI hm 2 18 _ (by kernel_rfl) rfl), trivial⟩
set_option maxRecDepth 100000 in
theorem rdv_r4 {Q : Exit → Act → World → Prop} {Wb W0 : World} {a0 : Act} {x y i j n cap t : Nat} {bd : Addr} (_sx : Sm ((x : Nat) : Int) i) (_sy : Sm ((y : Nat) : Int) j) (_hi : i ≤ 400) (_hj : j ≤ 400) (_hN : NatAt Wb (.slice (some bd) n cap) y) (_ct : Wb.cell? (bd.add (n - 1)) = some (.int .u32 (t : Int))) (_hn : 1 ≤ n) (_hn2 : n ≤ 1099511627776) (_ht0 : 0 < t) (_ht : t < 4294967296) (_n1 : ¬ n = 1) (hst : St Wb 86 [(0, (natF x)), (1, (eqF (.slice (some bd) n cap))), (18, (eqF (.bool false)))] [(4, zeroIF), (5, zeroIF)] a0 W0)
    (fin : ∀ a w, St Wb 86 [(0, (natF x)), (1, (eqF (.slice (some bd) n cap))), (8, (eqF (.int .u32 1))), (18, (eqF (.bool false)))] [(4, zeroIF), (5, zeroIF)] a w → Q .normal a w) : (Code.region 4 rdv_o4 false).wp Tryd.prog Q a0 W0 := by
  have hP : Plan rdv_o4 86 ([⟨4, none, none, zeroIF, zeroIF⟩, ⟨5, none, none, zeroIF, zeroIF⟩] : List BoxS) [] := ⟨by kernel_rfl, by kernel_rfl, by kernel_rfl, by kernel_rfl, by kernel_rfl, by kernel_rfl⟩
  refine region_st (F := [(eqF (.int .u32 1))]) hP hst rfl rfl ?_ ?_ fin
  · show Steps rdv_o4 86 Wb W0 a0 _ _ _ 1
    refine steps_snoc (k := 0) ?_ (s_assign (i := 0) hP (g := none) (isOp_of (by kernel_rfl) : IsOp rdv_o4 0 none (.assign (.const (.int .u32 1)))) (by kernel_rfl) (by kernel_rfl) (grd_none) (src_const _) rfl)
    exact steps_nil
  · intro m a w hI hm
    exact ⟨(low_fact hst 0 rfl (by kernel_rfl) hI), (low_fact hst 1 rfl (by kernel_rfl) hI), (out_op hI hm 0 8 _ (by kernel_rfl) rfl), (low_fact hst 2 rfl (by kernel_rfl) hI), trivial⟩
set_option maxRecDepth 100000 in
theorem rdv_r5 {Q : Exit → Act → World → Prop} {Wb W0 : World} {a0 : Act} {x y i j n cap t : Nat} {bd : Addr} (_sx : Sm ((x : Nat) : Int) i) (_sy : Sm ((y : Nat) : Int) j) (_hi : i ≤ 400) (_hj : j ≤ 400) (_hN : NatAt Wb (.slice (some bd) n cap) y) (ct : Wb.cell? (bd.add (n - 1)) = some (.int .u32 (t : Int))) (_hn : 1 ≤ n) (_hn2 : n ≤ 1099511627776) (_ht0 : 0 < t) (_ht : t < 4294967296) (_n1 : ¬ n = 1) {s : Nat} (_hs0 : 0 < s) (_hs1 : s < 4294967296) (_hts : t * s < 4294967296) (_hlo : t * s < 2147483648) (hst : St Wb 86 [(0, (natF x)), (1, (eqF (.slice (some bd) n cap))), (8, (eqF (.int .u32 (s : Int)))), (18, (eqF (.bool false)))] [(4, zeroIF), (5, zeroIF)] a0 W0)
    (fin : ∀ a w, St Wb 86 [(0, (natF x)), (1, (eqF (.slice (some bd) n cap))), (8, (eqF (.int .u32 (s : Int)))), (18, (eqF (.bool false))), (42, (eqF (.bool true)))] [(4, zeroIF), (5, zeroIF)] a w → Q .normal a w) : (Code.region 5 rdv_o5 false).wp Tryd.prog Q a0 W0 := by
  have hP : Plan rdv_o5 86 ([⟨4, none, none, zeroIF, zeroIF⟩, ⟨5, none, none, zeroIF, zeroIF⟩] : List BoxS) [] := ⟨by kernel_rfl, by kernel_rfl, by kernel_rfl, by kernel_rfl, by kernel_rfl, by kernel_rfl⟩
  refine region_st (F := [(eqF (.slice (some bd) n cap)), (eqF (.slice (some bd) n cap)), (eqF (.int .i64 (n : Int))), (eqF (.int .i64 ((n - 1 : Nat) : Int))), (eqF (.pointer (some ((bd).add (n - 1))))), (eqF (.int .u32 (t : Int))), (eqF (.int .u64 (t : Int))), (eqF (.int .u32 (s : Int))), (eqF (.int .u64 (s : Int))), (eqF (.int .u64 ((t * s : Nat) : Int))), (eqF (.bool true))]) hP hst rfl rfl ?_ ?_ fin
  · show Steps rdv_o5 86 Wb W0 a0 _ _ _ 11
    refine steps_snoc (k := 10) ?_ (s_op2 (i := 10) hP (g := none) (isOp_of (by kernel_rfl) : IsOp rdv_o5 10 none (.binOp .lss 49 (.tmp 41) (.const (.int .u64 2147483648)) 49)) (by kernel_rfl) (by kernel_rfl) (grd_none) (src_op (f := (eqF (.int .u64 ((t * s : Nat) : Int)))) 9 (by kernel_rfl) (by kernel_rfl) rfl) (src_const _) (fun ρ w hx hy => h_lss (r := true) (by simp only [decide_eq_true_eq]; omega) hx hy) rfl)
    refine steps_snoc (k := 9) ?_ (s_op2 (i := 9) hP (g := none) (isOp_of (by kernel_rfl) : IsOp rdv_o5 9 none (.binOp .mul 49 (.tmp 38) (.tmp 40) 49)) (by kernel_rfl) (by kernel_rfl) (grd_none) (src_op (f := (eqF (.int .u64 (t : Int)))) 6 (by kernel_rfl) (by kernel_rfl) rfl) (src_op (f := (eqF (.int .u64 (s : Int)))) 8 (by kernel_rfl) (by kernel_rfl) rfl) (fun ρ w hx hy => h_mul (z := ((t * s : Nat) : Int)) (by rw [IntKind.wrap_u64]; rw [← Int.natCast_mul]; omega) hx hy) rfl)
    refine steps_snoc (k := 8) ?_ (s_op1 (i := 8) hP (g := none) (isOp_of (by kernel_rfl) : IsOp rdv_o5 8 none (.convert 38 49 (.tmp 39))) (by kernel_rfl) (by kernel_rfl) (grd_none) (src_op (f := (eqF (.int .u32 (s : Int)))) 7 (by kernel_rfl) (by kernel_rfl) rfl) (fun ρ w hx => h_conv32 (by omega) (by omega) hx) rfl)
    refine steps_snoc (k := 7) ?_ (s_move (i := 7) hP (g := none) (isOp_of (by kernel_rfl) : IsOp rdv_o5 7 none (.move (.tmp 8))) (by kernel_rfl) (by kernel_rfl) (grd_none) (src_low hst 2 rfl (by kernel_rfl)) rfl)
    refine steps_snoc (k := 6) ?_ (s_op1 (i := 6) hP (g := none) (isOp_of (by kernel_rfl) : IsOp rdv_o5 6 none (.convert 38 49 (.tmp 37))) (by kernel_rfl) (by kernel_rfl) (grd_none) (src_op (f := (eqF (.int .u32 (t : Int)))) 5 (by kernel_rfl) (by kernel_rfl) rfl) (fun ρ w hx => h_conv32 (by omega) (by omega) hx) rfl)
    refine steps_snoc (k := 5) ?_ (s_loadP (i := 5) hP (g := none) (isOp_of (by kernel_rfl) : IsOp rdv_o5 5 none (.load 38 (.tmp 36))) (by kernel_rfl) (by kernel_rfl) (grd_none) (src_op (f := (eqF (.pointer (some ((bd).add (n - 1)))))) 4 (by kernel_rfl) (by kernel_rfl) rfl) ct load32_run rfl)
    refine steps_snoc (k := 4) ?_ (s_op2 (i := 4) hP (g := none) (isOp_of (by kernel_rfl) : IsOp rdv_o5 4 none (.indexAddr 22 (.tmp 32) (.tmp 35))) (by kernel_rfl) (by kernel_rfl) (grd_none) (src_op (f := (eqF (.slice (some bd) n cap))) 0 (by kernel_rfl) (by kernel_rfl) rfl) (src_op (f := (eqF (.int .i64 ((n - 1 : Nat) : Int)))) 3 (by kernel_rfl) (by kernel_rfl) rfl) (fun ρ w hx hy => h_idx (k := n - 1) (by omega) hx hy) rfl)
    refine steps_snoc (k := 3) ?_ (s_op2 (i := 3) hP (g := none) (isOp_of (by kernel_rfl) : IsOp rdv_o5 3 none (.binOp .sub 3 (.tmp 34) (.const (.int .i64 1)) 3)) (by kernel_rfl) (by kernel_rfl) (grd_none) (src_op (f := (eqF (.int .i64 (n : Int)))) 2 (by kernel_rfl) (by kernel_rfl) rfl) (src_const _) (fun ρ w hx hy => h_sub (z := ((n - 1 : Nat) : Int)) (by rw [IntKind.wrap_i64]; omega) hx hy) rfl)
    refine steps_snoc (k := 2) ?_ (s_op1 (i := 2) hP (g := none) (isOp_of (by kernel_rfl) : IsOp rdv_o5 2 none (.call { callee := .builtin .len, args := #[.tmp 33], argTypes := #[22] })) (by kernel_rfl) (by kernel_rfl) (grd_none) (src_op (f := (eqF (.slice (some bd) n cap))) 1 (by kernel_rfl) (by kernel_rfl) rfl) (fun ρ w hx => h_len hx) rfl)
    refine steps_snoc (k := 1) ?_ (s_move (i := 1) hP (g := none) (isOp_of (by kernel_rfl) : IsOp rdv_o5 1 none (.move (.tmp 1))) (by kernel_rfl) (by kernel_rfl) (grd_none) (src_low hst 1 rfl (by kernel_rfl)) rfl)
    refine steps_snoc (k := 0) ?_ (s_move (i := 0) hP (g := none) (isOp_of (by kernel_rfl) : IsOp rdv_o5 0 none (.move (.tmp 1))) (by kernel_rfl) (by kernel_rfl) (grd_none) (src_low hst 1 rfl (by kernel_rfl)) rfl)
    exact steps_nil
  · intro m a w hI hm
    exact ⟨(low_fact hst 0 rfl (by kernel_rfl) hI), (low_fact hst 1 rfl (by kernel_rfl) hI), (low_fact hst 2 rfl (by kernel_rfl) hI), (low_fact hst 3 rfl (by kernel_rfl) hI), (out_op hI hm 10 42 _ (by kernel_rfl) rfl), trivial⟩
set_option maxRecDepth 100000 in
theorem rdv_r6 {Q : Exit → Act → World → Prop} {Wb W0 : World} {a0 : Act} {x y i j n cap t : Nat} {bd : Addr} (_sx : Sm ((x : Nat) : Int) i) (_sy : Sm ((y : Nat) : Int) j) (_hi : i ≤ 400) (_hj : j ≤ 400) (_hN : NatAt Wb (.slice (some bd) n cap) y) (_ct : Wb.cell? (bd.add (n - 1)) = some (.int .u32 (t : Int))) (_hn : 1 ≤ n) (_hn2 : n ≤ 1099511627776) (ht0 : 0 < t) (_ht : t < 4294967296) (_n1 : ¬ n = 1) {s : Nat} (_hs0 : 0 < s) (_hs1 : s < 4294967296) (_hts : t * s < 4294967296) (_hlo : t * s < 2147483648) (hst : St Wb 86 [(0, (natF x)), (1, (eqF (.slice (some bd) n cap))), (8, (eqF (.int .u32 (s : Int)))), (18, (eqF (.bool false))), (42, (eqF (.bool true)))] [(4, zeroIF), (5, zeroIF)] a0 W0)
    (fin : ∀ a w, St Wb 86 [(0, (natF x)), (1, (eqF (.slice (some bd) n cap))), (8, (eqF (.int .u32 ((2 * s : Nat) : Int)))), (18, (eqF (.bool false))), (42, (eqF (.bool true)))] [(4, zeroIF), (5, zeroIF)] a w → Q .normal a w) : (Code.region 6 rdv_o6 false).wp Tryd.prog Q a0 W0 := by
  have hP : Plan rdv_o6 86 ([⟨4, none, none, zeroIF, zeroIF⟩, ⟨5, none, none, zeroIF, zeroIF⟩] : List BoxS) [] := ⟨by kernel_rfl, by kernel_rfl, by kernel_rfl, by kernel_rfl, by kernel_rfl, by kernel_rfl⟩
  refine region_st (F := [(eqF (.int .u32 (s : Int))), (eqF (.int .u32 ((2 * s : Nat) : Int))), (eqF (.int .u32 ((2 * s : Nat) : Int)))]) hP hst rfl rfl ?_ ?_ fin
  · show Steps rdv_o6 86 Wb W0 a0 _ _ _ 3
    refine steps_snoc (k := 2) ?_ (s_assign (i := 2) hP (g := none) (isOp_of (by kernel_rfl) : IsOp rdv_o6 2 none (.assign (.tmp 44))) (by kernel_rfl) (by kernel_rfl) (grd_none) (src_op (f := (eqF (.int .u32 ((2 * s : Nat) : Int)))) 1 (by kernel_rfl) (by kernel_rfl) rfl) rfl)
    refine steps_snoc (k := 1) ?_ (s_op2 (i := 1) hP (g := none) (isOp_of (by kernel_rfl) : IsOp rdv_o6 1 none (.binOp .mul 38 (.const (.int .u32 2)) (.tmp 43) 38)) (by kernel_rfl) (by kernel_rfl) (grd_none) (src_const _) (src_op (f := (eqF (.int .u32 (s : Int)))) 0 (by kernel_rfl) (by kernel_rfl) rfl) (fun ρ w hx hy => h_mul (z := ((2 * s : Nat) : Int)) (by rw [IntKind.wrap_u32]; have h3 : s ≤ t * s := Nat.le_mul_of_pos_left s ht0; omega) hx hy) rfl)
    refine steps_snoc (k := 0) ?_ (s_move (i := 0) hP (g := none) (isOp_of (by kernel_rfl) : IsOp rdv_o6 0 none (.move (.tmp 8))) (by kernel_rfl) (by kernel_rfl) (grd_none) (src_low hst 2 rfl (by kernel_rfl)) rfl)
    exact steps_nil
  · intro m a w hI hm
    exact ⟨(low_fact hst 0 rfl (by kernel_rfl) hI), (low_fact hst 1 rfl (by kernel_rfl) hI), (out_op hI hm 2 8 _ (by kernel_rfl) rfl), (low_fact hst 3 rfl (by kernel_rfl) hI), (low_fact hst 4 rfl (by kernel_rfl) hI), trivial⟩
set_option maxRecDepth 100000 in
theorem rdv_r5b {Q : Exit → Act → World → Prop} {Wb W0 : World} {a0 : Act} {x y i j n cap t : Nat} {bd : Addr} (_sx : Sm ((x : Nat) : Int) i) (_sy : Sm ((y : Nat) : Int) j) (_hi : i ≤ 400) (_hj : j ≤ 400) (_hN : NatAt Wb (.slice (some bd) n cap) y) (ct : Wb.cell? (bd.add (n - 1)) = some (.int .u32 (t : Int))) (_hn : 1 ≤ n) (_hn2 : n ≤ 1099511627776) (_ht0 : 0 < t) (_ht : t < 4294967296) (_n1 : ¬ n = 1) {s : Nat} (_hs0 : 0 < s) (_hs1 : s < 4294967296) (_hts : t * s < 4294967296) (_hhi : 2147483648 ≤ t * s) (hst : St Wb 86 [(0, (natF x)), (1, (eqF (.slice (some bd) n cap))), (8, (eqF (.int .u32 (s : Int)))), (18, (eqF (.bool false)))] [(4, zeroIF), (5, zeroIF)] a0 W0)
    (fin : ∀ a w, St Wb 86 [(0, (natF x)), (1, (eqF (.slice (some bd) n cap))), (8, (eqF (.int .u32 (s : Int)))), (18, (eqF (.bool false))), (42, (eqF (.bool false)))] [(4, zeroIF), (5, zeroIF)] a w → Q .normal a w) : (Code.region 5 rdv_o5 false).wp Tryd.prog Q a0 W0 := by
  have hP : Plan rdv_o5 86 ([⟨4, none, none, zeroIF, zeroIF⟩, ⟨5, none, none, zeroIF, zeroIF⟩] : List BoxS) [] := ⟨by kernel_rfl, by kernel_rfl, by kernel_rfl, by kernel_rfl, by kernel_rfl, by kernel_rfl⟩
  refine region_st (F := [(eqF (.slice (some bd) n cap)), (eqF (.slice (some bd) n cap)), (eqF (.int .i64 (n : Int))), (eqF (.int .i64 ((n - 1 : Nat) : Int))), (eqF (.pointer (some ((bd).add (n - 1))))), (eqF (.int .u32 (t : Int))), (eqF (.int .u64 (t : Int))), (eqF (.int .u32 (s : Int))), (eqF (.int .u64 (s : Int))), (eqF (.int .u64 ((t * s : Nat) : Int))), (eqF (.bool false))]) hP hst rfl rfl ?_ ?_ fin
  · show Steps rdv_o5 86 Wb W0 a0 _ _ _ 11
    refine steps_snoc (k := 10) ?_ (s_op2 (i := 10) hP (g := none) (isOp_of (by kernel_rfl) : IsOp rdv_o5 10 none (.binOp .lss 49 (.tmp 41) (.const (.int .u64 2147483648)) 49)) (by kernel_rfl) (by kernel_rfl) (grd_none) (src_op (f := (eqF (.int .u64 ((t * s : Nat) : Int)))) 9 (by kernel_rfl) (by kernel_rfl) rfl) (src_const _) (fun ρ w hx hy => h_lss (r := false) (by simp only [decide_eq_false_iff_not]; omega) hx hy) rfl)
    refine steps_snoc (k := 9) ?_ (s_op2 (i := 9) hP (g := none) (isOp_of (by kernel_rfl) : IsOp rdv_o5 9 none (.binOp .mul 49 (.tmp 38) (.tmp 40) 49)) (by kernel_rfl) (by kernel_rfl) (grd_none) (src_op (f := (eqF (.int .u64 (t : Int)))) 6 (by kernel_rfl) (by kernel_rfl) rfl) (src_op (f := (eqF (.int .u64 (s : Int)))) 8 (by kernel_rfl) (by kernel_rfl) rfl) (fun ρ w hx hy => h_mul (z := ((t * s : Nat) : Int)) (by rw [IntKind.wrap_u64]; rw [← Int.natCast_mul]; omega) hx hy) rfl)
    refine steps_snoc (k := 8) ?_ (s_op1 (i := 8) hP (g := none) (isOp_of (by kernel_rfl) : IsOp rdv_o5 8 none (.convert 38 49 (.tmp 39))) (by kernel_rfl) (by kernel_rfl) (grd_none) (src_op (f := (eqF (.int .u32 (s : Int)))) 7 (by kernel_rfl) (by kernel_rfl) rfl) (fun ρ w hx => h_conv32 (by omega) (by omega) hx) rfl)
    refine steps_snoc (k := 7) ?_ (s_move (i := 7) hP (g := none) (isOp_of (by kernel_rfl) : IsOp rdv_o5 7 none (.move (.tmp 8))) (by kernel_rfl) (by kernel_rfl) (grd_none) (src_low hst 2 rfl (by kernel_rfl)) rfl)
    refine steps_snoc (k := 6) ?_ (s_op1 (i := 6) hP (g := none) (isOp_of (by kernel_rfl) : IsOp rdv_o5 6 none (.convert 38 49 (.tmp 37))) (by kernel_rfl) (by kernel_rfl) (grd_none) (src_op (f := (eqF (.int .u32 (t : Int)))) 5 (by kernel_rfl) (by kernel_rfl) rfl) (fun ρ w hx => h_conv32 (by omega) (by omega) hx) rfl)
    refine steps_snoc (k := 5) ?_ (s_loadP (i := 5) hP (g := none) (isOp_of (by kernel_rfl) : IsOp rdv_o5 5 none (.load 38 (.tmp 36))) (by kernel_rfl) (by kernel_rfl) (grd_none) (src_op (f := (eqF (.pointer (some ((bd).add (n - 1)))))) 4 (by kernel_rfl) (by kernel_rfl) rfl) ct load32_run rfl)
    refine steps_snoc (k := 4) ?_ (s_op2 (i := 4) hP (g := none) (isOp_of (by kernel_rfl) : IsOp rdv_o5 4 none (.indexAddr 22 (.tmp 32) (.tmp 35))) (by kernel_rfl) (by kernel_rfl) (grd_none) (src_op (f := (eqF (.slice (some bd) n cap))) 0 (by kernel_rfl) (by kernel_rfl) rfl) (src_op (f := (eqF (.int .i64 ((n - 1 : Nat) : Int)))) 3 (by kernel_rfl) (by kernel_rfl) rfl) (fun ρ w hx hy => h_idx (k := n - 1) (by omega) hx hy) rfl)
    refine steps_snoc (k := 3) ?_ (s_op2 (i := 3) hP (g := none) (isOp_of (by kernel_rfl) : IsOp rdv_o5 3 none (.binOp .sub 3 (.tmp 34) (.const (.int .i64 1)) 3)) (by kernel_rfl) (by kernel_rfl) (grd_none) (src_op (f := (eqF (.int .i64 (n : Int)))) 2 (by kernel_rfl) (by kernel_rfl) rfl) (src_const _) (fun ρ w hx hy => h_sub (z := ((n - 1 : Nat) : Int)) (by rw [IntKind.wrap_i64]; omega) hx hy) rfl)
    refine steps_snoc (k := 2) ?_ (s_op1 (i := 2) hP (g := none) (isOp_of (by kernel_rfl) : IsOp rdv_o5 2 none (.call { callee := .builtin .len, args := #[.tmp 33], argTypes := #[22] })) (by kernel_rfl) (by kernel_rfl) (grd_none) (src_op (f := (eqF (.slice (some bd) n cap))) 1 (by kernel_rfl) (by kernel_rfl) rfl) (fun ρ w hx => h_len hx) rfl)
    refine steps_snoc (k := 1) ?_ (s_move (i := 1) hP (g := none) (isOp_of (by kernel_rfl) : IsOp rdv_o5 1 none (.move (.tmp 1))) (by kernel_rfl) (by kernel_rfl) (grd_none) (src_low hst 1 rfl (by kernel_rfl)) rfl)
    refine steps_snoc (k := 0) ?_ (s_move (i := 0) hP (g := none) (isOp_of (by kernel_rfl) : IsOp rdv_o5 0 none (.move (.tmp 1))) (by kernel_rfl) (by kernel_rfl) (grd_none) (src_low hst 1 rfl (by kernel_rfl)) rfl)
    exact steps_nil
  · intro m a w hI hm
    exact ⟨(low_fact hst 0 rfl (by kernel_rfl) hI), (low_fact hst 1 rfl (by kernel_rfl) hI), (low_fact hst 2 rfl (by kernel_rfl) hI), (low_fact hst 3 rfl (by kernel_rfl) hI), (out_op hI hm 10 42 _ (by kernel_rfl) rfl), trivial⟩
set_option maxRecDepth 100000 in
theorem rdv_r7 {Q : Exit → Act → World → Prop} {Wb W0 : World} {a0 : Act} {x y i j n cap t : Nat} {bd : Addr} (_sx : Sm ((x : Nat) : Int) i) (_sy : Sm ((y : Nat) : Int) j) (_hi : i ≤ 400) (_hj : j ≤ 400) (_hN : NatAt Wb (.slice (some bd) n cap) y) (_ct : Wb.cell? (bd.add (n - 1)) = some (.int .u32 (t : Int))) (_hn : 1 ≤ n) (_hn2 : n ≤ 1099511627776) (_ht0 : 0 < t) (_ht : t < 4294967296) (_n1 : ¬ n = 1) {s : Nat} (_hs0 : 0 < s) (hs1 : s < 4294967296) (hst : St Wb 86 [(0, (natF x)), (1, (eqF (.slice (some bd) n cap))), (8, (eqF (.int .u32 (s : Int)))), (18, (eqF (.bool false))), (42, (eqF (.bool false)))] [(4, zeroIF), (5, zeroIF)] a0 W0)
    (fin : ∀ a w, St Wb 86 [(0, (natF x)), (1, (eqF (.slice (some bd) n cap))), (8, (eqF (.int .u32 (s : Int)))), (18, (eqF (.bool false))), (42, (eqF (.bool false)))] [(4, zeroIF), (5, zeroIF), (9, (boxIF ((s : Nat) : Int)))] a w → Q .normal a w) : (Code.region 7 rdv_o7 false).wp Tryd.prog Q a0 W0 := by
  have hP : Plan rdv_o7 86 ([⟨4, none, none, zeroIF, zeroIF⟩, ⟨5, none, none, zeroIF, zeroIF⟩, ⟨9, some 3, some 4, zeroIF, (boxIF ((s : Nat) : Int))⟩] : List BoxS) [] := ⟨by kernel_rfl, by kernel_rfl, by kernel_rfl, by kernel_rfl, by kernel_rfl, by kernel_rfl⟩
  refine region_st (F := [(eqF (.int .u32 (s : Int))), (magF s), (intF ((s : Nat) : Int)), anyF, anyF]) hP hst rfl rfl ?_ ?_ fin
  · show Steps rdv_o7 86 Wb W0 a0 _ _ _ 5
    refine steps_snoc (k := 4) ?_ (s_store (i := 4) 2 _ (isOp_of (by kernel_rfl) : IsOp rdv_o7 4 none (.store 27 (.tmp 9) (.tmp 47))) (by kernel_rfl) rfl rfl rfl (by kernel_rfl) (by kernel_rfl) (by kernel_rfl) (src_op (f := (intF ((s : Nat) : Int))) 2 (by kernel_rfl) (by kernel_rfl) rfl) (storeI_zero _))
    refine steps_snoc (k := 3) ?_ (s_alloc (i := 3) (d := 9) hP 2 _ (isOp_of (by kernel_rfl) : IsOp rdv_o7 3 none (.alloc 27)) (by kernel_rfl) rfl rfl rfl (by kernel_rfl) (by kernel_rfl) (by kernel_rfl) (by kernel_rfl) rfl allocI_run allocI_old)
    refine steps_snoc (k := 2) ?_ (s_call2 (i := 2) hP (g := none) (isOp_of (by kernel_rfl) : IsOp rdv_o7 2 none (.call { callee := .value (.func 32), args := #[.tmp 46, .const (.bool false)], argTypes := #[22, 4] })) (by kernel_rfl) (by kernel_rfl) (grd_none) (src_op (f := (magF s)) 1 (by kernel_rfl) (by kernel_rfl) rfl) (src_const _) rdvpl_quadrature_quadratureref01_Made (fun w v0 v1 hb h0 h1 => kRMadeM h0 h1) rfl)
    refine steps_snoc (k := 1) ?_ (s_op1 (i := 1) hP (g := none) (isOp_of (by kernel_rfl) : IsOp rdv_o7 1 none (.buildSlice 22 1 #[(0, .tmp 45)])) (by kernel_rfl) (by kernel_rfl) (grd_none) (src_op (f := (eqF (.int .u32 (s : Int)))) 0 (by kernel_rfl) (by kernel_rfl) rfl) (fun ρ w hx => h_row1 hs1 hx) rfl)
    refine steps_snoc (k := 0) ?_ (s_move (i := 0) hP (g := none) (isOp_of (by kernel_rfl) : IsOp rdv_o7 0 none (.move (.tmp 8))) (by kernel_rfl) (by kernel_rfl) (grd_none) (src_low hst 2 rfl (by kernel_rfl)) rfl)
    exact steps_nil
  · intro m a w hI hm
    exact ⟨(low_fact hst 0 rfl (by kernel_rfl) hI), (low_fact hst 1 rfl (by kernel_rfl) hI), (low_fact hst 2 rfl (by kernel_rfl) hI), (low_fact hst 3 rfl (by kernel_rfl) hI), (low_fact hst 4 rfl (by kernel_rfl) hI), trivial⟩
set_option maxRecDepth 100000 in
theorem rdv_r8 {Q : Exit → Act → World → Prop} {Wb W0 : World} {a0 : Act} {x y i j n cap t : Nat} {bd : Addr} (sx : Sm ((x : Nat) : Int) i) (sy : Sm ((y : Nat) : Int) j) (_hi : i ≤ 400) (_hj : j ≤ 400) (hN : NatAt Wb (.slice (some bd) n cap) y) (_ct : Wb.cell? (bd.add (n - 1)) = some (.int .u32 (t : Int))) (_hn : 1 ≤ n) (_hn2 : n ≤ 1099511627776) (_ht0 : 0 < t) (_ht : t < 4294967296) (_n1 : ¬ n = 1) {s : Nat} (_hs0 : 0 < s) (_hs1 : s < 4294967296) (hst : St Wb 86 [(0, (natF x)), (1, (eqF (.slice (some bd) n cap))), (8, (eqF (.int .u32 (s : Int)))), (18, (eqF (.bool false))), (42, (eqF (.bool false)))] [(4, zeroIF), (5, zeroIF), (9, (boxIF ((s : Nat) : Int)))] a0 W0)
    (fin : ∀ a w, St Wb 86 [(0, (natF x)), (1, (eqF (.slice (some bd) n cap))), (8, (eqF (.int .u32 (s : Int)))), (18, (eqF (.bool false))), (42, (eqF (.bool false)))] [(4, zeroIF), (5, zeroIF), (9, (boxIF ((s : Nat) : Int))), (10, (boxIF (((x : Nat) : Int) * ((s : Nat) : Int)))), (11, (boxIF (((y : Nat) : Int) * ((s : Nat) : Int)))), (12, (boxIF 0))] a w → Q .normal a w) : (Code.region 8 rdv_o8 true).wp Tryd.prog Q a0 W0 := by
  have hP : Plan rdv_o8 86 ([⟨4, none, none, zeroIF, zeroIF⟩, ⟨5, none, none, zeroIF, zeroIF⟩, ⟨9, none, none, (boxIF ((s : Nat) : Int)), (boxIF ((s : Nat) : Int))⟩, ⟨10, some 9, some 12, zeroIF, (boxIF (((x : Nat) : Int) * ((s : Nat) : Int)))⟩, ⟨11, some 10, some 13, zeroIF, (boxIF (((y : Nat) : Int) * ((s : Nat) : Int)))⟩, ⟨12, some 11, some 14, zeroIF, (boxIF 0)⟩] : List BoxS) [] := ⟨by kernel_rfl, by kernel_rfl, by kernel_rfl, by kernel_rfl, by kernel_rfl, by kernel_rfl⟩
  refine region_st (F := [(natF x), (intF ((x : Nat) : Int)), (intF ((s : Nat) : Int)), (intF (((x : Nat) : Int) * ((s : Nat) : Int))), (eqF (.slice (some bd) n cap)), (intF ((y : Nat) : Int)), (intF ((s : Nat) : Int)), (intF (((y : Nat) : Int) * ((s : Nat) : Int))), (intF 0), anyF, anyF, anyF, anyF, anyF, anyF]) hP hst rfl rfl ?_ ?_ fin
  · show Steps rdv_o8 86 Wb W0 a0 _ _ _ 15
    refine steps_snoc (k := 14) ?_ (s_store (i := 14) 5 _ (isOp_of (by kernel_rfl) : IsOp rdv_o8 14 none (.store 27 (.tmp 12) (.tmp 56))) (by kernel_rfl) rfl rfl rfl (by kernel_rfl) (by kernel_rfl) (by kernel_rfl) (src_op (f := (intF 0)) 8 (by kernel_rfl) (by kernel_rfl) rfl) (storeI_zero _))
    refine steps_snoc (k := 13) ?_ (s_store (i := 13) 4 _ (isOp_of (by kernel_rfl) : IsOp rdv_o8 13 none (.store 27 (.tmp 11) (.tmp 55))) (by kernel_rfl) rfl rfl rfl (by kernel_rfl) (by kernel_rfl) (by kernel_rfl) (src_op (f := (intF (((y : Nat) : Int) * ((s : Nat) : Int)))) 7 (by kernel_rfl) (by kernel_rfl) rfl) (storeI_zero _))
    refine steps_snoc (k := 12) ?_ (s_store (i := 12) 3 _ (isOp_of (by kernel_rfl) : IsOp rdv_o8 12 none (.store 27 (.tmp 10) (.tmp 51))) (by kernel_rfl) rfl rfl rfl (by kernel_rfl) (by kernel_rfl) (by kernel_rfl) (src_op (f := (intF (((x : Nat) : Int) * ((s : Nat) : Int)))) 3 (by kernel_rfl) (by kernel_rfl) rfl) (storeI_zero _))
    refine steps_snoc (k := 11) ?_ (s_alloc (i := 11) (d := 12) hP 5 _ (isOp_of (by kernel_rfl) : IsOp rdv_o8 11 none (.alloc 27)) (by kernel_rfl) rfl rfl rfl (by kernel_rfl) (by kernel_rfl) (by kernel_rfl) (by kernel_rfl) rfl allocI_run allocI_old)
    refine steps_snoc (k := 10) ?_ (s_alloc (i := 10) (d := 11) hP 4 _ (isOp_of (by kernel_rfl) : IsOp rdv_o8 10 none (.alloc 27)) (by kernel_rfl) rfl rfl rfl (by kernel_rfl) (by kernel_rfl) (by kernel_rfl) (by kernel_rfl) rfl allocI_run allocI_old)
    refine steps_snoc (k := 9) ?_ (s_alloc (i := 9) (d := 10) hP 3 _ (isOp_of (by kernel_rfl) : IsOp rdv_o8 9 none (.alloc 27)) (by kernel_rfl) rfl rfl rfl (by kernel_rfl) (by kernel_rfl) (by kernel_rfl) (by kernel_rfl) rfl allocI_run allocI_old)
    refine steps_snoc (k := 8) ?_ (s_op0 (i := 8) hP (g := none) (isOp_of (by kernel_rfl) : IsOp rdv_o8 8 none (.build 27 #[])) (by kernel_rfl) (by kernel_rfl) (grd_none) (fun ρ w => h_build0) rfl)
    refine steps_snoc (k := 7) ?_ (s_call2 (i := 7) hP (g := none) (isOp_of (by kernel_rfl) : IsOp rdv_o8 7 none (.call { callee := .value (.func 24), args := #[.tmp 53, .tmp 54], argTypes := #[27, 27] })) (by kernel_rfl) (by kernel_rfl) (grd_none) (src_op (f := (intF ((y : Nat) : Int))) 5 (by kernel_rfl) (by kernel_rfl) rfl) (src_op (f := (intF ((s : Nat) : Int))) 6 (by kernel_rfl) (by kernel_rfl) rfl) rdvpl_quadrature_quadratureref01_Mul (fun w v0 v1 hb h0 h1 => kRMul h0 h1 sy (Sm.of _ (by omega)) (by first | decide | assumption | omega) (by first | decide | assumption | omega)) rfl)
    refine steps_snoc (k := 6) ?_ (s_load (i := 6) hP (g := none) (isOp_of (by kernel_rfl) : IsOp rdv_o8 6 none (.load 27 (.tmp 9))) (by kernel_rfl) (by kernel_rfl) (grd_none) (bsrc_old 2 _ rfl rfl rfl (by kernel_rfl) (by kernel_rfl)) (fun w q h => loadI_int w q h) rfl)
    refine steps_snoc (k := 5) ?_ (s_call2 (i := 5) hP (g := none) (isOp_of (by kernel_rfl) : IsOp rdv_o8 5 none (.call { callee := .value (.func 32), args := #[.tmp 52, .const (.bool false)], argTypes := #[22, 4] })) (by kernel_rfl) (by kernel_rfl) (grd_none) (src_op (f := (eqF (.slice (some bd) n cap))) 4 (by kernel_rfl) (by kernel_rfl) rfl) (src_const _) rdvpl_quadrature_quadratureref01_Made (fun w v0 v1 hb h0 h1 => kRMadeW hN hb h0 h1 (Nat.le_trans (len_le_pow sy) (by omega))) rfl)
    refine steps_snoc (k := 4) ?_ (s_move (i := 4) hP (g := none) (isOp_of (by kernel_rfl) : IsOp rdv_o8 4 none (.move (.tmp 1))) (by kernel_rfl) (by kernel_rfl) (grd_none) (src_low hst 1 rfl (by kernel_rfl)) rfl)
    refine steps_snoc (k := 3) ?_ (s_call2 (i := 3) hP (g := none) (isOp_of (by kernel_rfl) : IsOp rdv_o8 3 none (.call { callee := .value (.func 24), args := #[.tmp 49, .tmp 50], argTypes := #[27, 27] })) (by kernel_rfl) (by kernel_rfl) (grd_none) (src_op (f := (intF ((x : Nat) : Int))) 1 (by kernel_rfl) (by kernel_rfl) rfl) (src_op (f := (intF ((s : Nat) : Int))) 2 (by kernel_rfl) (by kernel_rfl) rfl) rdvpl_quadrature_quadratureref01_Mul (fun w v0 v1 hb h0 h1 => kRMul h0 h1 sx (Sm.of _ (by omega)) (by first | decide | assumption | omega) (by first | decide | assumption | omega)) rfl)
    refine steps_snoc (k := 2) ?_ (s_load (i := 2) hP (g := none) (isOp_of (by kernel_rfl) : IsOp rdv_o8 2 none (.load 27 (.tmp 9))) (by kernel_rfl) (by kernel_rfl) (grd_none) (bsrc_old 2 _ rfl rfl rfl (by kernel_rfl) (by kernel_rfl)) (fun w q h => loadI_int w q h) rfl)
    refine steps_snoc (k := 1) ?_ (s_call2 (i := 1) hP (g := none) (isOp_of (by kernel_rfl) : IsOp rdv_o8 1 none (.call { callee := .value (.func 32), args := #[.tmp 48, .const (.bool false)], argTypes := #[22, 4] })) (by kernel_rfl) (by kernel_rfl) (grd_none) (src_op (f := (natF x)) 0 (by kernel_rfl) (by kernel_rfl) rfl) (src_const _) rdvpl_quadrature_quadratureref01_Made (fun w v0 v1 hb h0 h1 => kRMadeN h0 h1 (Nat.le_trans (len_le_pow sx) (by omega))) rfl)
    refine steps_snoc (k := 0) ?_ (s_move (i := 0) hP (g := none) (isOp_of (by kernel_rfl) : IsOp rdv_o8 0 none (.move (.tmp 0))) (by kernel_rfl) (by kernel_rfl) (grd_none) (src_low hst 0 rfl (by kernel_rfl)) rfl)
    exact steps_nil
  · intro m a w hI hm
    exact ⟨(low_fact hst 0 rfl (by kernel_rfl) hI), (low_fact hst 1 rfl (by kernel_rfl) hI), (low_fact hst 2 rfl (by kernel_rfl) hI), (low_fact hst 3 rfl (by kernel_rfl) hI), (low_fact hst 4 rfl (by kernel_rfl) hI), trivial⟩
set_option maxRecDepth 100000 in
theorem rdv_r9 {Q : Exit → Act → World → Prop} {Wb W0 : World} {a0 : Act} {x y i j n cap t : Nat} {bd : Addr} (_sx : Sm ((x : Nat) : Int) i) (_sy : Sm ((y : Nat) : Int) j) (_hi : i ≤ 400) (_hj : j ≤ 400) (_hN : NatAt Wb (.slice (some bd) n cap) y) (_ct : Wb.cell? (bd.add (n - 1)) = some (.int .u32 (t : Int))) (_hn : 1 ≤ n) (_hn2 : n ≤ 1099511627776) (_ht0 : 0 < t) (_ht : t < 4294967296) (_n1 : ¬ n = 1) {s : Nat} (_hs0 : 0 < s) (_hs1 : s < 4294967296) {q r d : Nat} (_hd0 : 0 < d) (sd : Sm ((d : Nat) : Int) (j + 2)) (sr : Sm ((r : Nat) : Int) (i + 2)) (_sq : Sm ((q : Nat) : Int) (i + 2)) (_hdr : r < d) (hst : St Wb 86 [(0, (natF x)), (1, (eqF (.slice (some bd) n cap))), (8, (eqF (.int .u32 (s : Int)))), (18, (eqF (.bool false))), (42, (eqF (.bool false)))] [(4, zeroIF), (5, zeroIF), (9, (boxIF ((s : Nat) : Int))), (10, (boxIF ((r : Nat) : Int))), (11, (boxIF ((d : Nat) : Int))), (12, (boxIF ((q : Nat) : Int)))] a0 W0)
    (fin : ∀ a w, St Wb 86 [(0, (natF x)), (1, (eqF (.slice (some bd) n cap))), (8, (eqF (.int .u32 (s : Int)))), (18, (eqF (.bool false))), (42, (eqF (.bool false))), (62, (eqF (.bool false)))] [(4, zeroIF), (5, zeroIF), (9, (boxIF ((s : Nat) : Int))), (10, (boxIF ((r : Nat) : Int))), (11, (boxIF ((d : Nat) : Int))), (12, (boxIF ((q : Nat) : Int)))] a w → Q .normal a w) : (Code.region 9 rdv_o9 false).wp Tryd.prog Q a0 W0 := by
  have hP : Plan rdv_o9 86 ([⟨4, none, none, zeroIF, zeroIF⟩, ⟨5, none, none, zeroIF, zeroIF⟩, ⟨9, none, none, (boxIF ((s : Nat) : Int)), (boxIF ((s : Nat) : Int))⟩, ⟨10, none, none, (boxIF ((r : Nat) : Int)), (boxIF ((r : Nat) : Int))⟩, ⟨11, none, none, (boxIF ((d : Nat) : Int)), (boxIF ((d : Nat) : Int))⟩, ⟨12, none, none, (boxIF ((q : Nat) : Int)), (boxIF ((q : Nat) : Int))⟩] : List BoxS) [(0, 10, 1), (2, 11, 1)] := ⟨by kernel_rfl, by kernel_rfl, by kernel_rfl, by kernel_rfl, by kernel_rfl, by kernel_rfl⟩
  refine region_st (F := [anyF, (natF r), anyF, (natF d), (eqF (.bool true)), (eqF (.bool false))]) hP hst rfl rfl ?_ ?_ fin
  · show Steps rdv_o9 86 Wb W0 a0 _ _ _ 6
    refine steps_snoc (k := 5) ?_ (s_op1 (i := 5) hP (g := none) (isOp_of (by kernel_rfl) : IsOp rdv_o9 5 none (.unOp .not 4 (.tmp 61))) (by kernel_rfl) (by kernel_rfl) (grd_none) (src_op (f := (eqF (.bool true))) 4 (by kernel_rfl) (by kernel_rfl) rfl) (fun ρ w hx => h_not rfl hx) rfl)
    refine steps_snoc (k := 4) ?_ (s_call2 (i := 4) hP (g := none) (isOp_of (by kernel_rfl) : IsOp rdv_o9 4 none (.call { callee := .value (.func 50), args := #[.tmp 58, .tmp 60], argTypes := #[22, 22] })) (by kernel_rfl) (by kernel_rfl) (grd_none) (src_op (f := (natF r)) 1 (by kernel_rfl) (by kernel_rfl) rfl) (src_op (f := (natF d)) 3 (by kernel_rfl) (by kernel_rfl) rfl) rdvpl_quadrature_quadratureref01_less (fun w v0 v1 hb h0 h1 => kRLessB h0 h1 (Nat.le_trans (len_le_pow sr) (by omega)) (Nat.le_trans (len_le_pow sd) (by omega)) (by simp; omega)) rfl)
    refine steps_snoc (k := 3) ?_ (s_load (i := 3) hP (g := none) (isOp_of (by kernel_rfl) : IsOp rdv_o9 3 none (.load 22 (.tmp 59))) (by kernel_rfl) (by kernel_rfl) (grd_none) (bsrc_at 2 (bsrc_old 4 _ rfl rfl rfl (by kernel_rfl) (by kernel_rfl)) (by kernel_rfl) (by kernel_rfl) (by kernel_rfl)) (fun w q h => loadI_mag w q h) rfl)
    refine steps_snoc (k := 2) ?_ (step_addr (i := 2) (d := 59) (g := none) hP (isOp_of (by kernel_rfl) : IsOp rdv_o9 2 none (.fieldAddr 27 (.tmp 11) 1)) (by kernel_rfl) (by kernel_rfl) 1 rfl rfl _ 4 rfl rfl (by kernel_rfl) (grd_none) fldI1)
    refine steps_snoc (k := 1) ?_ (s_load (i := 1) hP (g := none) (isOp_of (by kernel_rfl) : IsOp rdv_o9 1 none (.load 22 (.tmp 57))) (by kernel_rfl) (by kernel_rfl) (grd_none) (bsrc_at 0 (bsrc_old 3 _ rfl rfl rfl (by kernel_rfl) (by kernel_rfl)) (by kernel_rfl) (by kernel_rfl) (by kernel_rfl)) (fun w q h => loadI_mag w q h) rfl)
    refine steps_snoc (k := 0) ?_ (step_addr (i := 0) (d := 57) (g := none) hP (isOp_of (by kernel_rfl) : IsOp rdv_o9 0 none (.fieldAddr 27 (.tmp 10) 1)) (by kernel_rfl) (by kernel_rfl) 1 rfl rfl _ 3 rfl rfl (by kernel_rfl) (grd_none) fldI1)
    exact steps_nil
  · intro m a w hI hm
    exact ⟨(low_fact hst 0 rfl (by kernel_rfl) hI), (low_fact hst 1 rfl (by kernel_rfl) hI), (low_fact hst 2 rfl (by kernel_rfl) hI), (low_fact hst 3 rfl (by kernel_rfl) hI), (low_fact hst 4 rfl (by kernel_rfl) hI), (out_op hI hm 5 62 _ (by kernel_rfl) rfl), trivial⟩
set_option maxRecDepth 100000 in
theorem rdv_r13 {Q : Exit → Act → World → Prop} {Wb W0 : World} {a0 : Act} {x y i j n cap t : Nat} {bd : Addr} (_sx : Sm ((x : Nat) : Int) i) (_sy : Sm ((y : Nat) : Int) j) (_hi : i ≤ 400) (_hj : j ≤ 400) (_hN : NatAt Wb (.slice (some bd) n cap) y) (_ct : Wb.cell? (bd.add (n - 1)) = some (.int .u32 (t : Int))) (_hn : 1 ≤ n) (_hn2 : n ≤ 1099511627776) (_ht0 : 0 < t) (_ht : t < 4294967296) (_n1 : ¬ n = 1) {s : Nat} (_hs0 : 0 < s) (_hs1 : s < 4294967296) {q r d : Nat} (_hd0 : 0 < d) (_sd : Sm ((d : Nat) : Int) (j + 2)) (sr : Sm ((r : Nat) : Int) (i + 2)) (_sq : Sm ((q : Nat) : Int) (i + 2)) (hst : St Wb 86 [(0, (natF x)), (1, (eqF (.slice (some bd) n cap))), (8, (eqF (.int .u32 (s : Int)))), (18, (eqF (.bool false))), (42, (eqF (.bool false))), (62, (eqF (.bool false)))] [(4, zeroIF), (5, zeroIF), (9, (boxIF ((s : Nat) : Int))), (10, (boxIF ((r : Nat) : Int))), (11, (boxIF ((d : Nat) : Int))), (12, (boxIF ((q : Nat) : Int)))] a0 W0)
    (fin : ∀ a w, St Wb 86 [(0, (natF x)), (1, (eqF (.slice (some bd) n cap))), (8, (eqF (.int .u32 (s : Int)))), (14, (magF (r / s))), (18, (eqF (.bool false))), (42, (eqF (.bool false))), (62, (eqF (.bool false)))] [(4, zeroIF), (5, zeroIF), (9, (boxIF ((s : Nat) : Int))), (10, (boxIF ((r : Nat) : Int))), (11, (boxIF ((d : Nat) : Int))), (12, (boxIF ((q : Nat) : Int)))] a w → Q .normal a w) : (Code.region 13 rdv_o13 false).wp Tryd.prog Q a0 W0 := by
  have hP : Plan rdv_o13 86 ([⟨4, none, none, zeroIF, zeroIF⟩, ⟨5, none, none, zeroIF, zeroIF⟩, ⟨9, none, none, (boxIF ((s : Nat) : Int)), (boxIF ((s : Nat) : Int))⟩, ⟨10, none, none, (boxIF ((r : Nat) : Int)), (boxIF ((r : Nat) : Int))⟩, ⟨11, none, none, (boxIF ((d : Nat) : Int)), (boxIF ((d : Nat) : Int))⟩, ⟨12, none, none, (boxIF ((q : Nat) : Int)), (boxIF ((q : Nat) : Int))⟩] : List BoxS) [(0, 10, 1)] := ⟨by kernel_rfl, by kernel_rfl, by kernel_rfl, by kernel_rfl, by kernel_rfl, by kernel_rfl⟩
  refine region_st (F := [anyF, (natF r), (eqF (.int .u32 (s : Int))), (tup2F (magF (r / s)) (eqF (.int .u32 ((r % s : Nat) : Int)))), (tup2F (magF (r / s)) (eqF (.int .u32 ((r % s : Nat) : Int)))), (magF (r / s)), (eqF (.int .u32 ((r % s : Nat) : Int))), (magF (r / s)), (eqF (.int .u32 ((r % s : Nat) : Int)))]) hP hst rfl rfl ?_ ?_ fin
  · show Steps rdv_o13 86 Wb W0 a0 _ _ _ 9
    refine steps_snoc (k := 8) ?_ (s_assign (i := 8) hP (g := none) (isOp_of (by kernel_rfl) : IsOp rdv_o13 8 none (.assign (.tmp 82))) (by kernel_rfl) (by kernel_rfl) (grd_none) (src_op (f := (eqF (.int .u32 ((r % s : Nat) : Int)))) 6 (by kernel_rfl) (by kernel_rfl) rfl) rfl)
    refine steps_snoc (k := 7) ?_ (s_assign (i := 7) hP (g := none) (isOp_of (by kernel_rfl) : IsOp rdv_o13 7 none (.assign (.tmp 81))) (by kernel_rfl) (by kernel_rfl) (grd_none) (src_op (f := (magF (r / s))) 5 (by kernel_rfl) (by kernel_rfl) rfl) rfl)
    refine steps_snoc (k := 6) ?_ (s_op1 (i := 6) hP (g := none) (isOp_of (by kernel_rfl) : IsOp rdv_o13 6 none (.extract (.tmp 76) 1)) (by kernel_rfl) (by kernel_rfl) (grd_none) (src_op (f := (tup2F (magF (r / s)) (eqF (.int .u32 ((r % s : Nat) : Int))))) 4 (by kernel_rfl) (by kernel_rfl) rfl) (fun ρ w hx => h_ext2_1 hx) rfl)
    refine steps_snoc (k := 5) ?_ (s_op1 (i := 5) hP (g := none) (isOp_of (by kernel_rfl) : IsOp rdv_o13 5 none (.extract (.tmp 76) 0)) (by kernel_rfl) (by kernel_rfl) (grd_none) (src_op (f := (tup2F (magF (r / s)) (eqF (.int .u32 ((r % s : Nat) : Int))))) 4 (by kernel_rfl) (by kernel_rfl) rfl) (fun ρ w hx => h_ext2_0 hx) rfl)
    refine steps_snoc (k := 4) ?_ (s_move (i := 4) hP (g := none) (isOp_of (by kernel_rfl) : IsOp rdv_o13 4 none (.move (.tmp 80))) (by kernel_rfl) (by kernel_rfl) (grd_none) (src_op (f := (tup2F (magF (r / s)) (eqF (.int .u32 ((r % s : Nat) : Int))))) 3 (by kernel_rfl) (by kernel_rfl) rfl) rfl)
    refine steps_snoc (k := 3) ?_ (s_call2 (i := 3) hP (g := none) (isOp_of (by kernel_rfl) : IsOp rdv_o13 3 none (.call { callee := .value (.func 71), args := #[.tmp 78, .tmp 79], argTypes := #[22, 38] })) (by kernel_rfl) (by kernel_rfl) (grd_none) (src_op (f := (natF r)) 1 (by kernel_rfl) (by kernel_rfl) rfl) (src_op (f := (eqF (.int .u32 (s : Int)))) 2 (by kernel_rfl) (by kernel_rfl) rfl) rdvpl_quadrature_quadratureref01_short (fun w v0 v1 hb h0 h1 => kRShort h0 h1 (Nat.le_trans (len_le_pow sr) (by omega)) (by omega) (by omega)) rfl)
    refine steps_snoc (k := 2) ?_ (s_move (i := 2) hP (g := none) (isOp_of (by kernel_rfl) : IsOp rdv_o13 2 none (.move (.tmp 8))) (by kernel_rfl) (by kernel_rfl) (grd_none) (src_low hst 2 rfl (by kernel_rfl)) rfl)
    refine steps_snoc (k := 1) ?_ (s_load (i := 1) hP (g := none) (isOp_of (by kernel_rfl) : IsOp rdv_o13 1 none (.load 22 (.tmp 77))) (by kernel_rfl) (by kernel_rfl) (grd_none) (bsrc_at 0 (bsrc_old 3 _ rfl rfl rfl (by kernel_rfl) (by kernel_rfl)) (by kernel_rfl) (by kernel_rfl) (by kernel_rfl)) (fun w q h => loadI_mag w q h) rfl)
    refine steps_snoc (k := 0) ?_ (step_addr (i := 0) (d := 77) (g := none) hP (isOp_of (by kernel_rfl) : IsOp rdv_o13 0 none (.fieldAddr 27 (.tmp 10) 1)) (by kernel_rfl) (by kernel_rfl) 1 rfl rfl _ 3 rfl rfl (by kernel_rfl) (grd_none) fldI1)
    exact steps_nil
  · intro m a w hI hm
    exact ⟨(low_fact hst 0 rfl (by kernel_rfl) hI), (low_fact hst 1 rfl (by kernel_rfl) hI), (low_fact hst 2 rfl (by kernel_rfl) hI), (out_op hI hm 7 14 _ (by kernel_rfl) rfl), (low_fact hst 3 rfl (by kernel_rfl) hI), (low_fact hst 4 rfl (by kernel_rfl) hI), (low_fact hst 5 rfl (by kernel_rfl) hI), trivial⟩
set_option maxRecDepth 100000 in
theorem rdv_r14 {Q : Exit → Act → World → Prop} {Wb W0 : World} {a0 : Act} {x y i j n cap t : Nat} {bd : Addr} (_sx : Sm ((x : Nat) : Int) i) (_sy : Sm ((y : Nat) : Int) j) (_hi : i ≤ 400) (_hj : j ≤ 400) (_hN : NatAt Wb (.slice (some bd) n cap) y) (_ct : Wb.cell? (bd.add (n - 1)) = some (.int .u32 (t : Int))) (_hn : 1 ≤ n) (_hn2 : n ≤ 1099511627776) (_ht0 : 0 < t) (_ht : t < 4294967296) (_n1 : ¬ n = 1) {s : Nat} (_hs0 : 0 < s) (_hs1 : s < 4294967296) {q r d : Nat} (_hd0 : 0 < d) (_sd : Sm ((d : Nat) : Int) (j + 2)) (_sr : Sm ((r : Nat) : Int) (i + 2)) (_sq : Sm ((q : Nat) : Int) (i + 2)) (hst : St Wb 86 [(0, (natF x)), (1, (eqF (.slice (some bd) n cap))), (8, (eqF (.int .u32 (s : Int)))), (14, (magF (r / s))), (18, (eqF (.bool false))), (42, (eqF (.bool false))), (62, (eqF (.bool false)))] [(4, zeroIF), (5, zeroIF), (9, (boxIF ((s : Nat) : Int))), (10, (boxIF ((r : Nat) : Int))), (11, (boxIF ((d : Nat) : Int))), (12, (boxIF ((q : Nat) : Int)))] a0 W0)
    (fin : ∀ a w, St Wb 86 [(0, (natF x)), (1, (eqF (.slice (some bd) n cap))), (8, (eqF (.int .u32 (s : Int)))), (14, (magF (r / s))), (18, (eqF (.bool false))), (42, (eqF (.bool false))), (62, (eqF (.bool false)))] [(4, (boxIF ((q : Nat) : Int))), (5, (boxIF (((r / s) : Nat) : Int))), (9, (boxIF ((s : Nat) : Int))), (10, (boxIF ((r : Nat) : Int))), (11, (boxIF ((d : Nat) : Int))), (12, (boxIF ((q : Nat) : Int)))] a w → Q .normal a w) : (Code.region 14 rdv_o14 true).wp Tryd.prog Q a0 W0 := by
  have hP : Plan rdv_o14 86 ([⟨4, none, some 3, zeroIF, (boxIF ((q : Nat) : Int))⟩, ⟨5, none, some 4, zeroIF, (boxIF (((r / s) : Nat) : Int))⟩, ⟨9, none, none, (boxIF ((s : Nat) : Int)), (boxIF ((s : Nat) : Int))⟩, ⟨10, none, none, (boxIF ((r : Nat) : Int)), (boxIF ((r : Nat) : Int))⟩, ⟨11, none, none, (boxIF ((d : Nat) : Int)), (boxIF ((d : Nat) : Int))⟩, ⟨12, none, none, (boxIF ((q : Nat) : Int)), (boxIF ((q : Nat) : Int))⟩] : List BoxS) [] := ⟨by kernel_rfl, by kernel_rfl, by kernel_rfl, by kernel_rfl, by kernel_rfl, by kernel_rfl⟩
  refine region_st (F := [(intF ((q : Nat) : Int)), (magF (r / s)), (intF (((r / s) : Nat) : Int)), anyF, anyF]) hP hst rfl rfl ?_ ?_ fin
  · show Steps rdv_o14 86 Wb W0 a0 _ _ _ 5
    refine steps_snoc (k := 4) ?_ (s_store (i := 4) 1 _ (isOp_of (by kernel_rfl) : IsOp rdv_o14 4 none (.store 27 (.tmp 5) (.tmp 85))) (by kernel_rfl) rfl rfl rfl (by kernel_rfl) (by kernel_rfl) (by kernel_rfl) (src_op (f := (intF (((r / s) : Nat) : Int))) 2 (by kernel_rfl) (by kernel_rfl) rfl) (storeI_zero _))
    refine steps_snoc (k := 3) ?_ (s_store (i := 3) 0 _ (isOp_of (by kernel_rfl) : IsOp rdv_o14 3 none (.store 27 (.tmp 4) (.tmp 83))) (by kernel_rfl) rfl rfl rfl (by kernel_rfl) (by kernel_rfl) (by kernel_rfl) (src_op (f := (intF ((q : Nat) : Int))) 0 (by kernel_rfl) (by kernel_rfl) rfl) (storeI_zero _))
    refine steps_snoc (k := 2) ?_ (s_call2 (i := 2) hP (g := none) (isOp_of (by kernel_rfl) : IsOp rdv_o14 2 none (.call { callee := .value (.func 32), args := #[.tmp 84, .const (.bool false)], argTypes := #[22, 4] })) (by kernel_rfl) (by kernel_rfl) (grd_none) (src_op (f := (magF (r / s))) 1 (by kernel_rfl) (by kernel_rfl) rfl) (src_const _) rdvpl_quadrature_quadratureref01_Made (fun w v0 v1 hb h0 h1 => kRMadeM h0 h1) rfl)
    refine steps_snoc (k := 1) ?_ (s_move (i := 1) hP (g := none) (isOp_of (by kernel_rfl) : IsOp rdv_o14 1 none (.move (.tmp 14))) (by kernel_rfl) (by kernel_rfl) (grd_none) (src_low hst 3 rfl (by kernel_rfl)) rfl)
    refine steps_snoc (k := 0) ?_ (s_load (i := 0) hP (g := none) (isOp_of (by kernel_rfl) : IsOp rdv_o14 0 none (.load 27 (.tmp 12))) (by kernel_rfl) (by kernel_rfl) (grd_none) (bsrc_old 5 _ rfl rfl rfl (by kernel_rfl) (by kernel_rfl)) (fun w q h => loadI_int w q h) rfl)
    exact steps_nil
  · intro m a w hI hm
    exact ⟨(low_fact hst 0 rfl (by kernel_rfl) hI), (low_fact hst 1 rfl (by kernel_rfl) hI), (low_fact hst 2 rfl (by kernel_rfl) hI), (low_fact hst 3 rfl (by kernel_rfl) hI), (low_fact hst 4 rfl (by kernel_rfl) hI), (low_fact hst 5 rfl (by kernel_rfl) hI), (low_fact hst 6 rfl (by kernel_rfl) hI), trivial⟩
set_option maxRecDepth 100000 in
theorem rdv_r9b {Q : Exit → Act → World → Prop} {Wb W0 : World} {a0 : Act} {x y i j n cap t : Nat} {bd : Addr} (_sx : Sm ((x : Nat) : Int) i) (_sy : Sm ((y : Nat) : Int) j) (_hi : i ≤ 400) (_hj : j ≤ 400) (_hN : NatAt Wb (.slice (some bd) n cap) y) (_ct : Wb.cell? (bd.add (n - 1)) = some (.int .u32 (t : Int))) (_hn : 1 ≤ n) (_hn2 : n ≤ 1099511627776) (_ht0 : 0 < t) (_ht : t < 4294967296) (_n1 : ¬ n = 1) {s : Nat} (_hs0 : 0 < s) (_hs1 : s < 4294967296) {q r d : Nat} (_hd0 : 0 < d) (sd : Sm ((d : Nat) : Int) (j + 2)) (sr : Sm ((r : Nat) : Int) (i + 2)) (_sq : Sm ((q : Nat) : Int) (i + 2)) (_hdr : d ≤ r) (_se : Sm ((estN r d : Nat) : Int) (i + 2)) (hst : St Wb 86 [(0, (natF x)), (1, (eqF (.slice (some bd) n cap))), (8, (eqF (.int .u32 (s : Int)))), (18, (eqF (.bool false))), (42, (eqF (.bool false)))] [(4, zeroIF), (5, zeroIF), (9, (boxIF ((s : Nat) : Int))), (10, (boxIF ((r : Nat) : Int))), (11, (boxIF ((d : Nat) : Int))), (12, (boxIF ((q : Nat) : Int)))] a0 W0)
    (fin : ∀ a w, St Wb 86 [(0, (natF x)), (1, (eqF (.slice (some bd) n cap))), (8, (eqF (.int .u32 (s : Int)))), (18, (eqF (.bool false))), (42, (eqF (.bool false))), (62, (eqF (.bool true)))] [(4, zeroIF), (5, zeroIF), (9, (boxIF ((s : Nat) : Int))), (10, (boxIF ((r : Nat) : Int))), (11, (boxIF ((d : Nat) : Int))), (12, (boxIF ((q : Nat) : Int)))] a w → Q .normal a w) : (Code.region 9 rdv_o9 false).wp Tryd.prog Q a0 W0 := by
  have hP : Plan rdv_o9 86 ([⟨4, none, none, zeroIF, zeroIF⟩, ⟨5, none, none, zeroIF, zeroIF⟩, ⟨9, none, none, (boxIF ((s : Nat) : Int)), (boxIF ((s : Nat) : Int))⟩, ⟨10, none, none, (boxIF ((r : Nat) : Int)), (boxIF ((r : Nat) : Int))⟩, ⟨11, none, none, (boxIF ((d : Nat) : Int)), (boxIF ((d : Nat) : Int))⟩, ⟨12, none, none, (boxIF ((q : Nat) : Int)), (boxIF ((q : Nat) : Int))⟩] : List BoxS) [(0, 10, 1), (2, 11, 1)] := ⟨by kernel_rfl, by kernel_rfl, by kernel_rfl, by kernel_rfl, by kernel_rfl, by kernel_rfl⟩
  refine region_st (F := [anyF, (natF r), anyF, (natF d), (eqF (.bool false)), (eqF (.bool true))]) hP hst rfl rfl ?_ ?_ fin
  · show Steps rdv_o9 86 Wb W0 a0 _ _ _ 6
    refine steps_snoc (k := 5) ?_ (s_op1 (i := 5) hP (g := none) (isOp_of (by kernel_rfl) : IsOp rdv_o9 5 none (.unOp .not 4 (.tmp 61))) (by kernel_rfl) (by kernel_rfl) (grd_none) (src_op (f := (eqF (.bool false))) 4 (by kernel_rfl) (by kernel_rfl) rfl) (fun ρ w hx => h_not rfl hx) rfl)
    refine steps_snoc (k := 4) ?_ (s_call2 (i := 4) hP (g := none) (isOp_of (by kernel_rfl) : IsOp rdv_o9 4 none (.call { callee := .value (.func 50), args := #[.tmp 58, .tmp 60], argTypes := #[22, 22] })) (by kernel_rfl) (by kernel_rfl) (grd_none) (src_op (f := (natF r)) 1 (by kernel_rfl) (by kernel_rfl) rfl) (src_op (f := (natF d)) 3 (by kernel_rfl) (by kernel_rfl) rfl) rdvpl_quadrature_quadratureref01_less (fun w v0 v1 hb h0 h1 => kRLessB h0 h1 (Nat.le_trans (len_le_pow sr) (by omega)) (Nat.le_trans (len_le_pow sd) (by omega)) (by simp; omega)) rfl)
    refine steps_snoc (k := 3) ?_ (s_load (i := 3) hP (g := none) (isOp_of (by kernel_rfl) : IsOp rdv_o9 3 none (.load 22 (.tmp 59))) (by kernel_rfl) (by kernel_rfl) (grd_none) (bsrc_at 2 (bsrc_old 4 _ rfl rfl rfl (by kernel_rfl) (by kernel_rfl)) (by kernel_rfl) (by kernel_rfl) (by kernel_rfl)) (fun w q h => loadI_mag w q h) rfl)
    refine steps_snoc (k := 2) ?_ (step_addr (i := 2) (d := 59) (g := none) hP (isOp_of (by kernel_rfl) : IsOp rdv_o9 2 none (.fieldAddr 27 (.tmp 11) 1)) (by kernel_rfl) (by kernel_rfl) 1 rfl rfl _ 4 rfl rfl (by kernel_rfl) (grd_none) fldI1)
    refine steps_snoc (k := 1) ?_ (s_load (i := 1) hP (g := none) (isOp_of (by kernel_rfl) : IsOp rdv_o9 1 none (.load 22 (.tmp 57))) (by kernel_rfl) (by kernel_rfl) (grd_none) (bsrc_at 0 (bsrc_old 3 _ rfl rfl rfl (by kernel_rfl) (by kernel_rfl)) (by kernel_rfl) (by kernel_rfl) (by kernel_rfl)) (fun w q h => loadI_mag w q h) rfl)
    refine steps_snoc (k := 0) ?_ (step_addr (i := 0) (d := 57) (g := none) hP (isOp_of (by kernel_rfl) : IsOp rdv_o9 0 none (.fieldAddr 27 (.tmp 10) 1)) (by kernel_rfl) (by kernel_rfl) 1 rfl rfl _ 3 rfl rfl (by kernel_rfl) (grd_none) fldI1)
    exact steps_nil
  · intro m a w hI hm
    exact ⟨(low_fact hst 0 rfl (by kernel_rfl) hI), (low_fact hst 1 rfl (by kernel_rfl) hI), (low_fact hst 2 rfl (by kernel_rfl) hI), (low_fact hst 3 rfl (by kernel_rfl) hI), (low_fact hst 4 rfl (by kernel_rfl) hI), (out_op hI hm 5 62 _ (by kernel_rfl) rfl), trivial⟩
set_option maxRecDepth 100000 in
theorem rdv_r10 {Q : Exit → Act → World → Prop} {Wb W0 : World} {a0 : Act} {x y i j n cap t : Nat} {bd : Addr} (_sx : Sm ((x : Nat) : Int) i) (_sy : Sm ((y : Nat) : Int) j) (_hi : i ≤ 400) (_hj : j ≤ 400) (_hN : NatAt Wb (.slice (some bd) n cap) y) (_ct : Wb.cell? (bd.add (n - 1)) = some (.int .u32 (t : Int))) (_hn : 1 ≤ n) (_hn2 : n ≤ 1099511627776) (_ht0 : 0 < t) (_ht : t < 4294967296) (_n1 : ¬ n = 1) {s : Nat} (_hs0 : 0 < s) (_hs1 : s < 4294967296) {q r d : Nat} (hd0 : 0 < d) (_sd : Sm ((d : Nat) : Int) (j + 2)) (sr : Sm ((r : Nat) : Int) (i + 2)) (_sq : Sm ((q : Nat) : Int) (i + 2)) (hdr : d ≤ r) (_se : Sm ((estN r d : Nat) : Int) (i + 2)) (hst : St Wb 86 [(0, (natF x)), (1, (eqF (.slice (some bd) n cap))), (8, (eqF (.int .u32 (s : Int)))), (18, (eqF (.bool false))), (42, (eqF (.bool false))), (62, (eqF (.bool true)))] [(4, zeroIF), (5, zeroIF), (9, (boxIF ((s : Nat) : Int))), (10, (boxIF ((r : Nat) : Int))), (11, (boxIF ((d : Nat) : Int))), (12, (boxIF ((q : Nat) : Int)))] a0 W0)
    (fin : ∀ a w, St Wb 86 [(0, (natF x)), (1, (eqF (.slice (some bd) n cap))), (8, (eqF (.int .u32 (s : Int)))), (18, (eqF (.bool false))), (42, (eqF (.bool false))), (62, (eqF (.bool true)))] [(4, zeroIF), (5, zeroIF), (9, (boxIF ((s : Nat) : Int))), (10, (boxIF ((r : Nat) : Int))), (11, (boxIF ((d : Nat) : Int))), (12, (boxIF ((q : Nat) : Int))), (13, (boxIF ((estN r d : Nat) : Int)))] a w → Q .normal a w) : (Code.region 10 rdv_o10 false).wp Tryd.prog Q a0 W0 := by
  have hP : Plan rdv_o10 86 ([⟨4, none, none, zeroIF, zeroIF⟩, ⟨5, none, none, zeroIF, zeroIF⟩, ⟨9, none, none, (boxIF ((s : Nat) : Int)), (boxIF ((s : Nat) : Int))⟩, ⟨10, none, none, (boxIF ((r : Nat) : Int)), (boxIF ((r : Nat) : Int))⟩, ⟨11, none, none, (boxIF ((d : Nat) : Int)), (boxIF ((d : Nat) : Int))⟩, ⟨12, none, none, (boxIF ((q : Nat) : Int)), (boxIF ((q : Nat) : Int))⟩, ⟨13, some 5, some 6, zeroIF, (boxIF ((estN r d : Nat) : Int))⟩] : List BoxS) [(0, 10, 1), (2, 11, 1)] := ⟨by kernel_rfl, by kernel_rfl, by kernel_rfl, by kernel_rfl, by kernel_rfl, by kernel_rfl⟩
  refine region_st (F := [anyF, (natF r), anyF, (natF d), (intF ((estN r d : Nat) : Int)), anyF, anyF]) hP hst rfl rfl ?_ ?_ fin
  · show Steps rdv_o10 86 Wb W0 a0 _ _ _ 7
    refine steps_snoc (k := 6) ?_ (s_store (i := 6) 6 _ (isOp_of (by kernel_rfl) : IsOp rdv_o10 6 none (.store 27 (.tmp 13) (.tmp 67))) (by kernel_rfl) rfl rfl rfl (by kernel_rfl) (by kernel_rfl) (by kernel_rfl) (src_op (f := (intF ((estN r d : Nat) : Int))) 4 (by kernel_rfl) (by kernel_rfl) rfl) (storeI_zero _))
    refine steps_snoc (k := 5) ?_ (s_alloc (i := 5) (d := 13) hP 6 _ (isOp_of (by kernel_rfl) : IsOp rdv_o10 5 none (.alloc 27)) (by kernel_rfl) rfl rfl rfl (by kernel_rfl) (by kernel_rfl) (by kernel_rfl) (by kernel_rfl) rfl allocI_run allocI_old)
    refine steps_snoc (k := 4) ?_ (s_call2 (i := 4) hP (g := none) (isOp_of (by kernel_rfl) : IsOp rdv_o10 4 none (.call { callee := .value (.func 72), args := #[.tmp 64, .tmp 66], argTypes := #[22, 22] })) (by kernel_rfl) (by kernel_rfl) (grd_none) (src_op (f := (natF r)) 1 (by kernel_rfl) (by kernel_rfl) rfl) (src_op (f := (natF d)) 3 (by kernel_rfl) (by kernel_rfl) rfl) rdvpl_quadrature_quadratureref01_estimate (fun w v0 v1 hb h0 h1 => kREst h0 h1 hd0 hdr (Nat.le_trans (len_le_pow sr) (by omega))) rfl)
    refine steps_snoc (k := 3) ?_ (s_load (i := 3) hP (g := none) (isOp_of (by kernel_rfl) : IsOp rdv_o10 3 none (.load 22 (.tmp 65))) (by kernel_rfl) (by kernel_rfl) (grd_none) (bsrc_at 2 (bsrc_old 4 _ rfl rfl rfl (by kernel_rfl) (by kernel_rfl)) (by kernel_rfl) (by kernel_rfl) (by kernel_rfl)) (fun w q h => loadI_mag w q h) rfl)
    refine steps_snoc (k := 2) ?_ (step_addr (i := 2) (d := 65) (g := none) hP (isOp_of (by kernel_rfl) : IsOp rdv_o10 2 none (.fieldAddr 27 (.tmp 11) 1)) (by kernel_rfl) (by kernel_rfl) 1 rfl rfl _ 4 rfl rfl (by kernel_rfl) (grd_none) fldI1)
    refine steps_snoc (k := 1) ?_ (s_load (i := 1) hP (g := none) (isOp_of (by kernel_rfl) : IsOp rdv_o10 1 none (.load 22 (.tmp 63))) (by kernel_rfl) (by kernel_rfl) (grd_none) (bsrc_at 0 (bsrc_old 3 _ rfl rfl rfl (by kernel_rfl) (by kernel_rfl)) (by kernel_rfl) (by kernel_rfl) (by kernel_rfl)) (fun w q h => loadI_mag w q h) rfl)
    refine steps_snoc (k := 0) ?_ (step_addr (i := 0) (d := 63) (g := none) hP (isOp_of (by kernel_rfl) : IsOp rdv_o10 0 none (.fieldAddr 27 (.tmp 10) 1)) (by kernel_rfl) (by kernel_rfl) 1 rfl rfl _ 3 rfl rfl (by kernel_rfl) (grd_none) fldI1)
    exact steps_nil
  · intro m a w hI hm
    exact ⟨(low_fact hst 0 rfl (by kernel_rfl) hI), (low_fact hst 1 rfl (by kernel_rfl) hI), (low_fact hst 2 rfl (by kernel_rfl) hI), (low_fact hst 3 rfl (by kernel_rfl) hI), (low_fact hst 4 rfl (by kernel_rfl) hI), (low_fact hst 5 rfl (by kernel_rfl) hI), trivial⟩
set_option maxRecDepth 100000 in
theorem rdv_r11 {Q : Exit → Act → World → Prop} {Wb W0 : World} {a0 : Act} {x y i j n cap t : Nat} {bd : Addr} (_sx : Sm ((x : Nat) : Int) i) (_sy : Sm ((y : Nat) : Int) j) (_hi : i ≤ 400) (_hj : j ≤ 400) (_hN : NatAt Wb (.slice (some bd) n cap) y) (_ct : Wb.cell? (bd.add (n - 1)) = some (.int .u32 (t : Int))) (_hn : 1 ≤ n) (_hn2 : n ≤ 1099511627776) (_ht0 : 0 < t) (_ht : t < 4294967296) (_n1 : ¬ n = 1) {s : Nat} (_hs0 : 0 < s) (_hs1 : s < 4294967296) {q r d : Nat} (_hd0 : 0 < d) (_sd : Sm ((d : Nat) : Int) (j + 2)) (_sr : Sm ((r : Nat) : Int) (i + 2)) (sq : Sm ((q : Nat) : Int) (i + 2)) (_hdr : d ≤ r) (se : Sm ((estN r d : Nat) : Int) (i + 2)) (hst : St Wb 86 [(0, (natF x)), (1, (eqF (.slice (some bd) n cap))), (8, (eqF (.int .u32 (s : Int)))), (18, (eqF (.bool false))), (42, (eqF (.bool false))), (62, (eqF (.bool true)))] [(4, zeroIF), (5, zeroIF), (9, (boxIF ((s : Nat) : Int))), (10, (boxIF ((r : Nat) : Int))), (11, (boxIF ((d : Nat) : Int))), (12, (boxIF ((q : Nat) : Int))), (13, (boxIF ((estN r d : Nat) : Int)))] a0 W0)
    (fin : ∀ a w, St Wb 86 [(0, (natF x)), (1, (eqF (.slice (some bd) n cap))), (8, (eqF (.int .u32 (s : Int)))), (18, (eqF (.bool false))), (42, (eqF (.bool false))), (62, (eqF (.bool true)))] [(4, zeroIF), (5, zeroIF), (9, (boxIF ((s : Nat) : Int))), (10, (boxIF ((r : Nat) : Int))), (11, (boxIF ((d : Nat) : Int))), (12, (boxIF (((q : Nat) : Int) + ((estN r d : Nat) : Int)))), (13, (boxIF ((estN r d : Nat) : Int)))] a w → Q .normal a w) : (Code.region 11 rdv_o11 false).wp Tryd.prog Q a0 W0 := by
  have hP : Plan rdv_o11 86 ([⟨4, none, none, zeroIF, zeroIF⟩, ⟨5, none, none, zeroIF, zeroIF⟩, ⟨9, none, none, (boxIF ((s : Nat) : Int)), (boxIF ((s : Nat) : Int))⟩, ⟨10, none, none, (boxIF ((r : Nat) : Int)), (boxIF ((r : Nat) : Int))⟩, ⟨11, none, none, (boxIF ((d : Nat) : Int)), (boxIF ((d : Nat) : Int))⟩, ⟨12, none, some 3, (boxIF ((q : Nat) : Int)), (boxIF (((q : Nat) : Int) + ((estN r d : Nat) : Int)))⟩, ⟨13, none, none, (boxIF ((estN r d : Nat) : Int)), (boxIF ((estN r d : Nat) : Int))⟩] : List BoxS) [] := ⟨by kernel_rfl, by kernel_rfl, by kernel_rfl, by kernel_rfl, by kernel_rfl, by kernel_rfl⟩
  refine region_st (F := [(intF ((q : Nat) : Int)), (intF ((estN r d : Nat) : Int)), (intF (((q : Nat) : Int) + ((estN r d : Nat) : Int))), anyF]) hP hst rfl rfl ?_ ?_ fin
  · show Steps rdv_o11 86 Wb W0 a0 _ _ _ 4
    refine steps_snoc (k := 3) ?_ (s_store (i := 3) 5 _ (isOp_of (by kernel_rfl) : IsOp rdv_o11 3 none (.store 27 (.tmp 12) (.tmp 70))) (by kernel_rfl) rfl rfl rfl (by kernel_rfl) (by kernel_rfl) (by kernel_rfl) (src_op (f := (intF (((q : Nat) : Int) + ((estN r d : Nat) : Int)))) 2 (by kernel_rfl) (by kernel_rfl) rfl) (storeI_box _ _))
    refine steps_snoc (k := 2) ?_ (s_call2 (i := 2) hP (g := none) (isOp_of (by kernel_rfl) : IsOp rdv_o11 2 none (.call { callee := .value (.func 22), args := #[.tmp 68, .tmp 69], argTypes := #[27, 27] })) (by kernel_rfl) (by kernel_rfl) (grd_none) (src_op (f := (intF ((q : Nat) : Int))) 0 (by kernel_rfl) (by kernel_rfl) rfl) (src_op (f := (intF ((estN r d : Nat) : Int))) 1 (by kernel_rfl) (by kernel_rfl) rfl) rdvpl_quadrature_quadratureref01_Add (fun w v0 v1 hb h0 h1 => kRAdd h0 h1 sq se (by first | decide | assumption | omega) (by first | decide | assumption | omega)) rfl)
    refine steps_snoc (k := 1) ?_ (s_load (i := 1) hP (g := none) (isOp_of (by kernel_rfl) : IsOp rdv_o11 1 none (.load 27 (.tmp 13))) (by kernel_rfl) (by kernel_rfl) (grd_none) (bsrc_old 6 _ rfl rfl rfl (by kernel_rfl) (by kernel_rfl)) (fun w q h => loadI_int w q h) rfl)
    refine steps_snoc (k := 0) ?_ (s_load (i := 0) hP (g := none) (isOp_of (by kernel_rfl) : IsOp rdv_o11 0 none (.load 27 (.tmp 12))) (by kernel_rfl) (by kernel_rfl) (grd_none) (bsrc_old 5 _ rfl rfl rfl (by kernel_rfl) (by kernel_rfl)) (fun w q h => loadI_int w q h) rfl)
    exact steps_nil
  · intro m a w hI hm
    exact ⟨(low_fact hst 0 rfl (by kernel_rfl) hI), (low_fact hst 1 rfl (by kernel_rfl) hI), (low_fact hst 2 rfl (by kernel_rfl) hI), (low_fact hst 3 rfl (by kernel_rfl) hI), (low_fact hst 4 rfl (by kernel_rfl) hI), (low_fact hst 5 rfl (by kernel_rfl) hI), trivial⟩
set_option maxRecDepth 100000 in
theorem rdv_r12 {Q : Exit → Act → World → Prop} {Wb W0 : World} {a0 : Act} {x y i j n cap t : Nat} {bd : Addr} (_sx : Sm ((x : Nat) : Int) i) (_sy : Sm ((y : Nat) : Int) j) (_hi : i ≤ 400) (_hj : j ≤ 400) (_hN : NatAt Wb (.slice (some bd) n cap) y) (_ct : Wb.cell? (bd.add (n - 1)) = some (.int .u32 (t : Int))) (_hn : 1 ≤ n) (_hn2 : n ≤ 1099511627776) (_ht0 : 0 < t) (_ht : t < 4294967296) (_n1 : ¬ n = 1) {s : Nat} (_hs0 : 0 < s) (_hs1 : s < 4294967296) {q r d : Nat} (_hd0 : 0 < d) (sd : Sm ((d : Nat) : Int) (j + 2)) (sr : Sm ((r : Nat) : Int) (i + 2)) (_sq : Sm ((q : Nat) : Int) (i + 2)) (_hdr : d ≤ r) (se : Sm ((estN r d : Nat) : Int) (i + 2)) (hst : St Wb 86 [(0, (natF x)), (1, (eqF (.slice (some bd) n cap))), (8, (eqF (.int .u32 (s : Int)))), (18, (eqF (.bool false))), (42, (eqF (.bool false))), (62, (eqF (.bool true)))] [(4, zeroIF), (5, zeroIF), (9, (boxIF ((s : Nat) : Int))), (10, (boxIF ((r : Nat) : Int))), (11, (boxIF ((d : Nat) : Int))), (12, (boxIF (((q : Nat) : Int) + ((estN r d : Nat) : Int)))), (13, (boxIF ((estN r d : Nat) : Int)))] a0 W0)
    (fin : ∀ a w, St Wb 86 [(0, (natF x)), (1, (eqF (.slice (some bd) n cap))), (8, (eqF (.int .u32 (s : Int)))), (18, (eqF (.bool false))), (42, (eqF (.bool false))), (62, (eqF (.bool true)))] [(4, zeroIF), (5, zeroIF), (9, (boxIF ((s : Nat) : Int))), (10, (boxIF (((r : Nat) : Int) - (((estN r d : Nat) : Int) * ((d : Nat) : Int))))), (11, (boxIF ((d : Nat) : Int))), (12, (boxIF (((q : Nat) : Int) + ((estN r d : Nat) : Int)))), (13, (boxIF ((estN r d : Nat) : Int)))] a w → Q .normal a w) : (Code.region 12 rdv_o12 true).wp Tryd.prog Q a0 W0 := by
  have hP : Plan rdv_o12 86 ([⟨4, none, none, zeroIF, zeroIF⟩, ⟨5, none, none, zeroIF, zeroIF⟩, ⟨9, none, none, (boxIF ((s : Nat) : Int)), (boxIF ((s : Nat) : Int))⟩, ⟨10, none, some 5, (boxIF ((r : Nat) : Int)), (boxIF (((r : Nat) : Int) - (((estN r d : Nat) : Int) * ((d : Nat) : Int))))⟩, ⟨11, none, none, (boxIF ((d : Nat) : Int)), (boxIF ((d : Nat) : Int))⟩, ⟨12, none, none, (boxIF (((q : Nat) : Int) + ((estN r d : Nat) : Int))), (boxIF (((q : Nat) : Int) + ((estN r d : Nat) : Int)))⟩, ⟨13, none, none, (boxIF ((estN r d : Nat) : Int)), (boxIF ((estN r d : Nat) : Int))⟩] : List BoxS) [] := ⟨by kernel_rfl, by kernel_rfl, by kernel_rfl, by kernel_rfl, by kernel_rfl, by kernel_rfl⟩
  refine region_st (F := [(intF ((r : Nat) : Int)), (intF ((estN r d : Nat) : Int)), (intF ((d : Nat) : Int)), (intF (((estN r d : Nat) : Int) * ((d : Nat) : Int))), (intF (((r : Nat) : Int) - (((estN r d : Nat) : Int) * ((d : Nat) : Int)))), anyF]) hP hst rfl rfl ?_ ?_ fin
  · show Steps rdv_o12 86 Wb W0 a0 _ _ _ 6
    refine steps_snoc (k := 5) ?_ (s_store (i := 5) 3 _ (isOp_of (by kernel_rfl) : IsOp rdv_o12 5 none (.store 27 (.tmp 10) (.tmp 75))) (by kernel_rfl) rfl rfl rfl (by kernel_rfl) (by kernel_rfl) (by kernel_rfl) (src_op (f := (intF (((r : Nat) : Int) - (((estN r d : Nat) : Int) * ((d : Nat) : Int))))) 4 (by kernel_rfl) (by kernel_rfl) rfl) (storeI_box _ _))
    refine steps_snoc (k := 4) ?_ (s_call2 (i := 4) hP (g := none) (isOp_of (by kernel_rfl) : IsOp rdv_o12 4 none (.call { callee := .value (.func 23), args := #[.tmp 71, .tmp 74], argTypes := #[27, 27] })) (by kernel_rfl) (by kernel_rfl) (grd_none) (src_op (f := (intF ((r : Nat) : Int))) 0 (by kernel_rfl) (by kernel_rfl) rfl) (src_op (f := (intF (((estN r d : Nat) : Int) * ((d : Nat) : Int)))) 3 (by kernel_rfl) (by kernel_rfl) rfl) rdvpl_quadrature_quadratureref01_Sub (fun w v0 v1 hb h0 h1 => kRSub h0 h1 sr (se.mul sd) (by first | decide | assumption | omega) (by first | decide | assumption | omega)) rfl)
    refine steps_snoc (k := 3) ?_ (s_call2 (i := 3) hP (g := none) (isOp_of (by kernel_rfl) : IsOp rdv_o12 3 none (.call { callee := .value (.func 24), args := #[.tmp 72, .tmp 73], argTypes := #[27, 27] })) (by kernel_rfl) (by kernel_rfl) (grd_none) (src_op (f := (intF ((estN r d : Nat) : Int))) 1 (by kernel_rfl) (by kernel_rfl) rfl) (src_op (f := (intF ((d : Nat) : Int))) 2 (by kernel_rfl) (by kernel_rfl) rfl) rdvpl_quadrature_quadratureref01_Mul (fun w v0 v1 hb h0 h1 => kRMul h0 h1 se sd (by first | decide | assumption | omega) (by first | decide | assumption | omega)) rfl)
    refine steps_snoc (k := 2) ?_ (s_load (i := 2) hP (g := none) (isOp_of (by kernel_rfl) : IsOp rdv_o12 2 none (.load 27 (.tmp 11))) (by kernel_rfl) (by kernel_rfl) (grd_none) (bsrc_old 4 _ rfl rfl rfl (by kernel_rfl) (by kernel_rfl)) (fun w q h => loadI_int w q h) rfl)
    refine steps_snoc (k := 1) ?_ (s_load (i := 1) hP (g := none) (isOp_of (by kernel_rfl) : IsOp rdv_o12 1 none (.load 27 (.tmp 13))) (by kernel_rfl) (by kernel_rfl) (grd_none) (bsrc_old 6 _ rfl rfl rfl (by kernel_rfl) (by kernel_rfl)) (fun w q h => loadI_int w q h) rfl)
    refine steps_snoc (k := 0) ?_ (s_load (i := 0) hP (g := none) (isOp_of (by kernel_rfl) : IsOp rdv_o12 0 none (.load 27 (.tmp 10))) (by kernel_rfl) (by kernel_rfl) (grd_none) (bsrc_old 3 _ rfl rfl rfl (by kernel_rfl) (by kernel_rfl)) (fun w q h => loadI_int w q h) rfl)
    exact steps_nil
  · intro m a w hI hm
    exact ⟨(low_fact hst 0 rfl (by kernel_rfl) hI), (low_fact hst 1 rfl (by kernel_rfl) hI), (low_fact hst 2 rfl (by kernel_rfl) hI), (low_fact hst 3 rfl (by kernel_rfl) hI), (low_fact hst 4 rfl (by kernel_rfl) hI), (low_fact hst 5 rfl (by kernel_rfl) hI), trivial⟩
set_option maxRecDepth 100000 in
theorem RDivide_any (va : Value) (x y i j n cap t : Nat) (bd : Addr) (W : World) (ha : NatAt W va x) (sx : Sm ((x : Nat) : Int) i) (sy : Sm ((y : Nat) : Int) j) (hi : i ≤ 400) (hj : j ≤ 400) (hN : NatAt W (.slice (some bd) n cap) y) (ct : W.cell? (bd.add (n - 1)) = some (.int .u32 (t : Int))) (hn : 1 ≤ n) (hn2 : n ≤ 1099511627776) (ht0 : 0 < t) (ht : t < 4294967296) (hy0 : 0 < y) (ey1 : n = 1 → y = t) :
    Calls Tryd.prog 56 #[va, .slice (some bd) n cap] W (GivesP (tup2F (intF ((x / y : Nat) : Int)) (intF ((x % y : Nat) : Int))) W) := by
  refine calls_stW (S := [(0, (natF x)), (1, (eqF (.slice (some bd) n cap)))]) Tryd.func56 (by kernel_rfl) Tryd.ntmps56 (by simp) (fun x hx => ?_) fun a w hst => ?_
  · simp only [List.mem_cons, List.not_mem_nil, or_false] at hx
    rcases hx with rfl | rfl
    · exact ⟨_, rfl, ha⟩
    · exact ⟨_, rfl, rfl⟩
  show Code.wp _ rdv_n0 _ a w
  by_cases n1 : n = 1
  · have ey := ey1 n1
    have ct0 : W.cell? (bd.add 0) = some (.int .u32 (t : Int)) := by rw [n1] at ct; exact ct
    rw [rdv_e0]
    refine wp_seq ?_
    rw [rdv_e1]
    refine rdv_r0 sx sy hi hj hN ct hn hn2 ht0 ht n1 ct0 hst ?_
    clear hst
    intro a w hst
    show Code.wp _ rdv_n2 _ a w
    rw [rdv_e2]
    refine wp_seq ?_
    rw [rdv_e3]
    refine wp_seq ?_
    rw [rdv_e5]
    refine rdv_r1 sx sy hi hj hN ct hn hn2 ht0 ht n1 ct0 hst ?_
    clear hst
    intro a w hst
    show Code.wp _ rdv_n6 _ a w
    rw [rdv_e6]
    refine wp_cond_true (st_bool hst 2 rfl) ?_
    show Code.wp _ rdv_n7 _ a w
    rw [rdv_e7]
    refine wp_seq ?_
    rw [rdv_e9]
    refine rdv_r2 sx sy hi hj hN ct hn hn2 ht0 ht n1 ct0 hst ?_
    clear hst
    intro a w hst
    show Code.wp _ rdv_n10 _ a w
    rw [rdv_e10]
    refine wp_seq ?_
    rw [rdv_e11]
    refine rdv_r3 sx sy hi hj hN ct hn hn2 ht0 ht n1 ct0 hst ?_
    clear hst
    intro a w hst
    show Code.wp _ rdv_n12 _ a w
    rw [rdv_e12]
    refine wp_ret ?_
    rw [← ey] at hst
    exact ret_boxI2 hst rfl 0 rfl 1 rfl
  · clear ey1
    rw [rdv_e0]
    refine wp_seq ?_
    rw [rdv_e1]
    refine rdv_r0b sx sy hi hj hN ct hn hn2 ht0 ht n1 hst ?_
    clear hst
    intro a w hst
    show Code.wp _ rdv_n2 _ a w
    rw [rdv_e2]
    refine wp_seq ?_
    rw [rdv_e3]
    refine wp_seq ?_
    rw [rdv_e5]
    refine rdv_r1b sx sy hi hj hN ct hn hn2 ht0 ht n1 hst ?_
    clear hst
    intro a w hst
    show Code.wp _ rdv_n6 _ a w
    rw [rdv_e6]
    refine wp_cond_false (st_bool hst 2 rfl) ?_
    show Code.wp _ rdv_n8 _ a w
    rw [rdv_e8]
    refine wp_skip ?_
    show Code.wp _ rdv_n4 _ a w
    rw [rdv_e4]
    refine wp_seq ?_
    rw [rdv_e13]
    refine rdv_r4 sx sy hi hj hN ct hn hn2 ht0 ht n1 hst ?_
    clear hst
    intro a w hst
    show Code.wp _ rdv_n14 _ a w
    rw [rdv_e14]
    refine wp_seq ?_
    rw [rdv_e15]
    refine wp_block ?_
    show Code.wp _ rdv_n17 _ a w
    rw [rdv_e17]
    refine loop_ghost (fun (s : Nat) a w => St W 86 [(0, (natF x)), (1, (eqF (.slice (some bd) n cap))), (8, (eqF (.int .u32 (s : Int)))), (18, (eqF (.bool false)))] [(4, zeroIF), (5, zeroIF)] a w ∧ 0 < s ∧ t * s < 4294967296) (fun s => 4294967296 - s) ?_ (1 : Nat) ⟨hst, by omega, by omega⟩
    intro s a w ⟨hst, hs0, hts⟩
    have hs1 : s < 4294967296 := Nat.lt_of_le_of_lt (by rw [← Nat.one_mul s]; exact Nat.mul_le_mul_right s ht0 |> fun h => by simpa using h) hts
    show Code.wp _ rdv_n18 _ a w
    rcases Nat.lt_or_ge (t * s) 2147483648 with hlo | hhi
    · rw [rdv_e18]
      refine wp_seq ?_
      rw [rdv_e19]
      refine wp_seq ?_
      rw [rdv_e21]
      refine rdv_r5 sx sy hi hj hN ct hn hn2 ht0 ht n1 hs0 hs1 hts hlo hst ?_
      clear hst
      intro a w hst
      show Code.wp _ rdv_n22 _ a w
      rw [rdv_e22]
      refine wp_cond_true (st_bool hst 4 rfl) ?_
      show Code.wp _ rdv_n23 _ a w
      rw [rdv_e23]
      refine wp_skip ?_
      show Code.wp _ rdv_n20 _ a w
      rw [rdv_e20]
      refine wp_block ?_
      show Code.wp _ rdv_n25 _ a w
      rw [rdv_e25]
      refine rdv_r6 sx sy hi hj hN ct hn hn2 ht0 ht n1 hs0 hs1 hts hlo hst ?_
      clear hst
      intro a w hst
      have h2 : t * (2 * s) = 2 * (t * s) := by rw [Nat.mul_left_comm]
      have h3 : s ≤ t * s := Nat.le_mul_of_pos_left s ht0
      exact ⟨2 * s, ⟨(hst.to ⟨hst.slots.get (k := 0) rfl, hst.slots.get (k := 1) rfl, hst.slots.get (k := 2) rfl, hst.slots.get (k := 3) rfl, trivial⟩), by omega, by omega⟩, by show 4294967296 - 2 * s < 4294967296 - s; omega⟩
    · rw [rdv_e18]
      refine wp_seq ?_
      rw [rdv_e19]
      refine wp_seq ?_
      rw [rdv_e21]
      refine rdv_r5b sx sy hi hj hN ct hn hn2 ht0 ht n1 hs0 hs1 hts hhi hst ?_
      clear hst
      intro a w hst
      show Code.wp _ rdv_n22 _ a w
      rw [rdv_e22]
      refine wp_cond_false (st_bool hst 4 rfl) ?_
      show Code.wp _ rdv_n24 _ a w
      rw [rdv_e24]
      refine wp_exit ?_
      clear hhi hts
      show Code.wp _ rdv_n16 _ a w
      rw [rdv_e16]
      refine wp_seq ?_
      rw [rdv_e26]
      refine rdv_r7 sx sy hi hj hN ct hn hn2 ht0 ht n1 hs0 hs1 hst ?_
      clear hst
      intro a w hst
      show Code.wp _ rdv_n27 _ a w
      rw [rdv_e27]
      refine wp_seq ?_
      rw [rdv_e28]
      refine rdv_r8 sx sy hi hj hN ct hn hn2 ht0 ht n1 hs0 hs1 hst ?_
      clear hst
      intro a w hst
      show Code.wp _ rdv_n29 _ a w
      rw [rdv_e29]
      refine wp_seq ?_
      rw [rdv_e30]
      refine wp_block ?_
      show Code.wp _ rdv_n32 _ a w
      rw [rdv_e32]
      obtain ⟨d, hd⟩ : ∃ d, d = y * s := ⟨_, rfl⟩
      obtain ⟨r0, hr0⟩ : ∃ r, r = x * s := ⟨_, rfl⟩
      have hd0 : 0 < d := by rw [hd]; exact Nat.mul_pos hy0 hs0
      have ed : ((y : Nat) : Int) * ((s : Nat) : Int) = ((d : Nat) : Int) := by rw [hd, Int.natCast_mul]
      have er : ((x : Nat) : Int) * ((s : Nat) : Int) = ((r0 : Nat) : Int) := by rw [hr0, Int.natCast_mul]
      have sd : Sm ((d : Nat) : Int) (j + 2) := by rw [← ed]; exact sy.mul (Sm.of _ (by omega))
      have sr0 : Sm ((r0 : Nat) : Int) (i + 2) := by rw [← er]; exact sx.mul (Sm.of _ (by omega))
      rw [ed, er] at hst
      refine loop_ghost (fun (p : Nat × Nat) a w => St W 86 [(0, (natF x)), (1, (eqF (.slice (some bd) n cap))), (8, (eqF (.int .u32 (s : Int)))), (18, (eqF (.bool false))), (42, (eqF (.bool false)))] [(4, zeroIF), (5, zeroIF), (9, (boxIF ((s : Nat) : Int))), (10, (boxIF ((p.2 : Nat) : Int))), (11, (boxIF ((d : Nat) : Int))), (12, (boxIF ((p.1 : Nat) : Int)))] a w ∧ p.1 * d + p.2 = r0) (fun p => p.2) ?_ (0, r0) ⟨hst, by simp⟩
      rintro ⟨q, r⟩ a w ⟨hst, hqr⟩
      simp only [] at hst hqr
      show Code.wp _ rdv_n33 _ a w
      have hq1 : q ≤ q * d := Nat.le_mul_of_pos_right q hd0
      have sr : Sm ((r : Nat) : Int) (i + 2) := sm_le sr0 (by omega)
      have sq : Sm ((q : Nat) : Int) (i + 2) := sm_le sr0 (by omega)
      rcases Nat.lt_or_ge r d with hdr | hdr
      · rw [rdv_e33]
        refine wp_seq ?_
        rw [rdv_e34]
        refine wp_seq ?_
        rw [rdv_e36]
        refine rdv_r9 sx sy hi hj hN ct hn hn2 ht0 ht n1 hs0 hs1 hd0 sd sr sq hdr hst ?_
        clear hst
        intro a w hst
        show Code.wp _ rdv_n37 _ a w
        rw [rdv_e37]
        refine wp_cond_false (st_bool hst 5 rfl) ?_
        show Code.wp _ rdv_n39 _ a w
        rw [rdv_e39]
        refine wp_exit ?_
        obtain ⟨f1, f2⟩ := div_end (x := x) (y := y) (q := q) (r := r) (H := s) hs0 (by rw [← hd, ← hr0, hqr]) (by rw [← hd]; exact hdr)
        show Code.wp _ rdv_n31 _ a w
        rw [rdv_e31]
        refine wp_seq ?_
        rw [rdv_e45]
        refine rdv_r13 sx sy hi hj hN ct hn hn2 ht0 ht n1 hs0 hs1 hd0 sd sr sq hst ?_
        clear hst
        intro a w hst
        show Code.wp _ rdv_n46 _ a w
        rw [rdv_e46]
        refine wp_seq ?_
        rw [rdv_e47]
        refine rdv_r14 sx sy hi hj hN ct hn hn2 ht0 ht n1 hs0 hs1 hd0 sd sr sq hst ?_
        clear hst
        intro a w hst
        show Code.wp _ rdv_n48 _ a w
        rw [rdv_e48]
        refine wp_ret ?_
        rw [f1, f2] at hst
        exact ret_boxI2 hst rfl 0 rfl 1 rfl
      · have hE := estN_ok hd0 hdr
        have he1 : estN r d ≤ estN r d * d := Nat.le_mul_of_pos_right _ hd0
        have se : Sm ((estN r d : Nat) : Int) (i + 2) := sm_le sr0 (by omega)
        rw [rdv_e33]
        refine wp_seq ?_
        rw [rdv_e34]
        refine wp_seq ?_
        rw [rdv_e36]
        refine rdv_r9b sx sy hi hj hN ct hn hn2 ht0 ht n1 hs0 hs1 hd0 sd sr sq hdr se hst ?_
        clear hst
        intro a w hst
        show Code.wp _ rdv_n37 _ a w
        rw [rdv_e37]
        refine wp_cond_true (st_bool hst 5 rfl) ?_
        show Code.wp _ rdv_n38 _ a w
        rw [rdv_e38]
        refine wp_skip ?_
        show Code.wp _ rdv_n35 _ a w
        rw [rdv_e35]
        refine wp_block ?_
        show Code.wp _ rdv_n40 _ a w
        rw [rdv_e40]
        refine wp_seq ?_
        rw [rdv_e41]
        refine rdv_r10 sx sy hi hj hN ct hn hn2 ht0 ht n1 hs0 hs1 hd0 sd sr sq hdr se hst ?_
        clear hst
        intro a w hst
        show Code.wp _ rdv_n42 _ a w
        rw [rdv_e42]
        refine wp_seq ?_
        rw [rdv_e43]
        refine rdv_r11 sx sy hi hj hN ct hn hn2 ht0 ht n1 hs0 hs1 hd0 sd sr sq hdr se hst ?_
        clear hst
        intro a w hst
        show Code.wp _ rdv_n44 _ a w
        rw [rdv_e44]
        refine rdv_r12 sx sy hi hj hN ct hn hn2 ht0 ht n1 hs0 hs1 hd0 sd sr sq hdr se hst ?_
        clear hst
        intro a w hst
        have e1 : ((q : Nat) : Int) + ((estN r d : Nat) : Int) = ((q + estN r d : Nat) : Int) := by rw [Int.natCast_add]
        have e2 : ((r : Nat) : Int) - ((estN r d : Nat) : Int) * ((d : Nat) : Int) = ((r - estN r d * d : Nat) : Int) := by rw [Int.natCast_sub hE.2, Int.natCast_mul]
        rw [e1, e2] at hst
        have h3 : 0 < estN r d * d := Nat.mul_pos hE.1 hd0
        exact ⟨(q + estN r d, r - estN r d * d), ⟨((hst.to (S' := [(0, (natF x)), (1, (eqF (.slice (some bd) n cap))), (8, (eqF (.int .u32 (s : Int)))), (18, (eqF (.bool false))), (42, (eqF (.bool false)))]) ⟨hst.slots.get (k := 0) rfl, hst.slots.get (k := 1) rfl, hst.slots.get (k := 2) rfl, hst.slots.get (k := 3) rfl, hst.slots.get (k := 4) rfl, trivial⟩).firstB 6), by show (q + estN r d) * d + (r - estN r d * d) = r0; rw [Nat.add_mul]; omega⟩, by show r - estN r d * d < r; omega⟩
end Go.Proofs.YtjajmonhcnmidaaDoor
