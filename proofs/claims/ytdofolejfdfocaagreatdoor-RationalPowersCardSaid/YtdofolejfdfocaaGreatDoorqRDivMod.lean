/- The reference's DivMod (written by wip/tools/gen_rdivmod.py). -/
import Derived.Test.YtdofolejfdfocaaGreatDoorqRDvP
import Derived.Test.YtdofolejfdfocaaGreatDoorqCon
namespace Go.Proofs.YtdofolejfdfocaaGreatDoor
open Go.RowKit

theorem kRMadeB {z : Int} {b : Bool} {va vb : Value} {w : World} (e : decide (z < 0) = b) (ha : (natF z.natAbs).p va w) (hv : (eqF (.bool b)).p vb w) (hn : len z.natAbs ≤ 4398046511104) : Calls Tryz.prog 41 #[va, vb] w (GivesP (intF z) w) := by
  subst e
  exact kRMadeS ha hv hn
theorem kRDivide {x y i j : Nat} {va vb : Value} {w : World} (ha : (natF x).p va w) (hb : (natF y).p vb w) (sx : Sm ((x : Nat) : Int) i) (sy : Sm ((y : Nat) : Int) j) (hi : i ≤ 400) (hj : j ≤ 400) (hy0 : 0 < y) :
    Calls Tryz.prog 75 #[va, vb] w (GivesP (tup2F (intF ((x / y : Nat) : Int)) (intF ((x % y : Nat) : Int))) w) := by
  have hb : NatAt w vb y := hb
  obtain ⟨B, c, rfl, H⟩ := hb.open_
  have hl : len y ≠ 0 := fun h => by have := len_eq_zero.1 h; omega
  have hb2 : len y ≤ j := len_le_pow sy
  obtain ⟨bd, rfl, _, hc⟩ := H.out.mem.2.2.at_ (show len y - 1 < (limbs y).length by rw [len_limbs]; omega)
  have gq := getD_of_lt (show len y - 1 < (limbs y).length by rw [len_limbs]; omega)
  have ht := (limbs_32 y).get (show len y - 1 < (limbs y).length by rw [len_limbs]; omega)
  have ht0 := limbs_last hy0
  generalize (limbs y)[len y - 1]'(by rw [len_limbs]; omega) = t at *
  refine RDivide_any va x y i j (len y) c t bd w ha sx sy hi hj H.out hc (by omega) (by omega) (by omega) ht hy0 fun h => ?_
  rw [h] at gq
  obtain ⟨lo, e, hlo⟩ := top_split (y := y) (n := 0) h gq
  omega
set_option maxRecDepth 100000 in
theorem RDM_1 {x y : Int} {i j : Nat} (va : Value) (vb : Value) (W : World) (hva : (intF x).p va W) (hvb : (intF y).p vb W) (sx : Sm x i) (sy : Sm y j) (hi : i ≤ 400) (hj : j ≤ 400) (ny : y ≠ 0) (_nx : x < 0) (hr : 0 < ((x.natAbs % y.natAbs : Nat) : Int)) (_hs : 0 < y) : Calls Tryz.prog 52 #[va, vb] W (GivesP (tup3F (intF (-(((x.natAbs / y.natAbs : Nat) : Int) + 1))) (intF (y - ((x.natAbs % y.natAbs : Nat) : Int))) (eqF (.int .i64 0))) W) := by
  let E : List PF := [(intF x), (intF y), (natF x.natAbs), (natF y.natAbs), (eqF (.int .i64 (Int.sign y))), (intF ((x.natAbs / y.natAbs : Nat) : Int)), (intF ((x.natAbs % y.natAbs : Nat) : Int)), (eqF (.int .i64 (Int.sign ((x.natAbs % y.natAbs : Nat) : Int)))), (intF 1), (intF (((x.natAbs / y.natAbs : Nat) : Int) + 1)), (intF (y - ((x.natAbs % y.natAbs : Nat) : Int))), (intF (-(((x.natAbs / y.natAbs : Nat) : Int) + 1)))]
  let EB : List CF := [(boxIF x), (boxIF y), zeroIF, (boxIF ((x.natAbs / y.natAbs : Nat) : Int)), (boxIF ((x.natAbs % y.natAbs : Nat) : Int)), (boxIF (((x.natAbs / y.natAbs : Nat) : Int) + 1)), (boxIF (y - ((x.natAbs % y.natAbs : Nat) : Int))), (boxIF (-(((x.natAbs / y.natAbs : Nat) : Int) + 1)))]
  exact auto_calls (E := E) (EB := EB) (fs := [(.ref 0), (.ref 1)]) (r := (.tup3 (.ref 11) (.ref 10) (.int .i64 0)))
   { pures := [p2 (.bin .eql 3 3) (.ref 4) (.int .i64 0) (.bool false) fun _ _ _ _ _ hx hy => h_eqlI (r := false) (by simp [Int.sign_eq_zero_iff_zero, ny]) hx hy,
      p2 (.bin .gtr 3 3) (.ref 7) (.int .i64 0) (.bool true) fun _ _ _ _ _ hx hy => h_gtr (r := true) (by rw [Int.sign_eq_one_of_pos hr]; decide) hx hy],
     calls := [c2 41 (.ref 2) (.bool true) (.ref 0) fun w v0 v1 hb h0 h1 => kRMadeB (z := x) (by simp; omega) h0 h1 (Nat.le_trans (len_le_pow sx) (by omega)),
      c2 41 (.ref 3) (.bool false) (.ref 1) fun w v0 v1 hb h0 h1 => kRMadeB (z := y) (by simp; omega) h0 h1 (Nat.le_trans (len_le_pow sy) (by omega)),
      c1 42 (.ref 1) (.ref 4) fun w v0 hb h0 => kRSign h0 sy (by first | decide | assumption | omega),
      c2 75 (.ref 2) (.ref 3) (.tup2 (.ref 5) (.ref 6)) fun w v0 v1 hb h0 h1 => kRDivide h0 h1 sx.abs sy.abs hi hj (by omega),
      c1 42 (.ref 6) (.ref 7) fun w v0 hb h0 => kRSign h0 (sm_le sx.abs (Nat.mod_le _ _)) (by first | decide | assumption | omega),
      c1 44 (.int .i64 1) (.ref 8) fun w v0 hb h0 => kROf 1 (by omega) (by omega) h0,
      c2 55 (.ref 5) (.ref 8) (.ref 9) fun w v0 v1 hb h0 h1 => kRAdd h0 h1 (sm_le sx.abs (Nat.div_le_self _ _)) (Sm.of 1 (by decide)) (by first | decide | assumption | omega) (by first | decide | assumption | omega),
      c2 76 (.ref 1) (.ref 6) (.ref 10) fun w v0 v1 hb h0 h1 => kRSub h0 h1 sy (sm_le sx.abs (Nat.mod_le _ _)) (by first | decide | assumption | omega) (by first | decide | assumption | omega),
      c1 50 (.ref 9) (.ref 11) fun w v0 hb h0 => kRNeg h0 ((sm_le sx.abs (Nat.div_le_self _ _)).add (Sm.of 1 (by decide))) (by first | decide | assumption | omega)],
     loads := [⟨22, 1, 0, (.ref 2), fun w q h => loadI_mag w q h⟩,
      ⟨4, 0, 0, (.bool true), fun w q h => loadI_neg (by simp; omega) w q h⟩,
      ⟨22, 1, 1, (.ref 3), fun w q h => loadI_mag w q h⟩,
      ⟨4, 0, 1, (.bool false), fun w q h => loadI_neg (by simp; omega) w q h⟩,
      ⟨27, 0, 1, (.ref 1), fun w q h => loadI_int w q h⟩,
      ⟨27, 0, 4, (.ref 6), fun w q h => loadI_int w q h⟩,
      ⟨27, 0, 3, (.ref 5), fun w q h => loadI_int w q h⟩,
      ⟨27, 0, 5, (.ref 9), fun w q h => loadI_int w q h⟩,
      ⟨27, 0, 7, (.ref 11), fun w q h => loadI_int w q h⟩,
      ⟨27, 0, 6, (.ref 10), fun w q h => loadI_int w q h⟩],
     allocs := [⟨27, 2, _, allocI_run, allocI_old⟩],
     boxes := [⟨27, (.ref 0), 0, fun w v h => boxI_run w v h⟩,
      ⟨27, (.ref 1), 1, fun w v h => boxI_run w v h⟩],
     stores := [⟨27, 0, 0, (.ref 0), 0, (storeI_box _ _)⟩,
      ⟨27, 0, 1, (.ref 1), 1, (storeI_box _ _)⟩,
      ⟨27, 0, 2, (.ref 5), 3, (storeI_zero _)⟩,
      ⟨27, 0, 2, (.ref 6), 4, (storeI_zero _)⟩,
      ⟨27, 0, 3, (.ref 9), 5, (storeI_box _ _)⟩,
      ⟨27, 0, 4, (.ref 10), 6, (storeI_box _ _)⟩,
      ⟨27, 0, 5, (.ref 11), 7, (storeI_box _ _)⟩,
      ⟨27, 0, 2, (.ref 11), 7, (storeI_zero _)⟩,
      ⟨27, 0, 2, (.ref 10), 6, (storeI_zero _)⟩],
     flds := [⟨27, 1, 1, fldI1⟩,
      ⟨27, 0, 0, fldI0⟩] }
   Tryz.func52 ⟨hva, hvb, trivial⟩ (by kernel_rfl)

set_option maxRecDepth 100000 in
theorem RDM_2 {x y : Int} {i j : Nat} (va : Value) (vb : Value) (W : World) (hva : (intF x).p va W) (hvb : (intF y).p vb W) (sx : Sm x i) (sy : Sm y j) (hi : i ≤ 400) (hj : j ≤ 400) (ny : y ≠ 0) (_nx : x < 0) (hr : 0 < ((x.natAbs % y.natAbs : Nat) : Int)) (_hs : y < 0) : Calls Tryz.prog 52 #[va, vb] W (GivesP (tup3F (intF (((x.natAbs / y.natAbs : Nat) : Int) + 1)) (intF (((y.natAbs : Nat) : Int) - ((x.natAbs % y.natAbs : Nat) : Int))) (eqF (.int .i64 0))) W) := by
  let E : List PF := [(intF x), (intF y), (natF x.natAbs), (natF y.natAbs), (eqF (.int .i64 (Int.sign y))), (intF ((x.natAbs / y.natAbs : Nat) : Int)), (intF ((x.natAbs % y.natAbs : Nat) : Int)), (eqF (.int .i64 (Int.sign ((x.natAbs % y.natAbs : Nat) : Int)))), (intF 1), (intF (((x.natAbs / y.natAbs : Nat) : Int) + 1)), (intF ((y.natAbs : Nat) : Int)), (intF (((y.natAbs : Nat) : Int) - ((x.natAbs % y.natAbs : Nat) : Int)))]
  let EB : List CF := [(boxIF x), (boxIF y), zeroIF, (boxIF ((x.natAbs / y.natAbs : Nat) : Int)), (boxIF ((x.natAbs % y.natAbs : Nat) : Int)), (boxIF (((x.natAbs / y.natAbs : Nat) : Int) + 1)), (boxIF (((y.natAbs : Nat) : Int) - ((x.natAbs % y.natAbs : Nat) : Int)))]
  exact auto_calls (E := E) (EB := EB) (fs := [(.ref 0), (.ref 1)]) (r := (.tup3 (.ref 9) (.ref 11) (.int .i64 0)))
   { pures := [p2 (.bin .eql 3 3) (.ref 4) (.int .i64 0) (.bool false) fun _ _ _ _ _ hx hy => h_eqlI (r := false) (by simp [Int.sign_eq_zero_iff_zero, ny]) hx hy,
      p2 (.bin .gtr 3 3) (.ref 7) (.int .i64 0) (.bool true) fun _ _ _ _ _ hx hy => h_gtr (r := true) (by rw [Int.sign_eq_one_of_pos hr]; decide) hx hy],
     calls := [c2 41 (.ref 2) (.bool true) (.ref 0) fun w v0 v1 hb h0 h1 => kRMadeB (z := x) (by simp; omega) h0 h1 (Nat.le_trans (len_le_pow sx) (by omega)),
      c2 41 (.ref 3) (.bool true) (.ref 1) fun w v0 v1 hb h0 h1 => kRMadeB (z := y) (by simp; omega) h0 h1 (Nat.le_trans (len_le_pow sy) (by omega)),
      c1 42 (.ref 1) (.ref 4) fun w v0 hb h0 => kRSign h0 sy (by first | decide | assumption | omega),
      c2 75 (.ref 2) (.ref 3) (.tup2 (.ref 5) (.ref 6)) fun w v0 v1 hb h0 h1 => kRDivide h0 h1 sx.abs sy.abs hi hj (by omega),
      c1 42 (.ref 6) (.ref 7) fun w v0 hb h0 => kRSign h0 (sm_le sx.abs (Nat.mod_le _ _)) (by first | decide | assumption | omega),
      c1 44 (.int .i64 1) (.ref 8) fun w v0 hb h0 => kROf 1 (by omega) (by omega) h0,
      c2 55 (.ref 5) (.ref 8) (.ref 9) fun w v0 v1 hb h0 h1 => kRAdd h0 h1 (sm_le sx.abs (Nat.div_le_self _ _)) (Sm.of 1 (by decide)) (by first | decide | assumption | omega) (by first | decide | assumption | omega),
      c2 41 (.ref 3) (.bool false) (.ref 10) fun w v0 v1 hb h0 h1 => kRMadeN h0 h1 (Nat.le_trans (len_le_pow sy) (by omega)),
      c2 76 (.ref 10) (.ref 6) (.ref 11) fun w v0 v1 hb h0 h1 => kRSub h0 h1 sy.abs (sm_le sx.abs (Nat.mod_le _ _)) (by first | decide | assumption | omega) (by first | decide | assumption | omega)],
     loads := [⟨22, 1, 0, (.ref 2), fun w q h => loadI_mag w q h⟩,
      ⟨4, 0, 0, (.bool true), fun w q h => loadI_neg (by simp; omega) w q h⟩,
      ⟨22, 1, 1, (.ref 3), fun w q h => loadI_mag w q h⟩,
      ⟨4, 0, 1, (.bool true), fun w q h => loadI_neg (by simp; omega) w q h⟩,
      ⟨27, 0, 1, (.ref 1), fun w q h => loadI_int w q h⟩,
      ⟨27, 0, 4, (.ref 6), fun w q h => loadI_int w q h⟩,
      ⟨27, 0, 3, (.ref 5), fun w q h => loadI_int w q h⟩,
      ⟨27, 0, 5, (.ref 9), fun w q h => loadI_int w q h⟩,
      ⟨27, 0, 6, (.ref 11), fun w q h => loadI_int w q h⟩],
     allocs := [⟨27, 2, _, allocI_run, allocI_old⟩],
     boxes := [⟨27, (.ref 0), 0, fun w v h => boxI_run w v h⟩,
      ⟨27, (.ref 1), 1, fun w v h => boxI_run w v h⟩],
     stores := [⟨27, 0, 0, (.ref 0), 0, (storeI_box _ _)⟩,
      ⟨27, 0, 1, (.ref 1), 1, (storeI_box _ _)⟩,
      ⟨27, 0, 2, (.ref 5), 3, (storeI_zero _)⟩,
      ⟨27, 0, 2, (.ref 6), 4, (storeI_zero _)⟩,
      ⟨27, 0, 3, (.ref 9), 5, (storeI_box _ _)⟩,
      ⟨27, 0, 4, (.ref 11), 6, (storeI_box _ _)⟩,
      ⟨27, 0, 2, (.ref 9), 5, (storeI_zero _)⟩,
      ⟨27, 0, 2, (.ref 11), 6, (storeI_zero _)⟩],
     flds := [⟨27, 1, 1, fldI1⟩,
      ⟨27, 0, 0, fldI0⟩] }
   Tryz.func52 ⟨hva, hvb, trivial⟩ (by kernel_rfl)

set_option maxRecDepth 100000 in
theorem RDM_3 {x y : Int} {i j : Nat} (va : Value) (vb : Value) (W : World) (hva : (intF x).p va W) (hvb : (intF y).p vb W) (sx : Sm x i) (sy : Sm y j) (hi : i ≤ 400) (hj : j ≤ 400) (ny : y ≠ 0) (_nx : x < 0) (hr : ((x.natAbs % y.natAbs : Nat) : Int) = 0) (_hs : 0 < y) : Calls Tryz.prog 52 #[va, vb] W (GivesP (tup3F (intF (-((x.natAbs / y.natAbs : Nat) : Int))) (intF ((x.natAbs % y.natAbs : Nat) : Int)) (eqF (.int .i64 0))) W) := by
  let E : List PF := [(intF x), (intF y), (natF x.natAbs), (natF y.natAbs), (eqF (.int .i64 (Int.sign y))), (intF ((x.natAbs / y.natAbs : Nat) : Int)), (intF ((x.natAbs % y.natAbs : Nat) : Int)), (eqF (.int .i64 (Int.sign ((x.natAbs % y.natAbs : Nat) : Int)))), (intF (-((x.natAbs / y.natAbs : Nat) : Int)))]
  let EB : List CF := [(boxIF x), (boxIF y), zeroIF, (boxIF ((x.natAbs / y.natAbs : Nat) : Int)), (boxIF ((x.natAbs % y.natAbs : Nat) : Int)), (boxIF (-((x.natAbs / y.natAbs : Nat) : Int)))]
  exact auto_calls (E := E) (EB := EB) (fs := [(.ref 0), (.ref 1)]) (r := (.tup3 (.ref 8) (.ref 6) (.int .i64 0)))
   { pures := [p2 (.bin .eql 3 3) (.ref 4) (.int .i64 0) (.bool false) fun _ _ _ _ _ hx hy => h_eqlI (r := false) (by simp [Int.sign_eq_zero_iff_zero, ny]) hx hy,
      p2 (.bin .gtr 3 3) (.ref 7) (.int .i64 0) (.bool false) fun _ _ _ _ _ hx hy => h_gtr (r := false) (by rw [hr]; decide) hx hy],
     calls := [c2 41 (.ref 2) (.bool true) (.ref 0) fun w v0 v1 hb h0 h1 => kRMadeB (z := x) (by simp; omega) h0 h1 (Nat.le_trans (len_le_pow sx) (by omega)),
      c2 41 (.ref 3) (.bool false) (.ref 1) fun w v0 v1 hb h0 h1 => kRMadeB (z := y) (by simp; omega) h0 h1 (Nat.le_trans (len_le_pow sy) (by omega)),
      c1 42 (.ref 1) (.ref 4) fun w v0 hb h0 => kRSign h0 sy (by first | decide | assumption | omega),
      c2 75 (.ref 2) (.ref 3) (.tup2 (.ref 5) (.ref 6)) fun w v0 v1 hb h0 h1 => kRDivide h0 h1 sx.abs sy.abs hi hj (by omega),
      c1 42 (.ref 6) (.ref 7) fun w v0 hb h0 => kRSign h0 (sm_le sx.abs (Nat.mod_le _ _)) (by first | decide | assumption | omega),
      c1 50 (.ref 5) (.ref 8) fun w v0 hb h0 => kRNeg h0 (sm_le sx.abs (Nat.div_le_self _ _)) (by first | decide | assumption | omega)],
     loads := [⟨22, 1, 0, (.ref 2), fun w q h => loadI_mag w q h⟩,
      ⟨4, 0, 0, (.bool true), fun w q h => loadI_neg (by simp; omega) w q h⟩,
      ⟨22, 1, 1, (.ref 3), fun w q h => loadI_mag w q h⟩,
      ⟨4, 0, 1, (.bool false), fun w q h => loadI_neg (by simp; omega) w q h⟩,
      ⟨27, 0, 1, (.ref 1), fun w q h => loadI_int w q h⟩,
      ⟨27, 0, 4, (.ref 6), fun w q h => loadI_int w q h⟩,
      ⟨27, 0, 3, (.ref 5), fun w q h => loadI_int w q h⟩,
      ⟨27, 0, 5, (.ref 8), fun w q h => loadI_int w q h⟩],
     allocs := [⟨27, 2, _, allocI_run, allocI_old⟩],
     boxes := [⟨27, (.ref 0), 0, fun w v h => boxI_run w v h⟩,
      ⟨27, (.ref 1), 1, fun w v h => boxI_run w v h⟩],
     stores := [⟨27, 0, 0, (.ref 0), 0, (storeI_box _ _)⟩,
      ⟨27, 0, 1, (.ref 1), 1, (storeI_box _ _)⟩,
      ⟨27, 0, 2, (.ref 5), 3, (storeI_zero _)⟩,
      ⟨27, 0, 2, (.ref 6), 4, (storeI_zero _)⟩,
      ⟨27, 0, 3, (.ref 8), 5, (storeI_box _ _)⟩,
      ⟨27, 0, 2, (.ref 8), 5, (storeI_zero _)⟩],
     flds := [⟨27, 1, 1, fldI1⟩,
      ⟨27, 0, 0, fldI0⟩] }
   Tryz.func52 ⟨hva, hvb, trivial⟩ (by kernel_rfl)

set_option maxRecDepth 100000 in
theorem RDM_4 {x y : Int} {i j : Nat} (va : Value) (vb : Value) (W : World) (hva : (intF x).p va W) (hvb : (intF y).p vb W) (sx : Sm x i) (sy : Sm y j) (hi : i ≤ 400) (hj : j ≤ 400) (ny : y ≠ 0) (_nx : x < 0) (hr : ((x.natAbs % y.natAbs : Nat) : Int) = 0) (_hs : y < 0) : Calls Tryz.prog 52 #[va, vb] W (GivesP (tup3F (intF ((x.natAbs / y.natAbs : Nat) : Int)) (intF ((x.natAbs % y.natAbs : Nat) : Int)) (eqF (.int .i64 0))) W) := by
  let E : List PF := [(intF x), (intF y), (natF x.natAbs), (natF y.natAbs), (eqF (.int .i64 (Int.sign y))), (intF ((x.natAbs / y.natAbs : Nat) : Int)), (intF ((x.natAbs % y.natAbs : Nat) : Int)), (eqF (.int .i64 (Int.sign ((x.natAbs % y.natAbs : Nat) : Int))))]
  let EB : List CF := [(boxIF x), (boxIF y), zeroIF, (boxIF ((x.natAbs / y.natAbs : Nat) : Int)), (boxIF ((x.natAbs % y.natAbs : Nat) : Int))]
  exact auto_calls (E := E) (EB := EB) (fs := [(.ref 0), (.ref 1)]) (r := (.tup3 (.ref 5) (.ref 6) (.int .i64 0)))
   { pures := [p2 (.bin .eql 3 3) (.ref 4) (.int .i64 0) (.bool false) fun _ _ _ _ _ hx hy => h_eqlI (r := false) (by simp [Int.sign_eq_zero_iff_zero, ny]) hx hy,
      p2 (.bin .gtr 3 3) (.ref 7) (.int .i64 0) (.bool false) fun _ _ _ _ _ hx hy => h_gtr (r := false) (by rw [hr]; decide) hx hy],
     calls := [c2 41 (.ref 2) (.bool true) (.ref 0) fun w v0 v1 hb h0 h1 => kRMadeB (z := x) (by simp; omega) h0 h1 (Nat.le_trans (len_le_pow sx) (by omega)),
      c2 41 (.ref 3) (.bool true) (.ref 1) fun w v0 v1 hb h0 h1 => kRMadeB (z := y) (by simp; omega) h0 h1 (Nat.le_trans (len_le_pow sy) (by omega)),
      c1 42 (.ref 1) (.ref 4) fun w v0 hb h0 => kRSign h0 sy (by first | decide | assumption | omega),
      c2 75 (.ref 2) (.ref 3) (.tup2 (.ref 5) (.ref 6)) fun w v0 v1 hb h0 h1 => kRDivide h0 h1 sx.abs sy.abs hi hj (by omega),
      c1 42 (.ref 6) (.ref 7) fun w v0 hb h0 => kRSign h0 (sm_le sx.abs (Nat.mod_le _ _)) (by first | decide | assumption | omega)],
     loads := [⟨22, 1, 0, (.ref 2), fun w q h => loadI_mag w q h⟩,
      ⟨4, 0, 0, (.bool true), fun w q h => loadI_neg (by simp; omega) w q h⟩,
      ⟨22, 1, 1, (.ref 3), fun w q h => loadI_mag w q h⟩,
      ⟨4, 0, 1, (.bool true), fun w q h => loadI_neg (by simp; omega) w q h⟩,
      ⟨27, 0, 1, (.ref 1), fun w q h => loadI_int w q h⟩,
      ⟨27, 0, 4, (.ref 6), fun w q h => loadI_int w q h⟩,
      ⟨27, 0, 3, (.ref 5), fun w q h => loadI_int w q h⟩],
     allocs := [⟨27, 2, _, allocI_run, allocI_old⟩],
     boxes := [⟨27, (.ref 0), 0, fun w v h => boxI_run w v h⟩,
      ⟨27, (.ref 1), 1, fun w v h => boxI_run w v h⟩],
     stores := [⟨27, 0, 0, (.ref 0), 0, (storeI_box _ _)⟩,
      ⟨27, 0, 1, (.ref 1), 1, (storeI_box _ _)⟩,
      ⟨27, 0, 2, (.ref 5), 3, (storeI_zero _)⟩,
      ⟨27, 0, 2, (.ref 6), 4, (storeI_zero _)⟩],
     flds := [⟨27, 1, 1, fldI1⟩,
      ⟨27, 0, 0, fldI0⟩] }
   Tryz.func52 ⟨hva, hvb, trivial⟩ (by kernel_rfl)

set_option maxRecDepth 100000 in
theorem RDM_5 {x y : Int} {i j : Nat} (va : Value) (vb : Value) (W : World) (hva : (intF x).p va W) (hvb : (intF y).p vb W) (sx : Sm x i) (sy : Sm y j) (hi : i ≤ 400) (hj : j ≤ 400) (ny : y ≠ 0) (_nx : 0 ≤ x) (_hs : 0 < y) : Calls Tryz.prog 52 #[va, vb] W (GivesP (tup3F (intF ((x.natAbs / y.natAbs : Nat) : Int)) (intF ((x.natAbs % y.natAbs : Nat) : Int)) (eqF (.int .i64 0))) W) := by
  let E : List PF := [(intF x), (intF y), (natF x.natAbs), (natF y.natAbs), (eqF (.int .i64 (Int.sign y))), (intF ((x.natAbs / y.natAbs : Nat) : Int)), (intF ((x.natAbs % y.natAbs : Nat) : Int))]
  let EB : List CF := [(boxIF x), (boxIF y), zeroIF, (boxIF ((x.natAbs / y.natAbs : Nat) : Int)), (boxIF ((x.natAbs % y.natAbs : Nat) : Int))]
  exact auto_calls (E := E) (EB := EB) (fs := [(.ref 0), (.ref 1)]) (r := (.tup3 (.ref 5) (.ref 6) (.int .i64 0)))
   { pures := [p2 (.bin .eql 3 3) (.ref 4) (.int .i64 0) (.bool false) fun _ _ _ _ _ hx hy => h_eqlI (r := false) (by simp [Int.sign_eq_zero_iff_zero, ny]) hx hy],
     calls := [c2 41 (.ref 2) (.bool false) (.ref 0) fun w v0 v1 hb h0 h1 => kRMadeB (z := x) (by simp; omega) h0 h1 (Nat.le_trans (len_le_pow sx) (by omega)),
      c2 41 (.ref 3) (.bool false) (.ref 1) fun w v0 v1 hb h0 h1 => kRMadeB (z := y) (by simp; omega) h0 h1 (Nat.le_trans (len_le_pow sy) (by omega)),
      c1 42 (.ref 1) (.ref 4) fun w v0 hb h0 => kRSign h0 sy (by first | decide | assumption | omega),
      c2 75 (.ref 2) (.ref 3) (.tup2 (.ref 5) (.ref 6)) fun w v0 v1 hb h0 h1 => kRDivide h0 h1 sx.abs sy.abs hi hj (by omega)],
     loads := [⟨22, 1, 0, (.ref 2), fun w q h => loadI_mag w q h⟩,
      ⟨4, 0, 0, (.bool false), fun w q h => loadI_neg (by simp; omega) w q h⟩,
      ⟨22, 1, 1, (.ref 3), fun w q h => loadI_mag w q h⟩,
      ⟨4, 0, 1, (.bool false), fun w q h => loadI_neg (by simp; omega) w q h⟩,
      ⟨27, 0, 1, (.ref 1), fun w q h => loadI_int w q h⟩,
      ⟨27, 0, 3, (.ref 5), fun w q h => loadI_int w q h⟩,
      ⟨27, 0, 4, (.ref 6), fun w q h => loadI_int w q h⟩],
     allocs := [⟨27, 2, _, allocI_run, allocI_old⟩],
     boxes := [⟨27, (.ref 0), 0, fun w v h => boxI_run w v h⟩,
      ⟨27, (.ref 1), 1, fun w v h => boxI_run w v h⟩],
     stores := [⟨27, 0, 0, (.ref 0), 0, (storeI_box _ _)⟩,
      ⟨27, 0, 1, (.ref 1), 1, (storeI_box _ _)⟩,
      ⟨27, 0, 2, (.ref 5), 3, (storeI_zero _)⟩,
      ⟨27, 0, 2, (.ref 6), 4, (storeI_zero _)⟩],
     flds := [⟨27, 1, 1, fldI1⟩,
      ⟨27, 0, 0, fldI0⟩] }
   Tryz.func52 ⟨hva, hvb, trivial⟩ (by kernel_rfl)

set_option maxRecDepth 100000 in
theorem RDM_6 {x y : Int} {i j : Nat} (va : Value) (vb : Value) (W : World) (hva : (intF x).p va W) (hvb : (intF y).p vb W) (sx : Sm x i) (sy : Sm y j) (hi : i ≤ 400) (hj : j ≤ 400) (ny : y ≠ 0) (_nx : 0 ≤ x) (_hs : y < 0) : Calls Tryz.prog 52 #[va, vb] W (GivesP (tup3F (intF (-((x.natAbs / y.natAbs : Nat) : Int))) (intF ((x.natAbs % y.natAbs : Nat) : Int)) (eqF (.int .i64 0))) W) := by
  let E : List PF := [(intF x), (intF y), (natF x.natAbs), (natF y.natAbs), (eqF (.int .i64 (Int.sign y))), (intF ((x.natAbs / y.natAbs : Nat) : Int)), (intF ((x.natAbs % y.natAbs : Nat) : Int)), (intF (-((x.natAbs / y.natAbs : Nat) : Int)))]
  let EB : List CF := [(boxIF x), (boxIF y), zeroIF, (boxIF ((x.natAbs / y.natAbs : Nat) : Int)), (boxIF ((x.natAbs % y.natAbs : Nat) : Int)), (boxIF (-((x.natAbs / y.natAbs : Nat) : Int)))]
  exact auto_calls (E := E) (EB := EB) (fs := [(.ref 0), (.ref 1)]) (r := (.tup3 (.ref 7) (.ref 6) (.int .i64 0)))
   { pures := [p2 (.bin .eql 3 3) (.ref 4) (.int .i64 0) (.bool false) fun _ _ _ _ _ hx hy => h_eqlI (r := false) (by simp [Int.sign_eq_zero_iff_zero, ny]) hx hy],
     calls := [c2 41 (.ref 2) (.bool false) (.ref 0) fun w v0 v1 hb h0 h1 => kRMadeB (z := x) (by simp; omega) h0 h1 (Nat.le_trans (len_le_pow sx) (by omega)),
      c2 41 (.ref 3) (.bool true) (.ref 1) fun w v0 v1 hb h0 h1 => kRMadeB (z := y) (by simp; omega) h0 h1 (Nat.le_trans (len_le_pow sy) (by omega)),
      c1 42 (.ref 1) (.ref 4) fun w v0 hb h0 => kRSign h0 sy (by first | decide | assumption | omega),
      c2 75 (.ref 2) (.ref 3) (.tup2 (.ref 5) (.ref 6)) fun w v0 v1 hb h0 h1 => kRDivide h0 h1 sx.abs sy.abs hi hj (by omega),
      c1 50 (.ref 5) (.ref 7) fun w v0 hb h0 => kRNeg h0 (sm_le sx.abs (Nat.div_le_self _ _)) (by first | decide | assumption | omega)],
     loads := [⟨22, 1, 0, (.ref 2), fun w q h => loadI_mag w q h⟩,
      ⟨4, 0, 0, (.bool false), fun w q h => loadI_neg (by simp; omega) w q h⟩,
      ⟨22, 1, 1, (.ref 3), fun w q h => loadI_mag w q h⟩,
      ⟨4, 0, 1, (.bool true), fun w q h => loadI_neg (by simp; omega) w q h⟩,
      ⟨27, 0, 1, (.ref 1), fun w q h => loadI_int w q h⟩,
      ⟨27, 0, 3, (.ref 5), fun w q h => loadI_int w q h⟩,
      ⟨27, 0, 5, (.ref 7), fun w q h => loadI_int w q h⟩,
      ⟨27, 0, 4, (.ref 6), fun w q h => loadI_int w q h⟩],
     allocs := [⟨27, 2, _, allocI_run, allocI_old⟩],
     boxes := [⟨27, (.ref 0), 0, fun w v h => boxI_run w v h⟩,
      ⟨27, (.ref 1), 1, fun w v h => boxI_run w v h⟩],
     stores := [⟨27, 0, 0, (.ref 0), 0, (storeI_box _ _)⟩,
      ⟨27, 0, 1, (.ref 1), 1, (storeI_box _ _)⟩,
      ⟨27, 0, 2, (.ref 5), 3, (storeI_zero _)⟩,
      ⟨27, 0, 2, (.ref 6), 4, (storeI_zero _)⟩,
      ⟨27, 0, 3, (.ref 7), 5, (storeI_box _ _)⟩,
      ⟨27, 0, 2, (.ref 7), 5, (storeI_zero _)⟩],
     flds := [⟨27, 1, 1, fldI1⟩,
      ⟨27, 0, 0, fldI0⟩] }
   Tryz.func52 ⟨hva, hvb, trivial⟩ (by kernel_rfl)
theorem RDivMod_any (va vb : Value) (x y : Int) (i j : Nat) (W : World) (ha : IntAt W va x) (hb : IntAt W vb y) (sx : Sm x i) (sy : Sm y j) (hi : i ≤ 400) (hj : j ≤ 400) (ny : y ≠ 0) : Calls Tryz.prog 52 #[va, vb] W (GivesP (tup3F (intF (x / y)) (intF (x % y)) (eqF (.int .i64 0))) W) := by
  rcases Int.lt_or_le x 0 with nx | nx
  · rcases (show (0 : Int) < ((x.natAbs % y.natAbs : Nat) : Int) ∨ ((x.natAbs % y.natAbs : Nat) : Int) = 0 by omega) with hr | hr
    · rcases (show 0 < y ∨ y < 0 by omega) with hs | hs
      · have ax : (x.natAbs : Int) = (-x) := by omega
        have ay : (y.natAbs : Int) = y := by omega
        obtain ⟨e1, e2⟩ : (-(((x.natAbs / y.natAbs : Nat) : Int) + 1)) = x / y ∧ (y - ((x.natAbs % y.natAbs : Nat) : Int)) = x % y := by
          obtain ⟨Q, R, eQ, eR, k1, k2, k3⟩ := dm_abs x y ny
          rw [eQ, eR]
          rw [eR] at hr
          rw [ax, ay] at k1
          rw [ay] at k3
          refine dm_pos hs ?_ (by omega) (by omega)
          have m1 : (-y) * Q = -(y * Q) := Int.neg_mul y Q
          have m2 : y * (-Q) = -(y * Q) := Int.mul_neg y Q
          have m3 : y * (Q + 1) = y * Q + y := by rw [Int.mul_add, Int.mul_one]
          have m4 : y * (-(Q + 1)) = -(y * Q) - y := by rw [Int.mul_neg, m3]; omega
          omega
        have := RDM_1 va vb W ha hb sx sy hi hj ny nx hr hs
        rw [e1, e2] at this
        exact this
      · have ax : (x.natAbs : Int) = (-x) := by omega
        have ay : (y.natAbs : Int) = (-y) := by omega
        obtain ⟨e1, e2⟩ : (((x.natAbs / y.natAbs : Nat) : Int) + 1) = x / y ∧ (((y.natAbs : Nat) : Int) - ((x.natAbs % y.natAbs : Nat) : Int)) = x % y := by
          obtain ⟨Q, R, eQ, eR, k1, k2, k3⟩ := dm_abs x y ny
          rw [eQ, eR]
          rw [eR] at hr
          rw [ax, ay] at k1
          rw [ay] at k3
          rw [ay]
          refine dm_neg hs ?_ (by omega) (by omega)
          have m1 : (-y) * Q = -(y * Q) := Int.neg_mul y Q
          have m2 : y * (-Q) = -(y * Q) := Int.mul_neg y Q
          have m3 : y * (Q + 1) = y * Q + y := by rw [Int.mul_add, Int.mul_one]
          have m4 : y * (-(Q + 1)) = -(y * Q) - y := by rw [Int.mul_neg, m3]; omega
          omega
        have := RDM_2 va vb W ha hb sx sy hi hj ny nx hr hs
        rw [e1, e2] at this
        exact this
    · rcases (show 0 < y ∨ y < 0 by omega) with hs | hs
      · have ax : (x.natAbs : Int) = (-x) := by omega
        have ay : (y.natAbs : Int) = y := by omega
        obtain ⟨e1, e2⟩ : (-((x.natAbs / y.natAbs : Nat) : Int)) = x / y ∧ ((x.natAbs % y.natAbs : Nat) : Int) = x % y := by
          obtain ⟨Q, R, eQ, eR, k1, k2, k3⟩ := dm_abs x y ny
          rw [eQ, eR]
          rw [eR] at hr
          rw [ax, ay] at k1
          rw [ay] at k3
          refine dm_pos hs ?_ (by omega) (by omega)
          have m1 : (-y) * Q = -(y * Q) := Int.neg_mul y Q
          have m2 : y * (-Q) = -(y * Q) := Int.mul_neg y Q
          have m3 : y * (Q + 1) = y * Q + y := by rw [Int.mul_add, Int.mul_one]
          have m4 : y * (-(Q + 1)) = -(y * Q) - y := by rw [Int.mul_neg, m3]; omega
          omega
        have := RDM_3 va vb W ha hb sx sy hi hj ny nx hr hs
        rw [e1, e2] at this
        exact this
      · have ax : (x.natAbs : Int) = (-x) := by omega
        have ay : (y.natAbs : Int) = (-y) := by omega
        obtain ⟨e1, e2⟩ : ((x.natAbs / y.natAbs : Nat) : Int) = x / y ∧ ((x.natAbs % y.natAbs : Nat) : Int) = x % y := by
          obtain ⟨Q, R, eQ, eR, k1, k2, k3⟩ := dm_abs x y ny
          rw [eQ, eR]
          rw [eR] at hr
          rw [ax, ay] at k1
          rw [ay] at k3
          refine dm_neg hs ?_ (by omega) (by omega)
          have m1 : (-y) * Q = -(y * Q) := Int.neg_mul y Q
          have m2 : y * (-Q) = -(y * Q) := Int.mul_neg y Q
          have m3 : y * (Q + 1) = y * Q + y := by rw [Int.mul_add, Int.mul_one]
          have m4 : y * (-(Q + 1)) = -(y * Q) - y := by rw [Int.mul_neg, m3]; omega
          omega
        have := RDM_4 va vb W ha hb sx sy hi hj ny nx hr hs
        rw [e1, e2] at this
        exact this
  · rcases (show 0 < y ∨ y < 0 by omega) with hs | hs
    · have ax : (x.natAbs : Int) = x := by omega
      have ay : (y.natAbs : Int) = y := by omega
      obtain ⟨e1, e2⟩ : ((x.natAbs / y.natAbs : Nat) : Int) = x / y ∧ ((x.natAbs % y.natAbs : Nat) : Int) = x % y := by
        obtain ⟨Q, R, eQ, eR, k1, k2, k3⟩ := dm_abs x y ny
        rw [eQ, eR]
        rw [ax, ay] at k1
        rw [ay] at k3
        refine dm_pos hs ?_ (by omega) (by omega)
        have m1 : (-y) * Q = -(y * Q) := Int.neg_mul y Q
        have m2 : y * (-Q) = -(y * Q) := Int.mul_neg y Q
        have m3 : y * (Q + 1) = y * Q + y := by rw [Int.mul_add, Int.mul_one]
        have m4 : y * (-(Q + 1)) = -(y * Q) - y := by rw [Int.mul_neg, m3]; omega
        omega
      have := RDM_5 va vb W ha hb sx sy hi hj ny nx hs
      rw [e1, e2] at this
      exact this
    · have ax : (x.natAbs : Int) = x := by omega
      have ay : (y.natAbs : Int) = (-y) := by omega
      obtain ⟨e1, e2⟩ : (-((x.natAbs / y.natAbs : Nat) : Int)) = x / y ∧ ((x.natAbs % y.natAbs : Nat) : Int) = x % y := by
        obtain ⟨Q, R, eQ, eR, k1, k2, k3⟩ := dm_abs x y ny
        rw [eQ, eR]
        rw [ax, ay] at k1
        rw [ay] at k3
        refine dm_neg hs ?_ (by omega) (by omega)
        have m1 : (-y) * Q = -(y * Q) := Int.neg_mul y Q
        have m2 : y * (-Q) = -(y * Q) := Int.mul_neg y Q
        have m3 : y * (Q + 1) = y * Q + y := by rw [Int.mul_add, Int.mul_one]
        have m4 : y * (-(Q + 1)) = -(y * Q) - y := by rw [Int.mul_neg, m3]; omega
        omega
      have := RDM_6 va vb W ha hb sx sy hi hj ny nx hs
      rw [e1, e2] at this
      exact this

end Go.Proofs.YtdofolejfdfocaaGreatDoor
namespace Go.Proofs.YtdofolejfdfocaaGreatDoor
open Go.RowKit

theorem kRDivMod {x y : Int} {i j : Nat} {va vb : Value} {w : World} (ha : (intF x).p va w) (hb : (intF y).p vb w) (sx : Sm x i) (sy : Sm y j) (hi : i ≤ 400) (hj : j ≤ 400) (ny : y ≠ 0) :
    Calls Tryz.prog 52 #[va, vb] w (GivesP (tup3F (intF (x / y)) (intF (x % y)) (eqF (.int .i64 0))) w) := RDivMod_any va vb x y i j w ha hb sx sy hi hj ny
theorem gcd_step (c d : Int) : Int.gcd d (c % d) = Int.gcd c d := by
  rw [Int.gcd_comm c d, Int.emod_def, Int.mul_comm d, Int.gcd_sub_mul_right_right]
theorem emod_lt (c : Int) {d : Int} (nd : d ≠ 0) : (c % d).natAbs < d.natAbs := by
  have h1 := Int.emod_nonneg c nd
  have h2 := Int.emod_lt c nd
  omega
theorem rgcpl_quadrature_quadratureref01_DivMod : Plainly 52 := fun _ _ => by simp [go_sem]
theorem rgcpl_quadrature_quadratureref01_Made : Plainly 41 := fun _ _ => by simp [go_sem]
theorem rgcpl_quadrature_quadratureref01_Sign : Plainly 42 := fun _ _ => by simp [go_sem]
noncomputable def rgc_n0 : Code := bodyOf Tryz.f51
noncomputable def rgc_n1 : Code := cl rgc_n0
noncomputable def rgc_n2 : Code := cr rgc_n0
theorem rgc_e0 : rgc_n0 = .seq rgc_n1 rgc_n2 := by kernel_rfl
noncomputable def rgc_o0 : Array Oper := opsOf rgc_n1
theorem rgc_e1 : rgc_n1 = .region 0 rgc_o0 false := by kernel_rfl
noncomputable def rgc_n3 : Code := cl rgc_n2
noncomputable def rgc_n4 : Code := cr rgc_n2
theorem rgc_e2 : rgc_n2 = .seq rgc_n3 rgc_n4 := by kernel_rfl
noncomputable def rgc_n5 : Code := cl rgc_n3
theorem rgc_e3 : rgc_n3 = .block 0 rgc_n5 := by kernel_rfl
noncomputable def rgc_n6 : Code := cl rgc_n5
theorem rgc_e5 : rgc_n5 = .loop rgc_n6 := by kernel_rfl
noncomputable def rgc_n7 : Code := cl rgc_n6
noncomputable def rgc_n8 : Code := cr rgc_n6
theorem rgc_e6 : rgc_n6 = .seq rgc_n7 rgc_n8 := by kernel_rfl
noncomputable def rgc_n9 : Code := cl rgc_n7
noncomputable def rgc_n10 : Code := cr rgc_n7
theorem rgc_e7 : rgc_n7 = .seq rgc_n9 rgc_n10 := by kernel_rfl
noncomputable def rgc_o1 : Array Oper := opsOf rgc_n9
theorem rgc_e9 : rgc_n9 = .region 1 rgc_o1 false := by kernel_rfl
noncomputable def rgc_n11 : Code := cl rgc_n10
noncomputable def rgc_n12 : Code := cr rgc_n10
theorem rgc_e10 : rgc_n10 = .cond (.tmp 10) rgc_n11 rgc_n12 := by kernel_rfl
theorem rgc_e11 : rgc_n11 = .skip := by kernel_rfl
theorem rgc_e12 : rgc_n12 = .exit 0 := by kernel_rfl
noncomputable def rgc_n13 : Code := cl rgc_n8
theorem rgc_e8 : rgc_n8 = .block 1 rgc_n13 := by kernel_rfl
noncomputable def rgc_n14 : Code := cl rgc_n13
noncomputable def rgc_n15 : Code := cr rgc_n13
theorem rgc_e13 : rgc_n13 = .seq rgc_n14 rgc_n15 := by kernel_rfl
noncomputable def rgc_o2 : Array Oper := opsOf rgc_n14
theorem rgc_e14 : rgc_n14 = .region 2 rgc_o2 false := by kernel_rfl
noncomputable def rgc_o3 : Array Oper := opsOf rgc_n15
theorem rgc_e15 : rgc_n15 = .region 3 rgc_o3 true := by kernel_rfl
noncomputable def rgc_n16 : Code := cl rgc_n4
noncomputable def rgc_n17 : Code := cr rgc_n4
theorem rgc_e4 : rgc_n4 = .seq rgc_n16 rgc_n17 := by kernel_rfl
noncomputable def rgc_o4 : Array Oper := opsOf rgc_n16
theorem rgc_e16 : rgc_n16 = .region 4 rgc_o4 false := by kernel_rfl
theorem rgc_e17 : rgc_n17 = .ret := by kernel_rfl
set_option maxRecDepth 100000 in
theorem rgc_r0 {Q : Exit → Act → World → Prop} {Wb W0 : World} {a0 : Act} {x y : Int} {k : Nat} (_sx : Sm x k) (_sy : Sm y k) (_hk : k ≤ 400)  (hst : St Wb 23 [(0, (intF x)), (1, (intF y))] [] a0 W0)
    (fin : ∀ a w, St Wb 23 [(0, (intF x)), (1, (intF y))] [(2, (boxIF x)), (3, (boxIF y)), (4, zeroIF)] a w → Q .normal a w) : (Code.region 0 rgc_o0 false).wp Tryz.prog Q a0 W0 := by
  have hP : Plan rgc_o0 23 ([⟨2, some 0, none, (boxIF x), (boxIF x)⟩, ⟨3, some 1, none, (boxIF y), (boxIF y)⟩, ⟨4, some 2, none, zeroIF, zeroIF⟩] : List BoxS) [] := ⟨by kernel_rfl, by kernel_rfl, by kernel_rfl, by kernel_rfl, by kernel_rfl, by kernel_rfl⟩
  refine region_st (F := [anyF, anyF, anyF]) hP hst rfl rfl ?_ ?_ fin
  · show Steps rgc_o0 23 Wb W0 a0 _ _ _ 3
    refine steps_snoc (k := 2) ?_ (s_alloc (i := 2) (d := 4) hP 2 _ (isOp_of (by kernel_rfl) : IsOp rgc_o0 2 none (.alloc 27)) (by kernel_rfl) rfl rfl rfl (by kernel_rfl) (by kernel_rfl) (by kernel_rfl) (by kernel_rfl) rfl allocI_run allocI_old)
    refine steps_snoc (k := 1) ?_ (s_box (i := 1) (d := 3) hP 1 _ (isOp_of (by kernel_rfl) : IsOp rgc_o0 1 none (.box 27 (.tmp 1))) (by kernel_rfl) rfl rfl rfl (by kernel_rfl) (by kernel_rfl) (by kernel_rfl) (by kernel_rfl) rfl (src_low hst 1 rfl (by kernel_rfl)) (fun w v h => boxI_run w v h))
    refine steps_snoc (k := 0) ?_ (s_box (i := 0) (d := 2) hP 0 _ (isOp_of (by kernel_rfl) : IsOp rgc_o0 0 none (.box 27 (.tmp 0))) (by kernel_rfl) rfl rfl rfl (by kernel_rfl) (by kernel_rfl) (by kernel_rfl) (by kernel_rfl) rfl (src_low hst 0 rfl (by kernel_rfl)) (fun w v h => boxI_run w v h))
    exact steps_nil
  · intro m a w hI hm
    exact ⟨(low_fact hst 0 rfl (by kernel_rfl) hI), (low_fact hst 1 rfl (by kernel_rfl) hI), trivial⟩
set_option maxRecDepth 100000 in
theorem rgc_r1 {Q : Exit → Act → World → Prop} {Wb W0 : World} {a0 : Act} {x y : Int} {k : Nat} (_sx : Sm x k) (_sy : Sm y k) (_hk : k ≤ 400) {c d : Int} (_sc : Sm c k) (sd : Sm d k) (nd : d = 0) (hst : St Wb 23 [(0, (intF x)), (1, (intF y))] [(2, (boxIF c)), (3, (boxIF d)), (4, zeroIF)] a0 W0)
    (fin : ∀ a w, St Wb 23 [(0, (intF x)), (1, (intF y)), (10, (eqF (.bool false)))] [(2, (boxIF c)), (3, (boxIF d)), (4, zeroIF)] a w → Q .normal a w) : (Code.region 1 rgc_o1 false).wp Tryz.prog Q a0 W0 := by
  have hP : Plan rgc_o1 23 ([⟨2, none, none, (boxIF c), (boxIF c)⟩, ⟨3, none, none, (boxIF d), (boxIF d)⟩, ⟨4, none, none, zeroIF, zeroIF⟩] : List BoxS) [] := ⟨by kernel_rfl, by kernel_rfl, by kernel_rfl, by kernel_rfl, by kernel_rfl, by kernel_rfl⟩
  refine region_st (F := [(intF d), (eqF (.int .i64 (Int.sign d))), (eqF (.bool false))]) hP hst rfl rfl ?_ ?_ fin
  · show Steps rgc_o1 23 Wb W0 a0 _ _ _ 3
    refine steps_snoc (k := 2) ?_ (s_op2 (i := 2) hP (g := none) (isOp_of (by kernel_rfl) : IsOp rgc_o1 2 none (.binOp .neq 3 (.tmp 9) (.const (.int .i64 0)) 3)) (by kernel_rfl) (by kernel_rfl) (grd_none) (src_op (f := (eqF (.int .i64 (Int.sign d)))) 1 (by kernel_rfl) (by kernel_rfl) rfl) (src_const _) (fun ρ w hx hy => h_neqI (r := false) (by simp [nd]) hx hy) rfl)
    refine steps_snoc (k := 1) ?_ (s_call1 (i := 1) hP (g := none) (isOp_of (by kernel_rfl) : IsOp rgc_o1 1 none (.call { callee := .value (.func 42), args := #[.tmp 8], argTypes := #[27] })) (by kernel_rfl) (by kernel_rfl) (grd_none) (src_op (f := (intF d)) 0 (by kernel_rfl) (by kernel_rfl) rfl) rgcpl_quadrature_quadratureref01_Sign (fun w v0 hb h0 => kRSign h0 sd (by first | decide | assumption | omega)) rfl)
    refine steps_snoc (k := 0) ?_ (s_load (i := 0) hP (g := none) (isOp_of (by kernel_rfl) : IsOp rgc_o1 0 none (.load 27 (.tmp 3))) (by kernel_rfl) (by kernel_rfl) (grd_none) (bsrc_old 1 _ rfl rfl rfl (by kernel_rfl) (by kernel_rfl)) (fun w q h => loadI_int w q h) rfl)
    exact steps_nil
  · intro m a w hI hm
    exact ⟨(low_fact hst 0 rfl (by kernel_rfl) hI), (low_fact hst 1 rfl (by kernel_rfl) hI), (out_op hI hm 2 10 _ (by kernel_rfl) rfl), trivial⟩
set_option maxRecDepth 100000 in
theorem rgc_r4 {Q : Exit → Act → World → Prop} {Wb W0 : World} {a0 : Act} {x y : Int} {k : Nat} (_sx : Sm x k) (_sy : Sm y k) (_hk : k ≤ 400) {c d : Int} (sc : Sm c k) (_sd : Sm d k) (hst : St Wb 23 [(0, (intF x)), (1, (intF y)), (10, (eqF (.bool false)))] [(2, (boxIF c)), (3, (boxIF d)), (4, zeroIF)] a0 W0)
    (fin : ∀ a w, St Wb 23 [(0, (intF x)), (1, (intF y)), (10, (eqF (.bool false)))] [(2, (boxIF c)), (3, (boxIF d)), (4, (boxIF ((c.natAbs : Nat) : Int)))] a w → Q .normal a w) : (Code.region 4 rgc_o4 false).wp Tryz.prog Q a0 W0 := by
  have hP : Plan rgc_o4 23 ([⟨2, none, none, (boxIF c), (boxIF c)⟩, ⟨3, none, none, (boxIF d), (boxIF d)⟩, ⟨4, none, some 3, zeroIF, (boxIF ((c.natAbs : Nat) : Int))⟩] : List BoxS) [(0, 2, 1)] := ⟨by kernel_rfl, by kernel_rfl, by kernel_rfl, by kernel_rfl, by kernel_rfl, by kernel_rfl⟩
  refine region_st (F := [anyF, (natF c.natAbs), (intF ((c.natAbs : Nat) : Int)), anyF]) hP hst rfl rfl ?_ ?_ fin
  · show Steps rgc_o4 23 Wb W0 a0 _ _ _ 4
    refine steps_snoc (k := 3) ?_ (s_store (i := 3) 2 _ (isOp_of (by kernel_rfl) : IsOp rgc_o4 3 none (.store 27 (.tmp 4) (.tmp 22))) (by kernel_rfl) rfl rfl rfl (by kernel_rfl) (by kernel_rfl) (by kernel_rfl) (src_op (f := (intF ((c.natAbs : Nat) : Int))) 2 (by kernel_rfl) (by kernel_rfl) rfl) (storeI_zero _))
    refine steps_snoc (k := 2) ?_ (s_call2 (i := 2) hP (g := none) (isOp_of (by kernel_rfl) : IsOp rgc_o4 2 none (.call { callee := .value (.func 41), args := #[.tmp 21, .const (.bool false)], argTypes := #[22, 4] })) (by kernel_rfl) (by kernel_rfl) (grd_none) (src_op (f := (natF c.natAbs)) 1 (by kernel_rfl) (by kernel_rfl) rfl) (src_const _) rgcpl_quadrature_quadratureref01_Made (fun w v0 v1 hb h0 h1 => kRMadeN h0 h1 (Nat.le_trans (len_le_pow sc) (by omega))) rfl)
    refine steps_snoc (k := 1) ?_ (s_load (i := 1) hP (g := none) (isOp_of (by kernel_rfl) : IsOp rgc_o4 1 none (.load 22 (.tmp 20))) (by kernel_rfl) (by kernel_rfl) (grd_none) (bsrc_at 0 (bsrc_old 0 _ rfl rfl rfl (by kernel_rfl) (by kernel_rfl)) (by kernel_rfl) (by kernel_rfl) (by kernel_rfl)) (fun w q h => loadI_mag w q h) rfl)
    refine steps_snoc (k := 0) ?_ (step_addr (i := 0) (d := 20) (g := none) hP (isOp_of (by kernel_rfl) : IsOp rgc_o4 0 none (.fieldAddr 27 (.tmp 2) 1)) (by kernel_rfl) (by kernel_rfl) 1 rfl rfl _ 0 rfl rfl (by kernel_rfl) (grd_none) fldI1)
    exact steps_nil
  · intro m a w hI hm
    exact ⟨(low_fact hst 0 rfl (by kernel_rfl) hI), (low_fact hst 1 rfl (by kernel_rfl) hI), (low_fact hst 2 rfl (by kernel_rfl) hI), trivial⟩
set_option maxRecDepth 100000 in
theorem rgc_r1b {Q : Exit → Act → World → Prop} {Wb W0 : World} {a0 : Act} {x y : Int} {k : Nat} (_sx : Sm x k) (_sy : Sm y k) (_hk : k ≤ 400) {c d : Int} (_sc : Sm c k) (sd : Sm d k) (nd : d ≠ 0) (hst : St Wb 23 [(0, (intF x)), (1, (intF y))] [(2, (boxIF c)), (3, (boxIF d)), (4, zeroIF)] a0 W0)
    (fin : ∀ a w, St Wb 23 [(0, (intF x)), (1, (intF y)), (10, (eqF (.bool true)))] [(2, (boxIF c)), (3, (boxIF d)), (4, zeroIF)] a w → Q .normal a w) : (Code.region 1 rgc_o1 false).wp Tryz.prog Q a0 W0 := by
  have hP : Plan rgc_o1 23 ([⟨2, none, none, (boxIF c), (boxIF c)⟩, ⟨3, none, none, (boxIF d), (boxIF d)⟩, ⟨4, none, none, zeroIF, zeroIF⟩] : List BoxS) [] := ⟨by kernel_rfl, by kernel_rfl, by kernel_rfl, by kernel_rfl, by kernel_rfl, by kernel_rfl⟩
  refine region_st (F := [(intF d), (eqF (.int .i64 (Int.sign d))), (eqF (.bool true))]) hP hst rfl rfl ?_ ?_ fin
  · show Steps rgc_o1 23 Wb W0 a0 _ _ _ 3
    refine steps_snoc (k := 2) ?_ (s_op2 (i := 2) hP (g := none) (isOp_of (by kernel_rfl) : IsOp rgc_o1 2 none (.binOp .neq 3 (.tmp 9) (.const (.int .i64 0)) 3)) (by kernel_rfl) (by kernel_rfl) (grd_none) (src_op (f := (eqF (.int .i64 (Int.sign d)))) 1 (by kernel_rfl) (by kernel_rfl) rfl) (src_const _) (fun ρ w hx hy => h_neqI (r := true) (by simp [Int.sign_eq_zero_iff_zero, nd]) hx hy) rfl)
    refine steps_snoc (k := 1) ?_ (s_call1 (i := 1) hP (g := none) (isOp_of (by kernel_rfl) : IsOp rgc_o1 1 none (.call { callee := .value (.func 42), args := #[.tmp 8], argTypes := #[27] })) (by kernel_rfl) (by kernel_rfl) (grd_none) (src_op (f := (intF d)) 0 (by kernel_rfl) (by kernel_rfl) rfl) rgcpl_quadrature_quadratureref01_Sign (fun w v0 hb h0 => kRSign h0 sd (by first | decide | assumption | omega)) rfl)
    refine steps_snoc (k := 0) ?_ (s_load (i := 0) hP (g := none) (isOp_of (by kernel_rfl) : IsOp rgc_o1 0 none (.load 27 (.tmp 3))) (by kernel_rfl) (by kernel_rfl) (grd_none) (bsrc_old 1 _ rfl rfl rfl (by kernel_rfl) (by kernel_rfl)) (fun w q h => loadI_int w q h) rfl)
    exact steps_nil
  · intro m a w hI hm
    exact ⟨(low_fact hst 0 rfl (by kernel_rfl) hI), (low_fact hst 1 rfl (by kernel_rfl) hI), (out_op hI hm 2 10 _ (by kernel_rfl) rfl), trivial⟩
set_option maxRecDepth 100000 in
theorem rgc_r2 {Q : Exit → Act → World → Prop} {Wb W0 : World} {a0 : Act} {x y : Int} {k : Nat} (_sx : Sm x k) (_sy : Sm y k) (_hk : k ≤ 400) {c d : Int} (sc : Sm c k) (sd : Sm d k) (nd : d ≠ 0) (hst : St Wb 23 [(0, (intF x)), (1, (intF y)), (10, (eqF (.bool true)))] [(2, (boxIF c)), (3, (boxIF d)), (4, zeroIF)] a0 W0)
    (fin : ∀ a w, St Wb 23 [(0, (intF x)), (1, (intF y)), (10, (eqF (.bool true)))] [(2, (boxIF c)), (3, (boxIF d)), (4, zeroIF), (5, (boxIF (c / d))), (6, (boxIF (c % d)))] a w → Q .normal a w) : (Code.region 2 rgc_o2 false).wp Tryz.prog Q a0 W0 := by
  have hP : Plan rgc_o2 23 ([⟨2, none, none, (boxIF c), (boxIF c)⟩, ⟨3, none, none, (boxIF d), (boxIF d)⟩, ⟨4, none, none, zeroIF, zeroIF⟩, ⟨5, some 7, some 9, zeroIF, (boxIF (c / d))⟩, ⟨6, some 8, some 10, zeroIF, (boxIF (c % d))⟩] : List BoxS) [] := ⟨by kernel_rfl, by kernel_rfl, by kernel_rfl, by kernel_rfl, by kernel_rfl, by kernel_rfl⟩
  refine region_st (F := [(intF c), (intF d), (tup3F (intF (c / d)) (intF (c % d)) (eqF (.int .i64 0))), (tup3F (intF (c / d)) (intF (c % d)) (eqF (.int .i64 0))), (intF (c / d)), (intF (c % d)), (eqF (.int .i64 0)), anyF, anyF, anyF, anyF, (eqF (.int .i64 0))]) hP hst rfl rfl ?_ ?_ fin
  · show Steps rgc_o2 23 Wb W0 a0 _ _ _ 12
    refine steps_snoc (k := 11) ?_ (s_assign (i := 11) hP (g := none) (isOp_of (by kernel_rfl) : IsOp rgc_o2 11 none (.assign (.tmp 17))) (by kernel_rfl) (by kernel_rfl) (grd_none) (src_op (f := (eqF (.int .i64 0))) 6 (by kernel_rfl) (by kernel_rfl) rfl) rfl)
    refine steps_snoc (k := 10) ?_ (s_store (i := 10) 4 _ (isOp_of (by kernel_rfl) : IsOp rgc_o2 10 none (.store 27 (.tmp 6) (.tmp 16))) (by kernel_rfl) rfl rfl rfl (by kernel_rfl) (by kernel_rfl) (by kernel_rfl) (src_op (f := (intF (c % d))) 5 (by kernel_rfl) (by kernel_rfl) rfl) (storeI_zero _))
    refine steps_snoc (k := 9) ?_ (s_store (i := 9) 3 _ (isOp_of (by kernel_rfl) : IsOp rgc_o2 9 none (.store 27 (.tmp 5) (.tmp 15))) (by kernel_rfl) rfl rfl rfl (by kernel_rfl) (by kernel_rfl) (by kernel_rfl) (src_op (f := (intF (c / d))) 4 (by kernel_rfl) (by kernel_rfl) rfl) (storeI_zero _))
    refine steps_snoc (k := 8) ?_ (s_alloc (i := 8) (d := 6) hP 4 _ (isOp_of (by kernel_rfl) : IsOp rgc_o2 8 none (.alloc 27)) (by kernel_rfl) rfl rfl rfl (by kernel_rfl) (by kernel_rfl) (by kernel_rfl) (by kernel_rfl) rfl allocI_run allocI_old)
    refine steps_snoc (k := 7) ?_ (s_alloc (i := 7) (d := 5) hP 3 _ (isOp_of (by kernel_rfl) : IsOp rgc_o2 7 none (.alloc 27)) (by kernel_rfl) rfl rfl rfl (by kernel_rfl) (by kernel_rfl) (by kernel_rfl) (by kernel_rfl) rfl allocI_run allocI_old)
    refine steps_snoc (k := 6) ?_ (s_op1 (i := 6) hP (g := none) (isOp_of (by kernel_rfl) : IsOp rgc_o2 6 none (.extract (.tmp 11) 2)) (by kernel_rfl) (by kernel_rfl) (grd_none) (src_op (f := (tup3F (intF (c / d)) (intF (c % d)) (eqF (.int .i64 0)))) 3 (by kernel_rfl) (by kernel_rfl) rfl) (fun ρ w hx => h_ext3_2 hx) rfl)
    refine steps_snoc (k := 5) ?_ (s_op1 (i := 5) hP (g := none) (isOp_of (by kernel_rfl) : IsOp rgc_o2 5 none (.extract (.tmp 11) 1)) (by kernel_rfl) (by kernel_rfl) (grd_none) (src_op (f := (tup3F (intF (c / d)) (intF (c % d)) (eqF (.int .i64 0)))) 3 (by kernel_rfl) (by kernel_rfl) rfl) (fun ρ w hx => h_ext3_1 hx) rfl)
    refine steps_snoc (k := 4) ?_ (s_op1 (i := 4) hP (g := none) (isOp_of (by kernel_rfl) : IsOp rgc_o2 4 none (.extract (.tmp 11) 0)) (by kernel_rfl) (by kernel_rfl) (grd_none) (src_op (f := (tup3F (intF (c / d)) (intF (c % d)) (eqF (.int .i64 0)))) 3 (by kernel_rfl) (by kernel_rfl) rfl) (fun ρ w hx => h_ext3_0 hx) rfl)
    refine steps_snoc (k := 3) ?_ (s_move (i := 3) hP (g := none) (isOp_of (by kernel_rfl) : IsOp rgc_o2 3 none (.move (.tmp 14))) (by kernel_rfl) (by kernel_rfl) (grd_none) (src_op (f := (tup3F (intF (c / d)) (intF (c % d)) (eqF (.int .i64 0)))) 2 (by kernel_rfl) (by kernel_rfl) rfl) rfl)
    refine steps_snoc (k := 2) ?_ (s_call2 (i := 2) hP (g := none) (isOp_of (by kernel_rfl) : IsOp rgc_o2 2 none (.call { callee := .value (.func 52), args := #[.tmp 12, .tmp 13], argTypes := #[27, 27] })) (by kernel_rfl) (by kernel_rfl) (grd_none) (src_op (f := (intF c)) 0 (by kernel_rfl) (by kernel_rfl) rfl) (src_op (f := (intF d)) 1 (by kernel_rfl) (by kernel_rfl) rfl) rgcpl_quadrature_quadratureref01_DivMod (fun w v0 v1 hb h0 h1 => kRDivMod h0 h1 sc sd (by first | decide | assumption | omega) (by first | decide | assumption | omega) nd) rfl)
    refine steps_snoc (k := 1) ?_ (s_load (i := 1) hP (g := none) (isOp_of (by kernel_rfl) : IsOp rgc_o2 1 none (.load 27 (.tmp 3))) (by kernel_rfl) (by kernel_rfl) (grd_none) (bsrc_old 1 _ rfl rfl rfl (by kernel_rfl) (by kernel_rfl)) (fun w q h => loadI_int w q h) rfl)
    refine steps_snoc (k := 0) ?_ (s_load (i := 0) hP (g := none) (isOp_of (by kernel_rfl) : IsOp rgc_o2 0 none (.load 27 (.tmp 2))) (by kernel_rfl) (by kernel_rfl) (grd_none) (bsrc_old 0 _ rfl rfl rfl (by kernel_rfl) (by kernel_rfl)) (fun w q h => loadI_int w q h) rfl)
    exact steps_nil
  · intro m a w hI hm
    exact ⟨(low_fact hst 0 rfl (by kernel_rfl) hI), (low_fact hst 1 rfl (by kernel_rfl) hI), (low_fact hst 2 rfl (by kernel_rfl) hI), trivial⟩
set_option maxRecDepth 100000 in
theorem rgc_r3 {Q : Exit → Act → World → Prop} {Wb W0 : World} {a0 : Act} {x y : Int} {k : Nat} (_sx : Sm x k) (_sy : Sm y k) (_hk : k ≤ 400) {c d : Int} (_sc : Sm c k) (_sd : Sm d k) (_nd : d ≠ 0) (hst : St Wb 23 [(0, (intF x)), (1, (intF y)), (10, (eqF (.bool true)))] [(2, (boxIF c)), (3, (boxIF d)), (4, zeroIF), (5, (boxIF (c / d))), (6, (boxIF (c % d)))] a0 W0)
    (fin : ∀ a w, St Wb 23 [(0, (intF x)), (1, (intF y)), (10, (eqF (.bool true)))] [(2, (boxIF d)), (3, (boxIF (c % d))), (4, zeroIF), (5, (boxIF (c / d))), (6, (boxIF (c % d)))] a w → Q .normal a w) : (Code.region 3 rgc_o3 true).wp Tryz.prog Q a0 W0 := by
  have hP : Plan rgc_o3 23 ([⟨2, none, some 2, (boxIF c), (boxIF d)⟩, ⟨3, none, some 3, (boxIF d), (boxIF (c % d))⟩, ⟨4, none, none, zeroIF, zeroIF⟩, ⟨5, none, none, (boxIF (c / d)), (boxIF (c / d))⟩, ⟨6, none, none, (boxIF (c % d)), (boxIF (c % d))⟩] : List BoxS) [] := ⟨by kernel_rfl, by kernel_rfl, by kernel_rfl, by kernel_rfl, by kernel_rfl, by kernel_rfl⟩
  refine region_st (F := [(intF d), (intF (c % d)), anyF, anyF]) hP hst rfl rfl ?_ ?_ fin
  · show Steps rgc_o3 23 Wb W0 a0 _ _ _ 4
    refine steps_snoc (k := 3) ?_ (s_store (i := 3) 1 _ (isOp_of (by kernel_rfl) : IsOp rgc_o3 3 none (.store 27 (.tmp 3) (.tmp 19))) (by kernel_rfl) rfl rfl rfl (by kernel_rfl) (by kernel_rfl) (by kernel_rfl) (src_op (f := (intF (c % d))) 1 (by kernel_rfl) (by kernel_rfl) rfl) (storeI_box _ _))
    refine steps_snoc (k := 2) ?_ (s_store (i := 2) 0 _ (isOp_of (by kernel_rfl) : IsOp rgc_o3 2 none (.store 27 (.tmp 2) (.tmp 18))) (by kernel_rfl) rfl rfl rfl (by kernel_rfl) (by kernel_rfl) (by kernel_rfl) (src_op (f := (intF d)) 0 (by kernel_rfl) (by kernel_rfl) rfl) (storeI_box _ _))
    refine steps_snoc (k := 1) ?_ (s_load (i := 1) hP (g := none) (isOp_of (by kernel_rfl) : IsOp rgc_o3 1 none (.load 27 (.tmp 6))) (by kernel_rfl) (by kernel_rfl) (grd_none) (bsrc_old 4 _ rfl rfl rfl (by kernel_rfl) (by kernel_rfl)) (fun w q h => loadI_int w q h) rfl)
    refine steps_snoc (k := 0) ?_ (s_load (i := 0) hP (g := none) (isOp_of (by kernel_rfl) : IsOp rgc_o3 0 none (.load 27 (.tmp 3))) (by kernel_rfl) (by kernel_rfl) (grd_none) (bsrc_old 1 _ rfl rfl rfl (by kernel_rfl) (by kernel_rfl)) (fun w q h => loadI_int w q h) rfl)
    exact steps_nil
  · intro m a w hI hm
    exact ⟨(low_fact hst 0 rfl (by kernel_rfl) hI), (low_fact hst 1 rfl (by kernel_rfl) hI), (low_fact hst 2 rfl (by kernel_rfl) hI), trivial⟩
set_option maxRecDepth 100000 in
theorem RGcd_any (va vb : Value) (x y : Int) (k : Nat) (W : World) (ha : IntAt W va x) (hb : IntAt W vb y) (sx : Sm x k) (sy : Sm y k) (hk : k ≤ 400) :
    Calls Tryz.prog 51 #[va, vb] W (GivesP (intF ((Int.gcd x y : Nat) : Int)) W) := by
  refine calls_stW (S := [(0, (intF x)), (1, (intF y))]) Tryz.func51 (by kernel_rfl) Tryz.ntmps51 (by simp) (fun x hx => ?_) fun a w hst => ?_
  · simp only [List.mem_cons, List.not_mem_nil, or_false] at hx
    rcases hx with rfl | rfl
    · exact ⟨_, rfl, ha⟩
    · exact ⟨_, rfl, hb⟩
  show Code.wp _ rgc_n0 _ a w
  rw [rgc_e0]
  refine wp_seq ?_
  rw [rgc_e1]
  refine rgc_r0 sx sy hk hst ?_
  clear hst
  intro a w hst
  show Code.wp _ rgc_n2 _ a w
  rw [rgc_e2]
  refine wp_seq ?_
  rw [rgc_e3]
  refine wp_block ?_
  show Code.wp _ rgc_n5 _ a w
  rw [rgc_e5]
  refine loop_ghost (fun (p : Int × Int) a w => St W 23 [(0, (intF x)), (1, (intF y))] [(2, (boxIF p.1)), (3, (boxIF p.2)), (4, zeroIF)] a w ∧ Int.gcd p.1 p.2 = Int.gcd x y ∧ Sm p.1 k ∧ Sm p.2 k) (fun p => p.2.natAbs) ?_ (x, y) ⟨hst, rfl, sx, sy⟩
  rintro ⟨c, d⟩ a w ⟨hst, hg, sc, sd⟩
  simp only [] at hst hg sc sd
  show Code.wp _ rgc_n6 _ a w
  by_cases nd : d = 0
  · rw [rgc_e6]
    refine wp_seq ?_
    rw [rgc_e7]
    refine wp_seq ?_
    rw [rgc_e9]
    refine rgc_r1 sx sy hk sc sd nd hst ?_
    clear hst
    intro a w hst
    show Code.wp _ rgc_n10 _ a w
    rw [rgc_e10]
    refine wp_cond_false (st_bool hst 2 rfl) ?_
    show Code.wp _ rgc_n12 _ a w
    rw [rgc_e12]
    refine wp_exit ?_
    have e : c.natAbs = Int.gcd x y := by rw [← hg, nd, Int.gcd_zero_right]
    show Code.wp _ rgc_n4 _ a w
    rw [rgc_e4]
    refine wp_seq ?_
    rw [rgc_e16]
    refine rgc_r4 sx sy hk sc sd hst ?_
    clear hst
    intro a w hst
    show Code.wp _ rgc_n17 _ a w
    rw [rgc_e17]
    refine wp_ret ?_
    rw [e] at hst
    exact ret_boxI hst rfl 2 rfl
  · rw [rgc_e6]
    refine wp_seq ?_
    rw [rgc_e7]
    refine wp_seq ?_
    rw [rgc_e9]
    refine rgc_r1b sx sy hk sc sd nd hst ?_
    clear hst
    intro a w hst
    show Code.wp _ rgc_n10 _ a w
    rw [rgc_e10]
    refine wp_cond_true (st_bool hst 2 rfl) ?_
    show Code.wp _ rgc_n11 _ a w
    rw [rgc_e11]
    refine wp_skip ?_
    show Code.wp _ rgc_n8 _ a w
    rw [rgc_e8]
    refine wp_block ?_
    show Code.wp _ rgc_n13 _ a w
    rw [rgc_e13]
    refine wp_seq ?_
    rw [rgc_e14]
    refine rgc_r2 sx sy hk sc sd nd hst ?_
    clear hst
    intro a w hst
    show Code.wp _ rgc_n15 _ a w
    rw [rgc_e15]
    refine rgc_r3 sx sy hk sc sd nd hst ?_
    clear hst
    intro a w hst
    exact ⟨(d, c % d), ⟨((hst.to (S' := [(0, (intF x)), (1, (intF y))]) ⟨hst.slots.get (k := 0) rfl, hst.slots.get (k := 1) rfl, trivial⟩).firstB 3), by show Int.gcd d (c % d) = _; rw [← hg]; exact gcd_step c d, sd, sd.mod nd⟩, by show (c % d).natAbs < d.natAbs; exact emod_lt c nd⟩
end Go.Proofs.YtdofolejfdfocaaGreatDoor
