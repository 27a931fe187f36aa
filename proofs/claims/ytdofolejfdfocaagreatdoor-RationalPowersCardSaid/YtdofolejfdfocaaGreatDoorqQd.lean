/- The reference's functions on rational numbers, and Div (written by wip/tools/gen_rat.py). -/
import Derived.Test.YtdofolejfdfocaaGreatDoorqQ2
import Derived.Test.YtdofolejfdfocaaGreatDoorqPow
namespace Go.Proofs.YtdofolejfdfocaaGreatDoor
open Go.RowKit

set_option maxRecDepth 100000 in
theorem OfP_pos {x y : Int} {i j : Nat} (va : Value) (vb : Value) (W : World) (hva : (intF x).p va W) (hvb : (intF y).p vb W) (sx : Sm x i) (sy : Sm y j) (_hi : i ≤ 300) (_hj : j ≤ 300) (ny : 0 < y) : Calls Tryz.prog 13 #[va, vb] W (GivesP (tup2F (ratF (Rat.divInt x y)) (eqF (.int .i64 0))) W) := by
  let E : List PF := [(intF x), (intF y), (eqF (.int .i64 (Int.sign y))), (intF ((Int.gcd x y : Nat) : Int)), (intF (x / ((Int.gcd x y : Nat) : Int))), (intF (x % ((Int.gcd x y : Nat) : Int))), (intF (y / ((Int.gcd x y : Nat) : Int))), (intF (y % ((Int.gcd x y : Nat) : Int))), (ratF (Rat.divInt x y))]
  let EB : List CF := [(boxIF x), (boxIF y), zeroQF, zeroIF, (boxIF ((Int.gcd x y : Nat) : Int)), (boxIF (x / ((Int.gcd x y : Nat) : Int))), (boxIF (x % ((Int.gcd x y : Nat) : Int))), (boxIF (y / ((Int.gcd x y : Nat) : Int))), (boxIF (y % ((Int.gcd x y : Nat) : Int))), (boxQ (Rat.divInt x y))]
  exact auto_calls (E := E) (EB := EB) (fs := [(.ref 0), (.ref 1)]) (r := (.tup2 (.ref 8) (.int .i64 0)))
   { pures := [p2 (.bin .eql 3 3) (.ref 2) (.int .i64 0) (.bool false) fun _ _ _ _ _ hx hy => h_eqlI (r := false) (by rw [Int.sign_eq_one_of_pos ny]; rfl) hx hy,
      p2 (.bin .lss 3 3) (.ref 2) (.int .i64 0) (.bool false) fun _ _ _ _ _ hx hy => h_lss (r := false) (by rw [Int.sign_eq_one_of_pos ny]; rfl) hx hy,
      p2 (.bld 29 [0, 1]) (.ref 4) (.ref 6) (.ref 8) fun _ _ _ _ _ hx hy => h_buildQ_eq (of_pos x y ny).1.symm (of_pos x y ny).2.symm hx hy],
     calls := [c1 42 (.ref 1) (.ref 2) fun w v0 hb h0 => kRSign h0 sy (by first | decide | assumption | omega),
      c2 51 (.ref 0) (.ref 1) (.ref 3) fun w v0 v1 hb h0 h1 => kRGcd2 h0 h1 sx sy (by first | decide | assumption | omega) (by first | decide | assumption | omega),
      c2 52 (.ref 0) (.ref 3) (.tup3 (.ref 4) (.ref 5) (.int .i64 0)) fun w v0 v1 hb h0 h1 => kRDivMod h0 h1 sx (sm_gcdI sx sy) (by first | decide | assumption | omega) (by first | decide | assumption | omega) (gcd_ne x (by omega)),
      c2 52 (.ref 1) (.ref 3) (.tup3 (.ref 6) (.ref 7) (.int .i64 0)) fun w v0 v1 hb h0 h1 => kRDivMod h0 h1 sy (sm_gcdI sx sy) (by first | decide | assumption | omega) (by first | decide | assumption | omega) (gcd_ne x (by omega))],
     loads := [⟨27, 0, 1, (.ref 1), fun w q h => loadI_int w q h⟩,
      ⟨27, 0, 0, (.ref 0), fun w q h => loadI_int w q h⟩,
      ⟨27, 0, 4, (.ref 3), fun w q h => loadI_int w q h⟩,
      ⟨27, 0, 5, (.ref 4), fun w q h => loadI_int w q h⟩,
      ⟨27, 0, 7, (.ref 6), fun w q h => loadI_int w q h⟩,
      ⟨29, 0, 9, (.ref 8), fun w q h => loadQ_all w q h⟩],
     allocs := [⟨29, 2, _, allocQ_run, allocQ_old⟩,
      ⟨27, 3, _, allocI_run, allocI_old⟩],
     boxes := [⟨27, (.ref 0), 0, fun w v h => boxI_run w v h⟩,
      ⟨27, (.ref 1), 1, fun w v h => boxI_run w v h⟩],
     stores := [⟨27, 0, 3, (.ref 3), 4, (storeI_zero _)⟩,
      ⟨27, 0, 3, (.ref 4), 5, (storeI_zero _)⟩,
      ⟨27, 0, 3, (.ref 5), 6, (storeI_zero _)⟩,
      ⟨27, 0, 3, (.ref 6), 7, (storeI_zero _)⟩,
      ⟨27, 0, 3, (.ref 7), 8, (storeI_zero _)⟩,
      ⟨29, 0, 2, (.ref 8), 9, storeQ_zero⟩] }
   Tryz.func13 ⟨hva, hvb, trivial⟩ (by kernel_rfl)
set_option maxRecDepth 100000 in
theorem OfP_neg {x y : Int} {i j : Nat} (va : Value) (vb : Value) (W : World) (hva : (intF x).p va W) (hvb : (intF y).p vb W) (sx : Sm x i) (sy : Sm y j) (_hi : i ≤ 300) (_hj : j ≤ 300) (ny : y < 0) : Calls Tryz.prog 13 #[va, vb] W (GivesP (tup2F (ratF (Rat.divInt x y)) (eqF (.int .i64 0))) W) := by
  let E : List PF := [(intF x), (intF y), (eqF (.int .i64 (Int.sign y))), (intF (-x)), (intF (-y)), (intF ((Int.gcd (-x) (-y) : Nat) : Int)), (intF ((-x) / ((Int.gcd (-x) (-y) : Nat) : Int))), (intF ((-x) % ((Int.gcd (-x) (-y) : Nat) : Int))), (intF ((-y) / ((Int.gcd (-x) (-y) : Nat) : Int))), (intF ((-y) % ((Int.gcd (-x) (-y) : Nat) : Int))), (ratF (Rat.divInt x y))]
  let EB : List CF := [(boxIF x), (boxIF y), zeroQF, (boxIF (-x)), (boxIF (-y)), zeroIF, (boxIF ((Int.gcd (-x) (-y) : Nat) : Int)), (boxIF ((-x) / ((Int.gcd (-x) (-y) : Nat) : Int))), (boxIF ((-x) % ((Int.gcd (-x) (-y) : Nat) : Int))), (boxIF ((-y) / ((Int.gcd (-x) (-y) : Nat) : Int))), (boxIF ((-y) % ((Int.gcd (-x) (-y) : Nat) : Int))), (boxQ (Rat.divInt x y))]
  exact auto_calls (E := E) (EB := EB) (fs := [(.ref 0), (.ref 1)]) (r := (.tup2 (.ref 10) (.int .i64 0)))
   { pures := [p2 (.bin .eql 3 3) (.ref 2) (.int .i64 0) (.bool false) fun _ _ _ _ _ hx hy => h_eqlI (r := false) (by rw [Int.sign_eq_neg_one_of_neg ny]; rfl) hx hy,
      p2 (.bin .lss 3 3) (.ref 2) (.int .i64 0) (.bool true) fun _ _ _ _ _ hx hy => h_lss (r := true) (by rw [Int.sign_eq_neg_one_of_neg ny]; rfl) hx hy,
      p2 (.bld 29 [0, 1]) (.ref 6) (.ref 8) (.ref 10) fun _ _ _ _ _ hx hy => h_buildQ_eq (of_neg2 x y ny).1.symm (of_neg2 x y ny).2.symm hx hy],
     calls := [c1 42 (.ref 1) (.ref 2) fun w v0 hb h0 => kRSign h0 sy (by first | decide | assumption | omega),
      c1 50 (.ref 0) (.ref 3) fun w v0 hb h0 => kRNeg h0 sx (by first | decide | assumption | omega),
      c1 50 (.ref 1) (.ref 4) fun w v0 hb h0 => kRNeg h0 sy (by first | decide | assumption | omega),
      c2 51 (.ref 3) (.ref 4) (.ref 5) fun w v0 v1 hb h0 h1 => kRGcd2 h0 h1 sx.neg sy.neg (by first | decide | assumption | omega) (by first | decide | assumption | omega),
      c2 52 (.ref 3) (.ref 5) (.tup3 (.ref 6) (.ref 7) (.int .i64 0)) fun w v0 v1 hb h0 h1 => kRDivMod h0 h1 sx.neg (sm_gcdI sx.neg sy.neg) (by first | decide | assumption | omega) (by first | decide | assumption | omega) (gcd_ne (-x) (by omega)),
      c2 52 (.ref 4) (.ref 5) (.tup3 (.ref 8) (.ref 9) (.int .i64 0)) fun w v0 v1 hb h0 h1 => kRDivMod h0 h1 sy.neg (sm_gcdI sx.neg sy.neg) (by first | decide | assumption | omega) (by first | decide | assumption | omega) (gcd_ne (-x) (by omega))],
     loads := [⟨27, 0, 1, (.ref 1), fun w q h => loadI_int w q h⟩,
      ⟨27, 0, 0, (.ref 0), fun w q h => loadI_int w q h⟩,
      ⟨27, 0, 3, (.ref 3), fun w q h => loadI_int w q h⟩,
      ⟨27, 0, 4, (.ref 4), fun w q h => loadI_int w q h⟩,
      ⟨27, 0, 6, (.ref 5), fun w q h => loadI_int w q h⟩,
      ⟨27, 0, 7, (.ref 6), fun w q h => loadI_int w q h⟩,
      ⟨27, 0, 9, (.ref 8), fun w q h => loadI_int w q h⟩,
      ⟨29, 0, 11, (.ref 10), fun w q h => loadQ_all w q h⟩],
     allocs := [⟨29, 2, _, allocQ_run, allocQ_old⟩,
      ⟨27, 5, _, allocI_run, allocI_old⟩],
     boxes := [⟨27, (.ref 0), 0, fun w v h => boxI_run w v h⟩,
      ⟨27, (.ref 1), 1, fun w v h => boxI_run w v h⟩],
     stores := [⟨27, 0, 0, (.ref 3), 3, (storeI_box _ _)⟩,
      ⟨27, 0, 1, (.ref 4), 4, (storeI_box _ _)⟩,
      ⟨27, 0, 5, (.ref 5), 6, (storeI_zero _)⟩,
      ⟨27, 0, 5, (.ref 6), 7, (storeI_zero _)⟩,
      ⟨27, 0, 5, (.ref 7), 8, (storeI_zero _)⟩,
      ⟨27, 0, 5, (.ref 8), 9, (storeI_zero _)⟩,
      ⟨27, 0, 5, (.ref 9), 10, (storeI_zero _)⟩,
      ⟨29, 0, 2, (.ref 10), 11, storeQ_zero⟩] }
   Tryz.func13 ⟨hva, hvb, trivial⟩ (by kernel_rfl)
theorem kPOf {x y : Int} {i j : Nat} {va vb : Value} {w : World} (ha : (intF x).p va w) (hb : (intF y).p vb w) (sx : Sm x i) (sy : Sm y j) (hi : i ≤ 300) (hj : j ≤ 300) (ny : y ≠ 0) : Calls Tryz.prog 13 #[va, vb] w (GivesP (tup2F (ratF (Rat.divInt x y)) (eqF (.int .i64 0))) w) := by
  rcases Int.lt_or_gt_of_ne ny with h | h
  · exact OfP_neg va vb w ha hb sx sy hi hj h
  · exact OfP_pos va vb w ha hb sx sy hi hj h
set_option maxRecDepth 100000 in
theorem ofP_any {x y : Int} {i j : Nat} (va : Value) (vb : Value) (W : World) (hva : (intF x).p va W) (hvb : (intF y).p vb W) (sx : Sm x i) (sy : Sm y j) (_hi : i ≤ 300) (_hj : j ≤ 300) (ny : y ≠ 0) : Calls Tryz.prog 56 #[va, vb] W (GivesP (ratF (Rat.divInt x y)) W) := by
  let E : List PF := [(intF x), (intF y), (ratF (Rat.divInt x y))]
  let EB : List CF := [(boxIF x), (boxIF y), zeroQF, (boxQ (Rat.divInt x y))]
  exact auto_calls (E := E) (EB := EB) (fs := [(.ref 0), (.ref 1)]) (r := (.ref 2))
   { calls := [c2 13 (.ref 0) (.ref 1) (.tup2 (.ref 2) (.int .i64 0)) fun w v0 v1 hb h0 h1 => kPOf h0 h1 sx sy (by first | decide | assumption | omega) (by first | decide | assumption | omega) ny],
     loads := [⟨27, 0, 0, (.ref 0), fun w q h => loadI_int w q h⟩,
      ⟨27, 0, 1, (.ref 1), fun w q h => loadI_int w q h⟩,
      ⟨29, 0, 3, (.ref 2), fun w q h => loadQ_all w q h⟩],
     allocs := [⟨29, 2, _, allocQ_run, allocQ_old⟩],
     boxes := [⟨27, (.ref 0), 0, fun w v h => boxI_run w v h⟩,
      ⟨27, (.ref 1), 1, fun w v h => boxI_run w v h⟩],
     stores := [⟨29, 0, 2, (.ref 2), 3, storeQ_zero⟩] }
   Tryz.func56 ⟨hva, hvb, trivial⟩ (by kernel_rfl)
set_option maxRecDepth 100000 in
theorem kPWhole0 {z : Int} (W : World) (hz0 : -9223372036854775808 ≤ z) (hz1 : z ≤ 9223372036854775807) : Calls Tryz.prog 26 #[.int .i64 z] W (GivesP (ratF (z : Rat)) W) := by
  let E : List PF := [(eqF (.int .i64 z)), (intF z), (intF 1), (ratF ((z : Int) : Rat))]
  let EB : List CF := [zeroQF, (boxQ ((z : Int) : Rat))]
  exact auto_calls (E := E) (EB := EB) (fs := [(.ref 0)]) (r := (.ref 3))
   { pures := [p2 (.bld 29 [0, 1]) (.ref 1) (.ref 2) (.ref 3) fun _ _ _ _ _ hx hy => h_buildQ_eq (wholeQ_eq z).1.symm (wholeQ_eq z).2.symm hx hy],
     calls := [c1 44 (.ref 0) (.ref 1) fun w v0 hb h0 => kROf z hz0 hz1 h0,
      c1 44 (.int .i64 1) (.ref 2) fun w v0 hb h0 => kROf 1 (by omega) (by omega) h0],
     loads := [⟨29, 0, 1, (.ref 3), fun w q h => loadQ_all w q h⟩],
     allocs := [⟨29, 0, _, allocQ_run, allocQ_old⟩],
     stores := [⟨29, 0, 0, (.ref 3), 1, storeQ_zero⟩] }
   Tryz.func26 ⟨rfl, trivial⟩ (by kernel_rfl)
set_option maxRecDepth 100000 in
theorem SameP_t {x y : Rat} {i j : Nat} (va : Value) (vb : Value) (W : World) (hva : (ratF x).p va W) (hvb : (ratF y).p vb W) (sx : RSm x i) (sy : RSm y j) (_hi : i ≤ 600) (_hj : j ≤ 600) (e1 : x.num = y.num) (e2 : (x.den : Int) = (y.den : Int)) : Calls Tryz.prog 16 #[va, vb] W (GivesP (eqF (.bool true)) W) := by
  let E : List PF := [(ratF x), (ratF y), (intF x.num), (intF y.num), (intF (x.den : Int)), (intF (y.den : Int))]
  let EB : List CF := [(boxQ x), (boxQ y)]
  exact auto_calls (E := E) (EB := EB) (fs := [(.ref 0), (.ref 1)]) (r := (.bool true))
   { calls := [c2 31 (.ref 2) (.ref 3) (.bool true) fun w v0 v1 hb h0 h1 => kSameT h0 h1 sx.1 sy.1 (by first | decide | assumption | omega) (by first | decide | assumption | omega) e1,
      c2 31 (.ref 4) (.ref 5) (.bool true) fun w v0 v1 hb h0 h1 => kSameT h0 h1 sx.2 sy.2 (by first | decide | assumption | omega) (by first | decide | assumption | omega) e2],
     loads := [⟨27, 0, 0, (.ref 2), fun w q h => loadQ_0 w q h⟩,
      ⟨27, 0, 1, (.ref 3), fun w q h => loadQ_0 w q h⟩,
      ⟨27, 2, 0, (.ref 4), fun w q h => loadQ_2 w q h⟩,
      ⟨27, 2, 1, (.ref 5), fun w q h => loadQ_2 w q h⟩],
     boxes := [⟨29, (.ref 0), 0, fun w v h => boxQ_run w v h⟩,
      ⟨29, (.ref 1), 1, fun w v h => boxQ_run w v h⟩],
     flds := [⟨29, 0, 0, fldQ0⟩,
      ⟨29, 1, 2, fldQ1⟩] }
   Tryz.func16 ⟨hva, hvb, trivial⟩ (by kernel_rfl)
set_option maxRecDepth 100000 in
theorem SameP_n {x y : Rat} {i j : Nat} (va : Value) (vb : Value) (W : World) (hva : (ratF x).p va W) (hvb : (ratF y).p vb W) (sx : RSm x i) (sy : RSm y j) (_hi : i ≤ 600) (_hj : j ≤ 600) (e1 : x.num ≠ y.num) : Calls Tryz.prog 16 #[va, vb] W (GivesP (eqF (.bool false)) W) := by
  let E : List PF := [(ratF x), (ratF y), (intF x.num), (intF y.num)]
  let EB : List CF := [(boxQ x), (boxQ y)]
  exact auto_calls (E := E) (EB := EB) (fs := [(.ref 0), (.ref 1)]) (r := (.bool false))
   { calls := [c2 31 (.ref 2) (.ref 3) (.bool false) fun w v0 v1 hb h0 h1 => kSameF h0 h1 sx.1 sy.1 (by omega) (by omega) e1],
     loads := [⟨27, 0, 0, (.ref 2), fun w q h => loadQ_0 w q h⟩,
      ⟨27, 0, 1, (.ref 3), fun w q h => loadQ_0 w q h⟩],
     boxes := [⟨29, (.ref 0), 0, fun w v h => boxQ_run w v h⟩,
      ⟨29, (.ref 1), 1, fun w v h => boxQ_run w v h⟩],
     flds := [⟨29, 0, 0, fldQ0⟩] }
   Tryz.func16 ⟨hva, hvb, trivial⟩ (by kernel_rfl)
set_option maxRecDepth 100000 in
theorem SameP_d {x y : Rat} {i j : Nat} (va : Value) (vb : Value) (W : World) (hva : (ratF x).p va W) (hvb : (ratF y).p vb W) (sx : RSm x i) (sy : RSm y j) (_hi : i ≤ 600) (_hj : j ≤ 600) (e1 : x.num = y.num) (e2 : (x.den : Int) ≠ (y.den : Int)) : Calls Tryz.prog 16 #[va, vb] W (GivesP (eqF (.bool false)) W) := by
  let E : List PF := [(ratF x), (ratF y), (intF x.num), (intF y.num), (intF (x.den : Int)), (intF (y.den : Int))]
  let EB : List CF := [(boxQ x), (boxQ y)]
  exact auto_calls (E := E) (EB := EB) (fs := [(.ref 0), (.ref 1)]) (r := (.bool false))
   { calls := [c2 31 (.ref 2) (.ref 3) (.bool true) fun w v0 v1 hb h0 h1 => kSameT h0 h1 sx.1 sy.1 (by first | decide | assumption | omega) (by first | decide | assumption | omega) e1,
      c2 31 (.ref 4) (.ref 5) (.bool false) fun w v0 v1 hb h0 h1 => kSameF h0 h1 sx.2 sy.2 (by omega) (by omega) e2],
     loads := [⟨27, 0, 0, (.ref 2), fun w q h => loadQ_0 w q h⟩,
      ⟨27, 0, 1, (.ref 3), fun w q h => loadQ_0 w q h⟩,
      ⟨27, 2, 0, (.ref 4), fun w q h => loadQ_2 w q h⟩,
      ⟨27, 2, 1, (.ref 5), fun w q h => loadQ_2 w q h⟩],
     boxes := [⟨29, (.ref 0), 0, fun w v h => boxQ_run w v h⟩,
      ⟨29, (.ref 1), 1, fun w v h => boxQ_run w v h⟩],
     flds := [⟨29, 0, 0, fldQ0⟩,
      ⟨29, 1, 2, fldQ1⟩] }
   Tryz.func16 ⟨hva, hvb, trivial⟩ (by kernel_rfl)
set_option maxRecDepth 100000 in
theorem MadeP_any {x y : Int} (W : World) (hx0 : -9223372036854775808 ≤ x) (hx1 : x ≤ 9223372036854775807) (hy0 : -9223372036854775808 ≤ y) (hy1 : y ≤ 9223372036854775807) (ny : y ≠ 0) : Calls Tryz.prog 45 #[.int .i64 x, .int .i64 y] W (GivesP (ratF (Rat.divInt x y)) W) := by
  let E : List PF := [(eqF (.int .i64 x)), (eqF (.int .i64 y)), (intF x), (intF y), (ratF (Rat.divInt x y))]
  let EB : List CF := [zeroQF, (boxQ (Rat.divInt x y))]
  exact auto_calls (E := E) (EB := EB) (fs := [(.ref 0), (.ref 1)]) (r := (.ref 4))
   { pures := [p2 (.bin .eql 2 2) (.ref 1) (.int .i64 0) (.bool false) fun _ _ _ _ _ hx hy => h_eqlI (r := false) (by simpa using ny) hx hy],
     calls := [c1 44 (.ref 0) (.ref 2) fun w v0 hb h0 => kROf x hx0 hx1 h0,
      c1 44 (.ref 1) (.ref 3) fun w v0 hb h0 => kROf y hy0 hy1 h0,
      c2 56 (.ref 2) (.ref 3) (.ref 4) fun w v0 v1 hb h0 h1 => ofP_any _ _ _ h0 h1 (sm_i64 hx0 hx1) (sm_i64 hy0 hy1) (by decide) (by decide) ny],
     loads := [⟨29, 0, 1, (.ref 4), fun w q h => loadQ_all w q h⟩],
     allocs := [⟨29, 0, _, allocQ_run, allocQ_old⟩],
     stores := [⟨29, 0, 0, (.ref 4), 1, storeQ_zero⟩] }
   Tryz.func45 ⟨rfl, rfl, trivial⟩ (by kernel_rfl)
set_option maxRecDepth 100000 in
theorem DivQ_2 {x y : Rat} {i j : Nat} (va : Value) (vb : Value) (W : World) (hva : (ratF x).p va W) (hvb : (ratF y).p vb W) (_sx : RSm x i) (sy : RSm y j) (_hi : i ≤ 100) (_hj : j ≤ 100) (ny : y = 0) : Calls Tryz.prog 14 #[va, vb] W (GivesP (tup2F (pairF 0 0) (eqF (.int .i64 3))) W) := by
  let E : List PF := [(ratF x), (ratF y), (eqF (.int .i64 (cmpR y 0))), (pairF 0 0)]
  let EB : List CF := [(boxQ x), (boxQ y), zeroQF, (boxQF 0 0)]
  exact auto_calls (E := E) (EB := EB) (fs := [(.ref 0), (.ref 1)]) (r := (.tup2 (.ref 3) (.int .i64 3)))
   { pures := [p2 (.bin .eql 3 3) (.ref 2) (.int .i64 0) (.bool true) fun _ _ _ _ _ hx hy => h_eqlI (r := true) (cmp0_eq ny) hx hy,
      p0 (.bld 29 []) (.ref 3) fun _ _ _ => h_buildQ0],
     calls := [c1 29 (.ref 1) (.ref 2) fun w v0 hb h0 => kQSign h0 sy (by first | decide | assumption | omega)],
     loads := [⟨29, 0, 1, (.ref 1), fun w q h => loadQ_all w q h⟩,
      ⟨29, 0, 3, (.ref 3), fun w q h => loadQ_all w q h⟩],
     allocs := [⟨29, 2, _, allocQ_run, allocQ_old⟩],
     boxes := [⟨29, (.ref 0), 0, fun w v h => boxQ_run w v h⟩,
      ⟨29, (.ref 1), 1, fun w v h => boxQ_run w v h⟩],
     stores := [⟨29, 0, 2, (.ref 3), 3, storeQ_zero⟩] }
   Tryz.func14 ⟨hva, hvb, trivial⟩ (by kernel_rfl)
section
variable {w : World} {va vb : Value} {x y : Rat} {i j : Nat}
theorem kQDiv0 (ha : (ratF x).p va w) (hb : (ratF y).p vb w) (sx : RSm x i) (sy : RSm y j) (hi : i ≤ 100) (hj : j ≤ 100) (ny : y = 0) : Calls Tryz.prog 14 #[va, vb] w (GivesP (tup2F (pairF 0 0) (eqF (.int .i64 3))) w) := DivQ_2 va vb w ha hb sx sy hi hj ny
theorem kPWhole (z : Int) (h0 : -9223372036854775808 ≤ z) (h1 : z ≤ 9223372036854775807) (hv : (eqF (.int .i64 z)).p va w) : Calls Tryz.prog 26 #[va] w (GivesP (ratF (z : Rat)) w) := by
  have hv : va = .int .i64 z := hv
  rw [hv]
  exact kPWhole0 w h0 h1
theorem kPSame (ha : (ratF x).p va w) (hb : (ratF y).p vb w) (sx : RSm x i) (sy : RSm y j) (hi : i ≤ 300) (hj : j ≤ 300) : Calls Tryz.prog 16 #[va, vb] w (GivesP (eqF (.bool (decide (x = y)))) w) := by
  by_cases e1 : x.num = y.num
  · by_cases e2 : (x.den : Int) = (y.den : Int)
    · rw [decide_eq_true (rat_ext e1 e2)]
      exact SameP_t va vb w ha hb sx sy (by omega) (by omega) e1 e2
    · rw [decide_eq_false (fun e => e2 (by rw [e]))]
      exact SameP_d va vb w ha hb sx sy (by omega) (by omega) e1 e2
  · rw [decide_eq_false (fun e => e1 (by rw [e]))]
    exact SameP_n va vb w ha hb sx sy (by omega) (by omega) e1
theorem kPSameT (ha : (ratF x).p va w) (hb : (ratF y).p vb w) (sx : RSm x i) (sy : RSm y j) (hi : i ≤ 300) (hj : j ≤ 300) (e : x = y) : Calls Tryz.prog 16 #[va, vb] w (GivesP (eqF (.bool true)) w) := by
  have := kPSame ha hb sx sy hi hj
  rwa [decide_eq_true e] at this
end
end Go.Proofs.YtdofolejfdfocaaGreatDoor
namespace Go.Proofs.YtdofolejfdfocaaGreatDoor
open Go.RowKit

/-- What the closure gives: the box at g holds the product. -/
def GivesMult (Wb : World) (g : Nat) (n d : Int) (e : Ending) (w' : World) : Prop := e = .returned (.tuple #[]) ∧ (boxQF n d).p g w' ∧ Below Wb.heap.size Wb w' ∧ Grow Wb w'
/-- The boxes that arguments point to. -/
def ArgBoxes (Wb : World) (args : Array Value) (w : World) : List (Nat × CF) → Prop
  | [] => True
  | x :: r => (∃ g, args[x.1]? = some (.pointer (some ⟨g, 0, none⟩)) ∧ Wb.heap.size ≤ g ∧ x.2.p g w) ∧ ArgBoxes Wb args w r
theorem calls_stB {f : FuncId} {fn : Func} {N : Nat} {args : Array Value} {Wb W : World} {R : Ending → World → Prop} {S : List (Nat × PF)} {B : List (Nat × CF)} (hf : Tryz.prog.funcs[f]? = some fn) (hb : fn.body.isSome = true) (hN : fn.ntmps = N) (hs : args.size ≤ N)
    (hB : Below Wb.heap.size Wb W) (hG : Grow Wb W) (hS : ∀ x ∈ S, ∃ v, args[x.1]? = some v ∧ x.2.p v W) (hBx : ArgBoxes Wb args W B) (hap : B.length ≤ 1)
    (h : ∀ a w, St Wb N S B a w → (bodyOf fn).wp Tryz.prog (bodyPost Tryz.prog fn R) a w) : Calls Tryz.prog f args W R := by
  obtain ⟨c, hc⟩ := Option.isSome_iff_exists.1 hb
  refine calls_of_wp hf hc ?_
  have hbo : bodyOf fn = c := by unfold bodyOf; rw [hc]; rfl
  rw [hbo] at h
  refine h _ _ ⟨by simp [hN]; omega, rfl, hB, hG, ?_, ?_, ?_⟩
  · have key : ∀ (L : List (Nat × PF)), (∀ x ∈ L, ∃ v, args[x.1]? = some v ∧ x.2.p v W) → SlotsOk L { tmps := args ++ Array.replicate (fn.ntmps - args.size) undef, defers := [] } W := by
      intro L
      induction L with
      | nil => intro _; trivial
      | cons x r ih =>
        intro h
        obtain ⟨v, h1, h2⟩ := h x (by simp)
        exact ⟨⟨v, frame_slot h1, h2⟩, ih fun y hy => h y (by simp [hy])⟩
    exact key S hS
  · have key : ∀ (L : List (Nat × CF)), ArgBoxes Wb args W L → BoxesOk Wb L { tmps := args ++ Array.replicate (fn.ntmps - args.size) undef, defers := [] } W := by
      intro L
      induction L with
      | nil => intro _; trivial
      | cons x r ih =>
        rintro ⟨⟨g, h1, h2, h3⟩, h4⟩
        exact ⟨⟨g, frame_slot h1, h2, h3⟩, ih h4⟩
    exact key B hBx
  · rcases B with _ | ⟨x, _ | ⟨y, r⟩⟩
    · exact List.Pairwise.nil
    · exact List.pairwise_singleton _ _
    · simp at hap
theorem ret_mult {Wb : World} {N : Nat} {S : List (Nat × PF)} {B : List (Nat × CF)} {a : Act} {w : World} {fn : Func} {g : Nat} {n d : Int} (hst : St Wb N S B a w) (hr : fn.results = #[]) (k : Nat) (hk : S[k]? = some (1, eqF (.pointer (some (⟨g, 0, none⟩ : Addr))))) (l : Nat) (hl : B[l]? = some (1, boxQF n d)) : bodyPost Tryz.prog fn (GivesMult Wb g n d) .ret a w := by
  obtain ⟨v, h1, h2⟩ := hst.slots.get hk
  obtain ⟨g', h3, _, h4⟩ := hst.boxes.get hl
  have h2 : v = .pointer (some (⟨g, 0, none⟩ : Addr)) := h2
  rw [h2] at h1
  have e : g' = g := by
    have h1' : a.tmps[1]? = some (.pointer (some ⟨g, 0, none⟩)) := h1
    have h3' : a.tmps[1]? = some (.pointer (some ⟨g', 0, none⟩)) := h3
    rw [h1'] at h3'
    simp at h3'
    exact h3'.symm
  rw [e] at h4
  refine bodyPost_ret (v := .tuple #[]) ?_ hst.defers ⟨rfl, h4, hst.below, hst.grow⟩
  simp [results, hr, go_sem]
theorem pw1pl_quadrature_integer_Mul : Plainly 58 := fun _ _ => by simp [go_sem]
noncomputable def pw1_n0 : Code := bodyOf Tryz.f92
noncomputable def pw1_n1 : Code := cl pw1_n0
noncomputable def pw1_n2 : Code := cr pw1_n0
theorem pw1_e0 : pw1_n0 = .seq pw1_n1 pw1_n2 := by kernel_rfl
noncomputable def pw1_o0 : Array Oper := opsOf pw1_n1
theorem pw1_e1 : pw1_n1 = .region 0 pw1_o0 false := by kernel_rfl
noncomputable def pw1_o1 : Array Oper := opsOf pw1_n2
theorem pw1_e2 : pw1_n2 = .region 1 pw1_o1 true := by kernel_rfl
set_option maxRecDepth 100000 in
theorem pw1_r0 {Q : Exit → Act → World → Prop} {Wb W0 : World} {a0 : Act} {x : Rat} {n d : Int} {i j g : Nat} (_sx : RSm x i) (_sn : Sm n j) (_sd : Sm d j) (_hi : i ≤ 300) (_hj : j ≤ 300)  (hst : St Wb 14 [(0, (ratF x)), (1, (eqF (.pointer (some (⟨g, 0, none⟩ : Addr)))))] [(1, (boxQF n d))] a0 W0)
    (fin : ∀ a w, St Wb 14 [(0, (ratF x)), (1, (eqF (.pointer (some (⟨g, 0, none⟩ : Addr)))))] [(1, (boxQF n d)), (2, (boxQ x))] a w → Q .normal a w) : (Code.region 0 pw1_o0 false).wp Tryz.prog Q a0 W0 := by
  have hP : Plan pw1_o0 14 ([⟨1, none, none, (boxQF n d), (boxQF n d)⟩, ⟨2, some 0, none, (boxQ x), (boxQ x)⟩] : List BoxS) [] := ⟨by kernel_rfl, by kernel_rfl, by kernel_rfl, by kernel_rfl, by kernel_rfl, by kernel_rfl⟩
  refine region_st (F := [anyF]) hP hst rfl rfl ?_ ?_ fin
  · show Steps pw1_o0 14 Wb W0 a0 _ _ _ 1
    refine steps_snoc (k := 0) ?_ (s_box (i := 0) (d := 2) hP 1 _ (isOp_of (by kernel_rfl) : IsOp pw1_o0 0 none (.box 29 (.tmp 0))) (by kernel_rfl) rfl rfl rfl (by kernel_rfl) (by kernel_rfl) (by kernel_rfl) (by kernel_rfl) rfl (src_low hst 0 rfl (by kernel_rfl)) (fun w v h => boxQ_run w v h))
    exact steps_nil
  · intro m a w hI hm
    exact ⟨(low_fact hst 0 rfl (by kernel_rfl) hI), (low_fact hst 1 rfl (by kernel_rfl) hI), trivial⟩
set_option maxRecDepth 100000 in
theorem pw1_r1 {Q : Exit → Act → World → Prop} {Wb W0 : World} {a0 : Act} {x : Rat} {n d : Int} {i j g : Nat} (sx : RSm x i) (sn : Sm n j) (sd : Sm d j) (_hi : i ≤ 300) (_hj : j ≤ 300)  (hst : St Wb 14 [(0, (ratF x)), (1, (eqF (.pointer (some (⟨g, 0, none⟩ : Addr)))))] [(1, (boxQF n d)), (2, (boxQ x))] a0 W0)
    (fin : ∀ a w, St Wb 14 [(0, (ratF x)), (1, (eqF (.pointer (some (⟨g, 0, none⟩ : Addr)))))] [(1, (boxQF (n * x.num) (d * (x.den : Int)))), (2, (boxQ x))] a w → Q .normal a w) : (Code.region 1 pw1_o1 true).wp Tryz.prog Q a0 W0 := by
  have hP : Plan pw1_o1 14 ([⟨1, none, some 11, (boxQF n d), (boxQF (n * x.num) (d * (x.den : Int)))⟩, ⟨2, none, none, (boxQ x), (boxQ x)⟩] : List BoxS) [(0, 1, 0), (2, 2, 0), (5, 1, 2), (7, 2, 2)] := ⟨by kernel_rfl, by kernel_rfl, by kernel_rfl, by kernel_rfl, by kernel_rfl, by kernel_rfl⟩
  refine region_st (F := [anyF, (intF n), anyF, (intF x.num), (intF (n * x.num)), anyF, (intF d), anyF, (intF (x.den : Int)), (intF (d * (x.den : Int))), (pairF (n * x.num) (d * (x.den : Int))), anyF]) hP hst rfl rfl ?_ ?_ fin
  · show Steps pw1_o1 14 Wb W0 a0 _ _ _ 12
    refine steps_snoc (k := 11) ?_ (s_store (i := 11) 0 _ (isOp_of (by kernel_rfl) : IsOp pw1_o1 11 none (.store 29 (.tmp 1) (.tmp 13))) (by kernel_rfl) rfl rfl rfl (by kernel_rfl) (by kernel_rfl) (by kernel_rfl) (src_op (f := (pairF (n * x.num) (d * (x.den : Int)))) 10 (by kernel_rfl) (by kernel_rfl) rfl) storeQ_box)
    refine steps_snoc (k := 10) ?_ (s_op2 (i := 10) hP (g := none) (isOp_of (by kernel_rfl) : IsOp pw1_o1 10 none (.build 29 #[(0, .tmp 7), (1, .tmp 12)])) (by kernel_rfl) (by kernel_rfl) (grd_none) (src_op (f := (intF (n * x.num))) 4 (by kernel_rfl) (by kernel_rfl) rfl) (src_op (f := (intF (d * (x.den : Int)))) 9 (by kernel_rfl) (by kernel_rfl) rfl) (fun ρ w hx hy => h_buildQ hx hy) rfl)
    refine steps_snoc (k := 9) ?_ (s_call2 (i := 9) hP (g := none) (isOp_of (by kernel_rfl) : IsOp pw1_o1 9 none (.call { callee := .value (.func 58), args := #[.tmp 9, .tmp 11], argTypes := #[27, 27] })) (by kernel_rfl) (by kernel_rfl) (grd_none) (src_op (f := (intF d)) 6 (by kernel_rfl) (by kernel_rfl) rfl) (src_op (f := (intF (x.den : Int))) 8 (by kernel_rfl) (by kernel_rfl) rfl) pw1pl_quadrature_integer_Mul (fun w v0 v1 hb h0 h1 => kMul h0 h1 sd sx.2 (by first | decide | assumption | omega) (by first | decide | assumption | omega)) rfl)
    refine steps_snoc (k := 8) ?_ (s_load (i := 8) hP (g := none) (isOp_of (by kernel_rfl) : IsOp pw1_o1 8 none (.load 27 (.tmp 10))) (by kernel_rfl) (by kernel_rfl) (grd_none) (bsrc_at 7 (bsrc_old 1 _ rfl rfl rfl (by kernel_rfl) (by kernel_rfl)) (by kernel_rfl) (by kernel_rfl) (by kernel_rfl)) (fun w q h => loadQ_2 w q h) rfl)
    refine steps_snoc (k := 7) ?_ (step_addr (i := 7) (d := 10) (g := none) hP (isOp_of (by kernel_rfl) : IsOp pw1_o1 7 none (.fieldAddr 29 (.tmp 2) 1)) (by kernel_rfl) (by kernel_rfl) 2 rfl rfl _ 1 rfl rfl (by kernel_rfl) (grd_none) fldQ1)
    refine steps_snoc (k := 6) ?_ (s_load (i := 6) hP (g := none) (isOp_of (by kernel_rfl) : IsOp pw1_o1 6 none (.load 27 (.tmp 8))) (by kernel_rfl) (by kernel_rfl) (grd_none) (bsrc_at 5 (bsrc_old 0 _ rfl rfl rfl (by kernel_rfl) (by kernel_rfl)) (by kernel_rfl) (by kernel_rfl) (by kernel_rfl)) (fun w q h => loadQ_2 w q h) rfl)
    refine steps_snoc (k := 5) ?_ (step_addr (i := 5) (d := 8) (g := none) hP (isOp_of (by kernel_rfl) : IsOp pw1_o1 5 none (.fieldAddr 29 (.tmp 1) 1)) (by kernel_rfl) (by kernel_rfl) 2 rfl rfl _ 0 rfl rfl (by kernel_rfl) (grd_none) fldQ1)
    refine steps_snoc (k := 4) ?_ (s_call2 (i := 4) hP (g := none) (isOp_of (by kernel_rfl) : IsOp pw1_o1 4 none (.call { callee := .value (.func 58), args := #[.tmp 4, .tmp 6], argTypes := #[27, 27] })) (by kernel_rfl) (by kernel_rfl) (grd_none) (src_op (f := (intF n)) 1 (by kernel_rfl) (by kernel_rfl) rfl) (src_op (f := (intF x.num)) 3 (by kernel_rfl) (by kernel_rfl) rfl) pw1pl_quadrature_integer_Mul (fun w v0 v1 hb h0 h1 => kMul h0 h1 sn sx.1 (by first | decide | assumption | omega) (by first | decide | assumption | omega)) rfl)
    refine steps_snoc (k := 3) ?_ (s_load (i := 3) hP (g := none) (isOp_of (by kernel_rfl) : IsOp pw1_o1 3 none (.load 27 (.tmp 5))) (by kernel_rfl) (by kernel_rfl) (grd_none) (bsrc_at 2 (bsrc_old 1 _ rfl rfl rfl (by kernel_rfl) (by kernel_rfl)) (by kernel_rfl) (by kernel_rfl) (by kernel_rfl)) (fun w q h => loadQ_0 w q h) rfl)
    refine steps_snoc (k := 2) ?_ (step_addr (i := 2) (d := 5) (g := none) hP (isOp_of (by kernel_rfl) : IsOp pw1_o1 2 none (.fieldAddr 29 (.tmp 2) 0)) (by kernel_rfl) (by kernel_rfl) 0 rfl rfl _ 1 rfl rfl (by kernel_rfl) (grd_none) fldQ0)
    refine steps_snoc (k := 1) ?_ (s_load (i := 1) hP (g := none) (isOp_of (by kernel_rfl) : IsOp pw1_o1 1 none (.load 27 (.tmp 3))) (by kernel_rfl) (by kernel_rfl) (grd_none) (bsrc_at 0 (bsrc_old 0 _ rfl rfl rfl (by kernel_rfl) (by kernel_rfl)) (by kernel_rfl) (by kernel_rfl) (by kernel_rfl)) (fun w q h => loadQ_0 w q h) rfl)
    refine steps_snoc (k := 0) ?_ (step_addr (i := 0) (d := 3) (g := none) hP (isOp_of (by kernel_rfl) : IsOp pw1_o1 0 none (.fieldAddr 29 (.tmp 1) 0)) (by kernel_rfl) (by kernel_rfl) 0 rfl rfl _ 0 rfl rfl (by kernel_rfl) (grd_none) fldQ0)
    exact steps_nil
  · intro m a w hI hm
    exact ⟨(low_fact hst 0 rfl (by kernel_rfl) hI), (low_fact hst 1 rfl (by kernel_rfl) hI), trivial⟩
set_option maxRecDepth 100000 in
theorem Mult_any {x : Rat} {n d : Int} {i j g : Nat} (vb : Value) (W W2 : World) (hw : Below W.heap.size W W2) (hgr : Grow W W2) (hgg : W.heap.size ≤ g) (hp : (boxQF n d).p g W2) (hb : (ratF x).p vb W2) (sx : RSm x i) (sn : Sm n j) (sd : Sm d j) (hi : i ≤ 300) (hj : j ≤ 300) :
    Calls Tryz.prog 92 #[vb, .pointer (some ⟨g, 0, none⟩)] W2 (GivesMult W g (n * x.num) (d * (x.den : Int))) := by
  refine calls_stB (S := [(0, (ratF x)), (1, (eqF (.pointer (some (⟨g, 0, none⟩ : Addr)))))]) (B := [(1, (boxQF n d))]) Tryz.func92 (by kernel_rfl) Tryz.ntmps92 (by simp) hw hgr (fun x hx => ?_) ⟨⟨g, rfl, hgg, hp⟩, trivial⟩ (by simp) fun a w hst => ?_
  · simp only [List.mem_cons, List.not_mem_nil, or_false] at hx
    rcases hx with rfl | rfl
    · exact ⟨_, rfl, hb⟩
    · exact ⟨_, rfl, rfl⟩
  show Code.wp _ pw1_n0 _ a w
  rw [pw1_e0]
  refine wp_seq ?_
  rw [pw1_e1]
  refine pw1_r0 sx sn sd hi hj hst ?_
  clear hst
  intro a w hst
  show Code.wp _ pw1_n2 _ a w
  rw [pw1_e2]
  refine pw1_r1 sx sn sd hi hj hst ?_
  clear hst
  intro a w hst
  exact ret_mult hst rfl 1 rfl 0 rfl
end Go.Proofs.YtdofolejfdfocaaGreatDoor
namespace Go.Proofs.YtdofolejfdfocaaGreatDoor
open Go.RowKit

theorem powQ_num (x : Rat) (e f : Nat) : (x ^ e).num * (x ^ f).num = (x ^ (e + f)).num := by
  rw [(pow_eq x e).1, (pow_eq x f).1, (pow_eq x (e + f)).1, Int.pow_add]
theorem powQ_den (x : Rat) (e f : Nat) : ((x ^ e).den : Int) * ((x ^ f).den : Int) = ((x ^ (e + f)).den : Int) := by
  rw [(pow_eq x e).2, (pow_eq x f).2, (pow_eq x (e + f)).2, Int.pow_add]
theorem powQ_num1 (x : Rat) (e : Nat) : (x ^ e).num * x.num = (x ^ (e + 1)).num := by
  rw [(pow_eq x e).1, (pow_eq x (e + 1)).1, Int.pow_succ]
theorem powQ_den1 (x : Rat) (e : Nat) : ((x ^ e).den : Int) * (x.den : Int) = ((x ^ (e + 1)).den : Int) := by
  rw [(pow_eq x e).2, (pow_eq x (e + 1)).2, Int.pow_succ]
/-- The box of the power, and all that was there before it. -/
def QRel (W : World) (wr : World) (z : Rat) : Prop := (boxQ z).p W.heap.size wr ∧ Below W.heap.size W wr ∧ Grow W wr
theorem QRel.first {W : World} {z : Rat} {b b' : Bool} {A A' : Option Addr} {k c k' c' : Nat} (h : PairAt W (.agg #[.bool b, .slice A k c, .bool b', .slice A' k' c']) z.num (z.den : Int)) : QRel W (W.alloc (.cells #[.bool b, .slice A k c, .bool b', .slice A' k' c'] 29)) z := by
  obtain ⟨y, hy, hp⟩ := boxQ_run W _ h
  refine ⟨?_, below_alloc _ _, Grow.of_below (below_alloc _ _)⟩
  obtain ⟨b, A, k, c, b', A', k', c', e, h1, h2⟩ := h
  injection e with e
  simp at e
  obtain ⟨rfl, ⟨rfl, rfl, rfl⟩, rfl, ⟨rfl, rfl, rfl⟩⟩ := e
  exact ⟨_, _, _, _, _, _, _, _, heap_alloc_new W _, h1.into (below_alloc W _), h2.into (below_alloc W _)⟩
theorem QRel.cells {W wr : World} {z : Rat} (h : QRel W wr z) : ∃ b A k c b' A' k' c', wr.cell? ⟨W.heap.size, 0, none⟩ = some (.bool b) ∧ wr.cell? ⟨W.heap.size, 1, none⟩ = some (.slice A k c) ∧ wr.cell? ⟨W.heap.size, 2, none⟩ = some (.bool b') ∧ wr.cell? ⟨W.heap.size, 3, none⟩ = some (.slice A' k' c') ∧ Hid (PairAt wr (.agg #[.bool b, .slice A k c, .bool b', .slice A' k' c']) z.num (z.den : Int)) := by
  obtain ⟨⟨b, A, k, c, b', A', k', c', hh, h1, h2⟩, _, _⟩ := h
  obtain ⟨e0, e1, e2, e3⟩ := q_cells hh
  exact ⟨b, A, k, c, b', A', k', c', e0, e1, e2, e3, ⟨_, _, _, _, _, _, _, _, rfl, h1, h2⟩⟩
theorem QRel.mult {W wr : World} {z x : Rat} {i j : Nat} (h : QRel W wr z) (vb : Value) (hb : (ratF x).p vb wr) (sx : RSm x i) (sz : RSm z j) (hi : i ≤ 300) (hj : j ≤ 300) : Calls Tryz.prog 92 #[vb, .pointer (some ⟨W.heap.size, 0, none⟩)] wr (GivesMult W W.heap.size (z.num * x.num) ((z.den : Int) * (x.den : Int))) :=
  Mult_any vb W wr h.2.1 h.2.2 (Nat.le_refl _) h.1 hb sx sz.1 sz.2 hi hj
theorem powQ_sm {x : Rat} {i n k : Nat} (sx : RSm x i) (hk : k ≤ n) (hi : i * n + 1 ≤ 100) : RSm (x ^ k) 100 :=
  (sx.pow k).mono (Nat.le_trans (Nat.succ_le_succ (Nat.mul_le_mul_left i hk)) hi)

set_option maxHeartbeats 1600000 in
theorem power_any {x : Rat} {i : Nat} (va : Value) (n : Nat) (W : World) (ha : (ratF x).p va W) (sx : RSm x i) (hn : n ≤ 256) (hi : i * n + 1 ≤ 100) : Calls Tryz.prog 70 #[va, .int .i64 n] W (GivesP (ratF (x ^ n)) W) := by
  obtain ⟨b, A, k, c, b', A', k', c', rfl, H⟩ := PairAt.open_ ha
  have SX := Lib.hid sx
  have HI' := Lib.hid hi
  have hB2 := Lib.hid (below2 W (.cells #[.bool b, .slice A k c, .bool b', .slice A' k' c'] 29) (.cells #[.bool false, .slice none 0 0, .bool false, .slice none 0 0] 29))
  have hH2 := Lib.hid (heap2 W (.cells #[.bool b, .slice A k c, .bool b', .slice A' k' c'] 29) (.cells #[.bool false, .slice none 0 0, .bool false, .slice none 0 0] 29))
  clear ha sx hi
  go_enter Tryz.func70, Tryz.ntmps70
  go_wp2_with fail
  have hs2 : ((W.alloc (Obj.cells #[.bool b, .slice A k c, .bool b', .slice A' k' c'] 29)).alloc (Obj.cells #[.bool false, .slice none 0 0, .bool false, .slice none 0 0] 29)).heap.size = W.heap.size + 1 + 1 := by simp
  generalize ((W.alloc (Obj.cells #[.bool b, .slice A k c, .bool b', .slice A' k' c'] 29)).alloc (Obj.cells #[.bool false, .slice none 0 0, .bool false, .slice none 0 0] 29)) = W2 at *
  refine (kQWhole 1 (by omega) (by omega) rfl).mono ?_
  rintro z w1 ⟨v, rfl, hv, hb1⟩
  obtain ⟨p, E, m, q, p', E', m', q', rfl, V⟩ := PairAt.open_ hv
  have HB1 := Lib.hid hb1
  have hs1 := hb1.size
  have hne : w1.heap.size ≠ W.heap.size := by omega
  clear hv hb1
  have HP := Lib.hid (QRel.first V.out)
  go_wp2_with fail
  refine (Tryz.bits_Len (n : Int) _ (by omega) (by omega)).mono ?_
  rintro z w' ⟨rfl, rfl⟩
  rw [Int.toNat_natCast]
  have hbl : Lib.bitLen n ≤ 9 := bitLen_le9 hn
  have hb2n : n < 2 ^ Lib.bitLen n := bitLen_lt n (by omega)
  generalize hL : Lib.bitLen n = L at *
  have HL := Lib.hid hL
  have HA1 := Lib.hid ((HB1.out.block W.heap.size (by omega)).trans hH2.out.1)
  have HR1 := Lib.hid ((HB1.out.block (W.heap.size + 1) (by omega)).trans hH2.out.2)
  have HW1 := Lib.hid (step_below hB2.out HB1.out)
  have hs1' : W.heap.size + 2 ≤ w1.heap.size := by omega
  clear hL hs2 hs1 hne
  go_wp2_with fail
  go_loopw [7] (fun i wr => ∃ j : Nat, j ≤ L ∧ i = .int .i64 j ∧ QRel w1 wr (x ^ (n / 2 ^ j))) (fun i _ => (intOf i).toNat)
  case atStart => exact ⟨L, Nat.le_refl _, rfl, by rw [Nat.div_eq_of_lt hb2n, Rat.pow_zero]; exact HP.out⟩
  case round =>
    obtain ⟨j, hj, rfl, hR⟩ := hrel
    rcases Nat.eq_zero_or_pos j with h0 | h0
    · subst h0
      rw [Nat.pow_zero, Nat.div_one] at hR
      obtain ⟨bp, Ap, kp, cp, bq, Aq, kq, cq, hc0, hc1, hc2, hc3, HI⟩ := hR.cells
      have hz1 := (hR.2.1.block (W.heap.size + 1) (by omega)).trans HR1.out
      obtain ⟨e0, e1, e2, e3⟩ := q_cells hz1
      have f0 := frozen_of_row hz1 0
      have f1 := frozen_of_row hz1 1
      have f2 := frozen_of_row hz1 2
      have f3 := frozen_of_row hz1 3
      have HE := Lib.hid (box4_end hz1 (step_below HW1.out hR.2.1) (by omega) HI.out)
      clear hz1 hR
      go_wp2
      refine bodyPost_ret (v := .agg #[.bool bp, .slice Ap kp cp, .bool bq, .slice Aq kq cq]) (by simp [results, Tryz.results70, go_sem, e0, e1, e2, e3]) rfl ⟨_, rfl, HE.out.1, HE.out.2⟩
    · obtain ⟨m', rfl⟩ : ∃ m', j = m' + 1 := ⟨j - 1, by omega⟩
      obtain ⟨bp, Ap, kp, cp, bq, Aq, kq, cq, hc0, hc1, hc2, hc3, HI⟩ := hR.cells
      have HR := Lib.hid hR
      obtain ⟨e, he⟩ : ∃ e, n / 2 ^ (m' + 1) = e := ⟨_, rfl⟩
      have hen : e ≤ n := by rw [← he]; exact Nat.div_le_self _ _
      rw [he] at HR HI
      have HEN := Lib.hid he
      have hsm := powQ_sm SX.out hen HI'.out
      clear hR he
      go_wp2_with fail
      refine (HR.out.mult _ HI.out hsm hsm (by omega) (by omega)).mono ?_
      rintro z w2 ⟨rfl, hq2, hb2, hg2⟩
      rw [powQ_num, powQ_den] at hq2
      have HQ2 : Hid (QRel w1 w2 (x ^ (e + e))) := Lib.hid ⟨hq2, hb2, hg2⟩
      have hza := (hb2.block W.heap.size (by omega)).trans HA1.out
      obtain ⟨a0, a1, a2, a3⟩ := q_cells hza
      clear hc0 hc1 hc2 hc3 hq2 hb2 hg2 hza
      have hhalf := half_of n m'
      rw [HEN.out] at hhalf
      rcases Nat.mod_two_eq_zero_or_one (n / 2 ^ m') with hbit | hbit
      · have hbt := bit_is n m' hn false (by simpa using hbit)
        have hz : e + e = n / 2 ^ m' := by omega
        have HZ := Lib.hid hz
        clear hz hbit hhalf
        go_wp2_with fail
        go_roundw
        case rel => exact ⟨m', by omega, by first | rfl | go_num, by have := HQ2.out; rw [HZ.out] at this; exact this⟩
        case measure => simp [intOf]
      · have hbt := bit_is n m' hn true (by simpa using hbit)
        have hz : e + e + 1 = n / 2 ^ m' := by omega
        have hle : e + e ≤ n := by have := Nat.div_le_self n (2 ^ m'); omega
        have HZ := Lib.hid hz
        have hsm2 := powQ_sm SX.out hle HI'.out
        have hi100 : i ≤ 300 := by
          have h1 := HI'.out
          have hn1 : 1 ≤ n := by have := Nat.div_le_self n (2 ^ m'); omega
          have h2 : i * 1 ≤ i * n := Nat.mul_le_mul_left i hn1
          omega
        clear hz hbit hhalf
        go_wp2_with fail
        refine (HQ2.out.mult _ (H.out.into (step_below HW1.out HQ2.out.2.1)) SX.out hsm2 hi100 (by omega)).mono ?_
        rintro z w3 ⟨rfl, hq3, hb3, hg3⟩
        rw [powQ_num1, powQ_den1] at hq3
        have HQ3 : Hid (QRel w1 w3 (x ^ (e + e + 1))) := Lib.hid ⟨hq3, hb3, hg3⟩
        clear hq3 hb3 hg3 a0 a1 a2 a3
        go_wp2_with fail
        go_roundw
        case rel => exact ⟨m', by omega, by first | rfl | go_num, by have := HQ3.out; rw [HZ.out] at this; exact this⟩
        case measure => simp [intOf]
end Go.Proofs.YtdofolejfdfocaaGreatDoor
