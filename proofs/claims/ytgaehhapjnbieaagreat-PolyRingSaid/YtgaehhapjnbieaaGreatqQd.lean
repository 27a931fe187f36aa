/- The reference's functions on rational numbers, and Div (written by wip/tools/gen_rat.py). -/
import Derived.Test.YtgaehhapjnbieaaGreatqQ2
import Derived.Test.YtgaehhapjnbieaaGreatqPow
set_option linter.unusedSectionVars false
set_option linter.unusedVariables false
set_option linter.unusedSimpArgs false
namespace Go.Proofs.YtgaehhapjnbieaaGreat
open Go.RowKit
set_option maxRecDepth 100000 in
theorem OfP_0 {x y : Int} {i j : Nat} (va : Value) (vb : Value) (W : World) (hva : (intF x).p va W) (hvb : (intF y).p vb W) (_sx : Sm x i) (sy : Sm y j) (_hi : i ≤ 300000000) (_hj : j ≤ 300000000) (ny : y = 0) : Calls Tryz.prog 119 #[va, vb] W (GivesP (tup2F (pairF 0 0) (eqF (.int .i64 3))) W) := by
  let E : List PF := [(intF x), (intF y), (eqF (.int .i64 (Int.sign y))), (pairF 0 0)]
  let EB : List CF := [(boxIF x), (boxIF y), zeroQF, (boxQF 0 0)]
  exact auto_calls (E := E) (EB := EB) (fs := [(.ref 0), (.ref 1)]) (r := (.tup2 (.ref 3) (.int .i64 3)))
   { pures := [p2 (.bin .eql 3 3) (.ref 2) (.int .i64 0) (.bool true) fun _ _ _ _ _ hx hy => h_eqlI (r := true) (by rw [ny]; rfl) hx hy,
      p0 (.bld 36 []) (.ref 3) fun _ _ _ => h_buildQ0],
     calls := [c1 98 (.ref 1) (.ref 2) fun w v0 hb h0 => kRSign h0 sy (by first | decide | assumption | omega)],
     loads := [⟨34, 0, 1, (.ref 1), fun w q h => loadI_int w q h⟩,
      ⟨36, 0, 3, (.ref 3), fun w q h => loadQ_all w q h⟩],
     allocs := [⟨36, 2, _, allocQ_run, allocQ_old⟩],
     boxes := [⟨34, (.ref 0), 0, fun w v h => boxI_run w v h⟩,
      ⟨34, (.ref 1), 1, fun w v h => boxI_run w v h⟩],
     stores := [⟨36, 0, 2, (.ref 3), 3, storeQ_zero⟩] }
   Tryz.func119 ⟨hva, hvb, trivial⟩ (by kernel_rfl)
set_option maxRecDepth 100000 in
theorem OfP_pos {x y : Int} {i j : Nat} (va : Value) (vb : Value) (W : World) (hva : (intF x).p va W) (hvb : (intF y).p vb W) (sx : Sm x i) (sy : Sm y j) (_hi : i ≤ 300000000) (_hj : j ≤ 300000000) (ny : 0 < y) : Calls Tryz.prog 119 #[va, vb] W (GivesP (tup2F (ratF (Rat.divInt x y)) (eqF (.int .i64 0))) W) := by
  let E : List PF := [(intF x), (intF y), (eqF (.int .i64 (Int.sign y))), (intF ((Int.gcd x y : Nat) : Int)), (intF (x / ((Int.gcd x y : Nat) : Int))), (intF (x % ((Int.gcd x y : Nat) : Int))), (intF (y / ((Int.gcd x y : Nat) : Int))), (intF (y % ((Int.gcd x y : Nat) : Int))), (ratF (Rat.divInt x y))]
  let EB : List CF := [(boxIF x), (boxIF y), zeroQF, zeroIF, (boxIF ((Int.gcd x y : Nat) : Int)), (boxIF (x / ((Int.gcd x y : Nat) : Int))), (boxIF (x % ((Int.gcd x y : Nat) : Int))), (boxIF (y / ((Int.gcd x y : Nat) : Int))), (boxIF (y % ((Int.gcd x y : Nat) : Int))), (boxQ (Rat.divInt x y))]
  exact auto_calls (E := E) (EB := EB) (fs := [(.ref 0), (.ref 1)]) (r := (.tup2 (.ref 8) (.int .i64 0)))
   { pures := [p2 (.bin .eql 3 3) (.ref 2) (.int .i64 0) (.bool false) fun _ _ _ _ _ hx hy => h_eqlI (r := false) (by rw [Int.sign_eq_one_of_pos ny]; rfl) hx hy,
      p2 (.bin .lss 3 3) (.ref 2) (.int .i64 0) (.bool false) fun _ _ _ _ _ hx hy => h_lss (r := false) (by rw [Int.sign_eq_one_of_pos ny]; rfl) hx hy,
      p2 (.bld 36 [0, 1]) (.ref 4) (.ref 6) (.ref 8) fun _ _ _ _ _ hx hy => h_buildQ_eq (of_pos x y ny).1.symm (of_pos x y ny).2.symm hx hy],
     calls := [c1 98 (.ref 1) (.ref 2) fun w v0 hb h0 => kRSign h0 sy (by first | decide | assumption | omega),
      c2 131 (.ref 0) (.ref 1) (.ref 3) fun w v0 v1 hb h0 h1 => kRGcd2 h0 h1 sx sy (by first | decide | assumption | omega) (by first | decide | assumption | omega),
      c2 132 (.ref 0) (.ref 3) (.tup3 (.ref 4) (.ref 5) (.int .i64 0)) fun w v0 v1 hb h0 h1 => kRDivMod h0 h1 sx (sm_gcdI sx sy) (by first | decide | assumption | omega) (by first | decide | assumption | omega) (gcd_ne x (by omega)),
      c2 132 (.ref 1) (.ref 3) (.tup3 (.ref 6) (.ref 7) (.int .i64 0)) fun w v0 v1 hb h0 h1 => kRDivMod h0 h1 sy (sm_gcdI sx sy) (by first | decide | assumption | omega) (by first | decide | assumption | omega) (gcd_ne x (by omega))],
     loads := [⟨34, 0, 1, (.ref 1), fun w q h => loadI_int w q h⟩,
      ⟨34, 0, 0, (.ref 0), fun w q h => loadI_int w q h⟩,
      ⟨34, 0, 4, (.ref 3), fun w q h => loadI_int w q h⟩,
      ⟨34, 0, 5, (.ref 4), fun w q h => loadI_int w q h⟩,
      ⟨34, 0, 7, (.ref 6), fun w q h => loadI_int w q h⟩,
      ⟨36, 0, 9, (.ref 8), fun w q h => loadQ_all w q h⟩],
     allocs := [⟨36, 2, _, allocQ_run, allocQ_old⟩,
      ⟨34, 3, _, allocI_run, allocI_old⟩],
     boxes := [⟨34, (.ref 0), 0, fun w v h => boxI_run w v h⟩,
      ⟨34, (.ref 1), 1, fun w v h => boxI_run w v h⟩],
     stores := [⟨34, 0, 3, (.ref 3), 4, (storeI_zero _)⟩,
      ⟨34, 0, 3, (.ref 4), 5, (storeI_zero _)⟩,
      ⟨34, 0, 3, (.ref 5), 6, (storeI_zero _)⟩,
      ⟨34, 0, 3, (.ref 6), 7, (storeI_zero _)⟩,
      ⟨34, 0, 3, (.ref 7), 8, (storeI_zero _)⟩,
      ⟨36, 0, 2, (.ref 8), 9, storeQ_zero⟩] }
   Tryz.func119 ⟨hva, hvb, trivial⟩ (by kernel_rfl)
set_option maxRecDepth 100000 in
theorem OfP_neg {x y : Int} {i j : Nat} (va : Value) (vb : Value) (W : World) (hva : (intF x).p va W) (hvb : (intF y).p vb W) (sx : Sm x i) (sy : Sm y j) (_hi : i ≤ 300000000) (_hj : j ≤ 300000000) (ny : y < 0) : Calls Tryz.prog 119 #[va, vb] W (GivesP (tup2F (ratF (Rat.divInt x y)) (eqF (.int .i64 0))) W) := by
  let E : List PF := [(intF x), (intF y), (eqF (.int .i64 (Int.sign y))), (intF (-x)), (intF (-y)), (intF ((Int.gcd (-x) (-y) : Nat) : Int)), (intF ((-x) / ((Int.gcd (-x) (-y) : Nat) : Int))), (intF ((-x) % ((Int.gcd (-x) (-y) : Nat) : Int))), (intF ((-y) / ((Int.gcd (-x) (-y) : Nat) : Int))), (intF ((-y) % ((Int.gcd (-x) (-y) : Nat) : Int))), (ratF (Rat.divInt x y))]
  let EB : List CF := [(boxIF x), (boxIF y), zeroQF, (boxIF (-x)), (boxIF (-y)), zeroIF, (boxIF ((Int.gcd (-x) (-y) : Nat) : Int)), (boxIF ((-x) / ((Int.gcd (-x) (-y) : Nat) : Int))), (boxIF ((-x) % ((Int.gcd (-x) (-y) : Nat) : Int))), (boxIF ((-y) / ((Int.gcd (-x) (-y) : Nat) : Int))), (boxIF ((-y) % ((Int.gcd (-x) (-y) : Nat) : Int))), (boxQ (Rat.divInt x y))]
  exact auto_calls (E := E) (EB := EB) (fs := [(.ref 0), (.ref 1)]) (r := (.tup2 (.ref 10) (.int .i64 0)))
   { pures := [p2 (.bin .eql 3 3) (.ref 2) (.int .i64 0) (.bool false) fun _ _ _ _ _ hx hy => h_eqlI (r := false) (by rw [Int.sign_eq_neg_one_of_neg ny]; rfl) hx hy,
      p2 (.bin .lss 3 3) (.ref 2) (.int .i64 0) (.bool true) fun _ _ _ _ _ hx hy => h_lss (r := true) (by rw [Int.sign_eq_neg_one_of_neg ny]; rfl) hx hy,
      p2 (.bld 36 [0, 1]) (.ref 6) (.ref 8) (.ref 10) fun _ _ _ _ _ hx hy => h_buildQ_eq (of_neg2 x y ny).1.symm (of_neg2 x y ny).2.symm hx hy],
     calls := [c1 98 (.ref 1) (.ref 2) fun w v0 hb h0 => kRSign h0 sy (by first | decide | assumption | omega),
      c1 90 (.ref 0) (.ref 3) fun w v0 hb h0 => kRNeg h0 sx (by first | decide | assumption | omega),
      c1 90 (.ref 1) (.ref 4) fun w v0 hb h0 => kRNeg h0 sy (by first | decide | assumption | omega),
      c2 131 (.ref 3) (.ref 4) (.ref 5) fun w v0 v1 hb h0 h1 => kRGcd2 h0 h1 sx.neg sy.neg (by first | decide | assumption | omega) (by first | decide | assumption | omega),
      c2 132 (.ref 3) (.ref 5) (.tup3 (.ref 6) (.ref 7) (.int .i64 0)) fun w v0 v1 hb h0 h1 => kRDivMod h0 h1 sx.neg (sm_gcdI sx.neg sy.neg) (by first | decide | assumption | omega) (by first | decide | assumption | omega) (gcd_ne (-x) (by omega)),
      c2 132 (.ref 4) (.ref 5) (.tup3 (.ref 8) (.ref 9) (.int .i64 0)) fun w v0 v1 hb h0 h1 => kRDivMod h0 h1 sy.neg (sm_gcdI sx.neg sy.neg) (by first | decide | assumption | omega) (by first | decide | assumption | omega) (gcd_ne (-x) (by omega))],
     loads := [⟨34, 0, 1, (.ref 1), fun w q h => loadI_int w q h⟩,
      ⟨34, 0, 0, (.ref 0), fun w q h => loadI_int w q h⟩,
      ⟨34, 0, 3, (.ref 3), fun w q h => loadI_int w q h⟩,
      ⟨34, 0, 4, (.ref 4), fun w q h => loadI_int w q h⟩,
      ⟨34, 0, 6, (.ref 5), fun w q h => loadI_int w q h⟩,
      ⟨34, 0, 7, (.ref 6), fun w q h => loadI_int w q h⟩,
      ⟨34, 0, 9, (.ref 8), fun w q h => loadI_int w q h⟩,
      ⟨36, 0, 11, (.ref 10), fun w q h => loadQ_all w q h⟩],
     allocs := [⟨36, 2, _, allocQ_run, allocQ_old⟩,
      ⟨34, 5, _, allocI_run, allocI_old⟩],
     boxes := [⟨34, (.ref 0), 0, fun w v h => boxI_run w v h⟩,
      ⟨34, (.ref 1), 1, fun w v h => boxI_run w v h⟩],
     stores := [⟨34, 0, 0, (.ref 3), 3, (storeI_box _ _)⟩,
      ⟨34, 0, 1, (.ref 4), 4, (storeI_box _ _)⟩,
      ⟨34, 0, 5, (.ref 5), 6, (storeI_zero _)⟩,
      ⟨34, 0, 5, (.ref 6), 7, (storeI_zero _)⟩,
      ⟨34, 0, 5, (.ref 7), 8, (storeI_zero _)⟩,
      ⟨34, 0, 5, (.ref 8), 9, (storeI_zero _)⟩,
      ⟨34, 0, 5, (.ref 9), 10, (storeI_zero _)⟩,
      ⟨36, 0, 2, (.ref 10), 11, storeQ_zero⟩] }
   Tryz.func119 ⟨hva, hvb, trivial⟩ (by kernel_rfl)
theorem kPOf {x y : Int} {i j : Nat} {va vb : Value} {w : World} (ha : (intF x).p va w) (hb : (intF y).p vb w) (sx : Sm x i) (sy : Sm y j) (hi : i ≤ 300000000) (hj : j ≤ 300000000) (ny : y ≠ 0) : Calls Tryz.prog 119 #[va, vb] w (GivesP (tup2F (ratF (Rat.divInt x y)) (eqF (.int .i64 0))) w) := by
  rcases Int.lt_or_gt_of_ne ny with h | h
  · exact OfP_neg va vb w ha hb sx sy hi hj h
  · exact OfP_pos va vb w ha hb sx sy hi hj h
theorem kPOf0 {x y : Int} {i j : Nat} {va vb : Value} {w : World} (ha : (intF x).p va w) (hb : (intF y).p vb w) (sx : Sm x i) (sy : Sm y j) (hi : i ≤ 300000000) (hj : j ≤ 300000000) (ny : y = 0) : Calls Tryz.prog 119 #[va, vb] w (GivesP (tup2F (pairF 0 0) (eqF (.int .i64 3))) w) := OfP_0 va vb w ha hb sx sy hi hj ny
set_option maxRecDepth 100000 in
theorem ofP_any {x y : Int} {i j : Nat} (va : Value) (vb : Value) (W : World) (hva : (intF x).p va W) (hvb : (intF y).p vb W) (sx : Sm x i) (sy : Sm y j) (_hi : i ≤ 300000000) (_hj : j ≤ 300000000) (ny : y ≠ 0) : Calls Tryz.prog 89 #[va, vb] W (GivesP (ratF (Rat.divInt x y)) W) := by
  let E : List PF := [(intF x), (intF y), (ratF (Rat.divInt x y))]
  let EB : List CF := [(boxIF x), (boxIF y), zeroQF, (boxQ (Rat.divInt x y))]
  exact auto_calls (E := E) (EB := EB) (fs := [(.ref 0), (.ref 1)]) (r := (.ref 2))
   { calls := [c2 119 (.ref 0) (.ref 1) (.tup2 (.ref 2) (.int .i64 0)) fun w v0 v1 hb h0 h1 => kPOf h0 h1 sx sy (by first | decide | assumption | omega) (by first | decide | assumption | omega) ny],
     loads := [⟨34, 0, 0, (.ref 0), fun w q h => loadI_int w q h⟩,
      ⟨34, 0, 1, (.ref 1), fun w q h => loadI_int w q h⟩,
      ⟨36, 0, 3, (.ref 2), fun w q h => loadQ_all w q h⟩],
     allocs := [⟨36, 2, _, allocQ_run, allocQ_old⟩],
     boxes := [⟨34, (.ref 0), 0, fun w v h => boxI_run w v h⟩,
      ⟨34, (.ref 1), 1, fun w v h => boxI_run w v h⟩],
     stores := [⟨36, 0, 2, (.ref 2), 3, storeQ_zero⟩] }
   Tryz.func89 ⟨hva, hvb, trivial⟩ (by kernel_rfl)
set_option maxRecDepth 100000 in
theorem kPNeg0 {x : Rat} {i : Nat} (va : Value) (W : World) (hva : (ratF x).p va W) (sx : RSm x i) (_hi : i ≤ 300000000) : Calls Tryz.prog 41 #[va] W (GivesP (ratF (-x)) W) := by
  let E : List PF := [(ratF x), (intF x.num), (intF (-x.num)), (intF (x.den : Int)), (ratF (-x))]
  let EB : List CF := [(boxQ x), zeroQF, (boxQ (-x))]
  exact auto_calls (E := E) (EB := EB) (fs := [(.ref 0)]) (r := (.ref 4))
   { pures := [p2 (.bld 36 [0, 1]) (.ref 2) (.ref 3) (.ref 4) fun _ _ _ _ _ hx hy => h_buildQ_eq (Rat.neg_num x).symm (by rw [Rat.neg_den]) hx hy],
     calls := [c1 90 (.ref 1) (.ref 2) fun w v0 hb h0 => kRNeg h0 sx.1 (by first | decide | assumption | omega)],
     loads := [⟨34, 0, 0, (.ref 1), fun w q h => loadQ_0 w q h⟩,
      ⟨34, 2, 0, (.ref 3), fun w q h => loadQ_2 w q h⟩,
      ⟨36, 0, 2, (.ref 4), fun w q h => loadQ_all w q h⟩],
     allocs := [⟨36, 1, _, allocQ_run, allocQ_old⟩],
     boxes := [⟨36, (.ref 0), 0, fun w v h => boxQ_run w v h⟩],
     stores := [⟨36, 0, 1, (.ref 4), 2, storeQ_zero⟩],
     flds := [⟨36, 0, 0, fldQ0⟩,
      ⟨36, 1, 2, fldQ1⟩] }
   Tryz.func41 ⟨hva, trivial⟩ (by kernel_rfl)
theorem add_divInt (x y : Rat) : Rat.divInt (x.num * (y.den : Int) + y.num * (x.den : Int)) ((x.den : Int) * (y.den : Int)) = x + y := by
  have h := Rat.divInt_add_divInt x.num y.num (Int.ne_of_gt (den_pos' x)) (Int.ne_of_gt (den_pos' y))
  rw [Rat.num_divInt_den, Rat.num_divInt_den] at h
  exact h.symm
theorem mul_divInt (x y : Rat) : Rat.divInt (x.num * y.num) ((x.den : Int) * (y.den : Int)) = x * y := by
  have h := Rat.divInt_mul_divInt x.num y.num (d₁ := (x.den : Int)) (d₂ := (y.den : Int))
  rw [Rat.num_divInt_den, Rat.num_divInt_den] at h
  exact h.symm
theorem div_divInt (x y : Rat) : Rat.divInt (x.num * (y.den : Int)) ((x.den : Int) * y.num) = x / y := by
  have h := Rat.divInt_mul_divInt x.num (y.den : Int) (d₁ := (x.den : Int)) (d₂ := y.num)
  rw [Rat.num_divInt_den, ← Rat.inv_divInt, Rat.num_divInt_den, ← Rat.div_def] at h
  exact h.symm
theorem dd_ne (x y : Rat) : (x.den : Int) * (y.den : Int) ≠ 0 := Int.mul_ne_zero (Int.ne_of_gt (den_pos' x)) (Int.ne_of_gt (den_pos' y))
theorem dn_ne {x y : Rat} (h : y ≠ 0) : (x.den : Int) * y.num ≠ 0 := Int.mul_ne_zero (Int.ne_of_gt (den_pos' x)) (fun e => h (Rat.num_eq_zero.1 e))
theorem dn_eq {x y : Rat} (h : y = 0) : (x.den : Int) * y.num = 0 := by subst h; exact Int.mul_zero _
theorem cmpR_sub (x y : Rat) : cmpR (x - y) 0 = cmpR x y := by
  unfold cmpR
  have h1 : x - y < 0 ↔ x < y := by
    have := Rat.add_lt_add_right (a := x) (b := y) (c := -y)
    rwa [Rat.add_neg_cancel, ← Rat.sub_eq_add_neg] at this
  have h2 : x - y = 0 ↔ x = y := by
    rw [Rat.sub_eq_add_neg]
    constructor
    · intro h
      have e : x + -y + y = y := by rw [h, Rat.zero_add]
      rwa [Rat.add_assoc, Rat.neg_add_cancel, Rat.add_zero] at e
    · rintro rfl; exact Rat.add_neg_cancel _
  simp only [h1, h2]
theorem kPAddOf {x y : Rat} {i j : Nat} {va vb : Value} {w : World} (ha : (intF (x.num * (y.den : Int) + y.num * (x.den : Int))).p va w) (hb : (intF ((x.den : Int) * (y.den : Int))).p vb w) (sx : RSm x i) (sy : RSm y j) (hi : i ≤ 140000000) (hj : j ≤ 140000000) : Calls Tryz.prog 89 #[va, vb] w (GivesP (ratF (x + y)) w) := by
  rw [← add_divInt]
  exact ofP_any va vb w ha hb ((sx.1.mul sy.2).add (sy.1.mul sx.2)) (sx.2.mul sy.2) (by omega) (by omega) (dd_ne x y)
theorem kPMulOf {x y : Rat} {i j : Nat} {va vb : Value} {w : World} (ha : (intF (x.num * y.num)).p va w) (hb : (intF ((x.den : Int) * (y.den : Int))).p vb w) (sx : RSm x i) (sy : RSm y j) (hi : i ≤ 140000000) (hj : j ≤ 140000000) : Calls Tryz.prog 89 #[va, vb] w (GivesP (ratF (x * y)) w) := by
  rw [← mul_divInt]
  exact ofP_any va vb w ha hb (sx.1.mul sy.1) (sx.2.mul sy.2) (by omega) (by omega) (dd_ne x y)
theorem kPDivOf {x y : Rat} {i j : Nat} {va vb : Value} {w : World} (ha : (intF (x.num * (y.den : Int))).p va w) (hb : (intF ((x.den : Int) * y.num)).p vb w) (sx : RSm x i) (sy : RSm y j) (hi : i ≤ 140000000) (hj : j ≤ 140000000) (ny : y ≠ 0) : Calls Tryz.prog 119 #[va, vb] w (GivesP (tup2F (ratF (x / y)) (eqF (.int .i64 0))) w) := by
  rw [← div_divInt]
  exact kPOf ha hb (sx.1.mul sy.2) (sx.2.mul sy.1) (by omega) (by omega) (dn_ne ny)
theorem kPDivOf0 {x y : Rat} {i j : Nat} {va vb : Value} {w : World} (ha : (intF (x.num * (y.den : Int))).p va w) (hb : (intF ((x.den : Int) * y.num)).p vb w) (sx : RSm x i) (sy : RSm y j) (hi : i ≤ 140000000) (hj : j ≤ 140000000) (ny : y = 0) : Calls Tryz.prog 119 #[va, vb] w (GivesP (tup2F (pairF 0 0) (eqF (.int .i64 3))) w) :=
  kPOf0 ha hb (sx.1.mul sy.2) (sx.2.mul sy.1) (by omega) (by omega) (dn_eq ny)
set_option maxRecDepth 100000 in
theorem kPAdd0 {x y : Rat} {i j : Nat} (va : Value) (vb : Value) (W : World) (hva : (ratF x).p va W) (hvb : (ratF y).p vb W) (sx : RSm x i) (sy : RSm y j) (hi : i ≤ 140000000) (hj : j ≤ 140000000) : Calls Tryz.prog 40 #[va, vb] W (GivesP (ratF (x + y)) W) := by
  let E : List PF := [(ratF x), (ratF y), (intF x.num), (intF (y.den : Int)), (intF (x.num * (y.den : Int))), (intF y.num), (intF (x.den : Int)), (intF (y.num * (x.den : Int))), (intF ((x.num * (y.den : Int)) + (y.num * (x.den : Int)))), (intF ((x.den : Int) * (y.den : Int))), (ratF (x + y))]
  let EB : List CF := [(boxQ x), (boxQ y), zeroQF, zeroIF, (boxIF ((x.num * (y.den : Int)) + (y.num * (x.den : Int)))), (boxQ (x + y))]
  exact auto_calls (E := E) (EB := EB) (fs := [(.ref 0), (.ref 1)]) (r := (.ref 10))
   { calls := [c2 88 (.ref 2) (.ref 3) (.ref 4) fun w v0 v1 hb h0 h1 => kRMul h0 h1 sx.1 sy.2 (by first | decide | assumption | omega) (by first | decide | assumption | omega),
      c2 88 (.ref 5) (.ref 6) (.ref 7) fun w v0 v1 hb h0 h1 => kRMul h0 h1 sy.1 sx.2 (by first | decide | assumption | omega) (by first | decide | assumption | omega),
      c2 87 (.ref 4) (.ref 7) (.ref 8) fun w v0 v1 hb h0 h1 => kRAdd h0 h1 (sx.1.mul sy.2) (sy.1.mul sx.2) (by first | decide | assumption | omega) (by first | decide | assumption | omega),
      c2 88 (.ref 6) (.ref 3) (.ref 9) fun w v0 v1 hb h0 h1 => kRMul h0 h1 sx.2 sy.2 (by first | decide | assumption | omega) (by first | decide | assumption | omega),
      c2 89 (.ref 8) (.ref 9) (.ref 10) fun w v0 v1 hb h0 h1 => kPAddOf h0 h1 sx sy hi hj],
     loads := [⟨34, 0, 0, (.ref 2), fun w q h => loadQ_0 w q h⟩,
      ⟨34, 2, 1, (.ref 3), fun w q h => loadQ_2 w q h⟩,
      ⟨34, 0, 1, (.ref 5), fun w q h => loadQ_0 w q h⟩,
      ⟨34, 2, 0, (.ref 6), fun w q h => loadQ_2 w q h⟩,
      ⟨34, 0, 4, (.ref 8), fun w q h => loadI_int w q h⟩,
      ⟨36, 0, 5, (.ref 10), fun w q h => loadQ_all w q h⟩],
     allocs := [⟨36, 2, _, allocQ_run, allocQ_old⟩,
      ⟨34, 3, _, allocI_run, allocI_old⟩],
     boxes := [⟨36, (.ref 0), 0, fun w v h => boxQ_run w v h⟩,
      ⟨36, (.ref 1), 1, fun w v h => boxQ_run w v h⟩],
     stores := [⟨34, 0, 3, (.ref 8), 4, (storeI_zero _)⟩,
      ⟨36, 0, 2, (.ref 10), 5, storeQ_zero⟩],
     flds := [⟨36, 0, 0, fldQ0⟩,
      ⟨36, 1, 2, fldQ1⟩] }
   Tryz.func40 ⟨hva, hvb, trivial⟩ (by kernel_rfl)
set_option maxRecDepth 100000 in
theorem kPMul0 {x y : Rat} {i j : Nat} (va : Value) (vb : Value) (W : World) (hva : (ratF x).p va W) (hvb : (ratF y).p vb W) (sx : RSm x i) (sy : RSm y j) (hi : i ≤ 140000000) (hj : j ≤ 140000000) : Calls Tryz.prog 42 #[va, vb] W (GivesP (ratF (x * y)) W) := by
  let E : List PF := [(ratF x), (ratF y), (intF x.num), (intF y.num), (intF (x.num * y.num)), (intF (x.den : Int)), (intF (y.den : Int)), (intF ((x.den : Int) * (y.den : Int))), (ratF (x * y))]
  let EB : List CF := [(boxQ x), (boxQ y), zeroQF, (boxQ (x * y))]
  exact auto_calls (E := E) (EB := EB) (fs := [(.ref 0), (.ref 1)]) (r := (.ref 8))
   { calls := [c2 88 (.ref 2) (.ref 3) (.ref 4) fun w v0 v1 hb h0 h1 => kRMul h0 h1 sx.1 sy.1 (by first | decide | assumption | omega) (by first | decide | assumption | omega),
      c2 88 (.ref 5) (.ref 6) (.ref 7) fun w v0 v1 hb h0 h1 => kRMul h0 h1 sx.2 sy.2 (by first | decide | assumption | omega) (by first | decide | assumption | omega),
      c2 89 (.ref 4) (.ref 7) (.ref 8) fun w v0 v1 hb h0 h1 => kPMulOf h0 h1 sx sy hi hj],
     loads := [⟨34, 0, 0, (.ref 2), fun w q h => loadQ_0 w q h⟩,
      ⟨34, 0, 1, (.ref 3), fun w q h => loadQ_0 w q h⟩,
      ⟨34, 2, 0, (.ref 5), fun w q h => loadQ_2 w q h⟩,
      ⟨34, 2, 1, (.ref 6), fun w q h => loadQ_2 w q h⟩,
      ⟨36, 0, 3, (.ref 8), fun w q h => loadQ_all w q h⟩],
     allocs := [⟨36, 2, _, allocQ_run, allocQ_old⟩],
     boxes := [⟨36, (.ref 0), 0, fun w v h => boxQ_run w v h⟩,
      ⟨36, (.ref 1), 1, fun w v h => boxQ_run w v h⟩],
     stores := [⟨36, 0, 2, (.ref 8), 3, storeQ_zero⟩],
     flds := [⟨36, 0, 0, fldQ0⟩,
      ⟨36, 1, 2, fldQ1⟩] }
   Tryz.func42 ⟨hva, hvb, trivial⟩ (by kernel_rfl)
set_option maxRecDepth 100000 in
theorem kPSub0 {x y : Rat} {i j : Nat} (va : Value) (vb : Value) (W : World) (hva : (ratF x).p va W) (hvb : (ratF y).p vb W) (sx : RSm x i) (sy : RSm y j) (hi : i ≤ 140000000) (hj : j ≤ 140000000) : Calls Tryz.prog 81 #[va, vb] W (GivesP (ratF (x + -y)) W) := by
  let E : List PF := [(ratF x), (ratF y), (ratF (-y)), (ratF (x + -y))]
  let EB : List CF := [(boxQ x), (boxQ y), zeroQF, (boxQ (x + -y))]
  exact auto_calls (E := E) (EB := EB) (fs := [(.ref 0), (.ref 1)]) (r := (.ref 3))
   { calls := [c1 41 (.ref 1) (.ref 2) fun w v0 hb h0 => kPNeg0 _ _ h0 sy (by omega),
      c2 40 (.ref 0) (.ref 2) (.ref 3) fun w v0 v1 hb h0 h1 => kPAdd0 _ _ _ h0 h1 sx sy.neg hi hj],
     loads := [⟨36, 0, 0, (.ref 0), fun w q h => loadQ_all w q h⟩,
      ⟨36, 0, 1, (.ref 1), fun w q h => loadQ_all w q h⟩,
      ⟨36, 0, 3, (.ref 3), fun w q h => loadQ_all w q h⟩],
     allocs := [⟨36, 2, _, allocQ_run, allocQ_old⟩],
     boxes := [⟨36, (.ref 0), 0, fun w v h => boxQ_run w v h⟩,
      ⟨36, (.ref 1), 1, fun w v h => boxQ_run w v h⟩],
     stores := [⟨36, 0, 2, (.ref 3), 3, storeQ_zero⟩] }
   Tryz.func81 ⟨hva, hvb, trivial⟩ (by kernel_rfl)
set_option maxRecDepth 100000 in
theorem kPSign0 {x : Rat} {i : Nat} (va : Value) (W : World) (hva : (ratF x).p va W) (sx : RSm x i) (_hi : i ≤ 600000000) : Calls Tryz.prog 48 #[va] W (GivesP (eqF (.int .i64 (Int.sign x.num))) W) := by
  let E : List PF := [(ratF x), (intF x.num), (eqF (.int .i64 (Int.sign x.num)))]
  let EB : List CF := [(boxQ x)]
  exact auto_calls (E := E) (EB := EB) (fs := [(.ref 0)]) (r := (.ref 2))
   { calls := [c1 98 (.ref 1) (.ref 2) fun w v0 hb h0 => kRSign h0 sx.1 (by first | decide | assumption | omega)],
     loads := [⟨34, 0, 0, (.ref 1), fun w q h => loadQ_0 w q h⟩],
     boxes := [⟨36, (.ref 0), 0, fun w v h => boxQ_run w v h⟩],
     flds := [⟨36, 0, 0, fldQ0⟩] }
   Tryz.func48 ⟨hva, trivial⟩ (by kernel_rfl)
theorem kPSub1 {x y : Rat} {i j : Nat} {va vb : Value} {w : World} (ha : (ratF x).p va w) (hb : (ratF y).p vb w) (sx : RSm x i) (sy : RSm y j) (hi : i ≤ 140000000) (hj : j ≤ 140000000) : Calls Tryz.prog 81 #[va, vb] w (GivesP (ratF (x - y)) w) := by
  rw [Rat.sub_eq_add_neg]; exact kPSub0 va vb w ha hb sx sy hi hj
set_option maxRecDepth 100000 in
theorem kPCmp0 {x y : Rat} {i j : Nat} (va : Value) (vb : Value) (W : World) (hva : (ratF x).p va W) (hvb : (ratF y).p vb W) (sx : RSm x i) (sy : RSm y j) (hi : i ≤ 140000000) (hj : j ≤ 140000000) : Calls Tryz.prog 32 #[va, vb] W (GivesP (eqF (.int .i64 (Int.sign (x + -y).num))) W) := by
  let E : List PF := [(ratF x), (ratF y), (ratF (x + -y)), (eqF (.int .i64 (Int.sign (x + -y).num)))]
  let EB : List CF := [(boxQ x), (boxQ y)]
  exact auto_calls (E := E) (EB := EB) (fs := [(.ref 0), (.ref 1)]) (r := (.ref 3))
   { calls := [c2 81 (.ref 0) (.ref 1) (.ref 2) fun w v0 v1 hb h0 h1 => kPSub0 _ _ _ h0 h1 sx sy hi hj,
      c1 48 (.ref 2) (.ref 3) fun w v0 hb h0 => kPSign0 _ _ h0 (sx.add sy.neg) (by omega)],
     loads := [⟨36, 0, 0, (.ref 0), fun w q h => loadQ_all w q h⟩,
      ⟨36, 0, 1, (.ref 1), fun w q h => loadQ_all w q h⟩],
     boxes := [⟨36, (.ref 0), 0, fun w v h => boxQ_run w v h⟩,
      ⟨36, (.ref 1), 1, fun w v h => boxQ_run w v h⟩] }
   Tryz.func32 ⟨hva, hvb, trivial⟩ (by kernel_rfl)
set_option maxRecDepth 100000 in
theorem kPDiv1 {x y : Rat} {i j : Nat} (va : Value) (vb : Value) (W : World) (hva : (ratF x).p va W) (hvb : (ratF y).p vb W) (sx : RSm x i) (sy : RSm y j) (hi : i ≤ 140000000) (hj : j ≤ 140000000) (ny : y ≠ 0) : Calls Tryz.prog 105 #[va, vb] W (GivesP (tup2F (ratF (x / y)) (eqF (.int .i64 0))) W) := by
  let E : List PF := [(ratF x), (ratF y), (intF x.num), (intF (y.den : Int)), (intF (x.num * (y.den : Int))), (intF (x.den : Int)), (intF y.num), (intF ((x.den : Int) * y.num)), (ratF (x / y))]
  let EB : List CF := [(boxQ x), (boxQ y), zeroQF, (boxQ (x / y))]
  exact auto_calls (E := E) (EB := EB) (fs := [(.ref 0), (.ref 1)]) (r := (.tup2 (.ref 8) (.int .i64 0)))
   { calls := [c2 88 (.ref 2) (.ref 3) (.ref 4) fun w v0 v1 hb h0 h1 => kRMul h0 h1 sx.1 sy.2 (by first | decide | assumption | omega) (by first | decide | assumption | omega),
      c2 88 (.ref 5) (.ref 6) (.ref 7) fun w v0 v1 hb h0 h1 => kRMul h0 h1 sx.2 sy.1 (by first | decide | assumption | omega) (by first | decide | assumption | omega),
      c2 119 (.ref 4) (.ref 7) (.tup2 (.ref 8) (.int .i64 0)) fun w v0 v1 hb h0 h1 => kPDivOf h0 h1 sx sy hi hj ny],
     loads := [⟨34, 0, 0, (.ref 2), fun w q h => loadQ_0 w q h⟩,
      ⟨34, 2, 1, (.ref 3), fun w q h => loadQ_2 w q h⟩,
      ⟨34, 2, 0, (.ref 5), fun w q h => loadQ_2 w q h⟩,
      ⟨34, 0, 1, (.ref 6), fun w q h => loadQ_0 w q h⟩,
      ⟨36, 0, 3, (.ref 8), fun w q h => loadQ_all w q h⟩],
     allocs := [⟨36, 2, _, allocQ_run, allocQ_old⟩],
     boxes := [⟨36, (.ref 0), 0, fun w v h => boxQ_run w v h⟩,
      ⟨36, (.ref 1), 1, fun w v h => boxQ_run w v h⟩],
     stores := [⟨36, 0, 2, (.ref 8), 3, storeQ_zero⟩],
     flds := [⟨36, 0, 0, fldQ0⟩,
      ⟨36, 1, 2, fldQ1⟩] }
   Tryz.func105 ⟨hva, hvb, trivial⟩ (by kernel_rfl)
set_option maxRecDepth 100000 in
theorem kPDiv2 {x y : Rat} {i j : Nat} (va : Value) (vb : Value) (W : World) (hva : (ratF x).p va W) (hvb : (ratF y).p vb W) (sx : RSm x i) (sy : RSm y j) (hi : i ≤ 140000000) (hj : j ≤ 140000000) (ny : y = 0) : Calls Tryz.prog 105 #[va, vb] W (GivesP (tup2F (pairF 0 0) (eqF (.int .i64 3))) W) := by
  let E : List PF := [(ratF x), (ratF y), (intF x.num), (intF (y.den : Int)), (intF (x.num * (y.den : Int))), (intF (x.den : Int)), (intF y.num), (intF ((x.den : Int) * y.num)), (pairF 0 0)]
  let EB : List CF := [(boxQ x), (boxQ y), zeroQF, (boxQF 0 0)]
  exact auto_calls (E := E) (EB := EB) (fs := [(.ref 0), (.ref 1)]) (r := (.tup2 (.ref 8) (.int .i64 3)))
   { calls := [c2 88 (.ref 2) (.ref 3) (.ref 4) fun w v0 v1 hb h0 h1 => kRMul h0 h1 sx.1 sy.2 (by first | decide | assumption | omega) (by first | decide | assumption | omega),
      c2 88 (.ref 5) (.ref 6) (.ref 7) fun w v0 v1 hb h0 h1 => kRMul h0 h1 sx.2 sy.1 (by first | decide | assumption | omega) (by first | decide | assumption | omega),
      c2 119 (.ref 4) (.ref 7) (.tup2 (.ref 8) (.int .i64 3)) fun w v0 v1 hb h0 h1 => kPDivOf0 h0 h1 sx sy hi hj ny],
     loads := [⟨34, 0, 0, (.ref 2), fun w q h => loadQ_0 w q h⟩,
      ⟨34, 2, 1, (.ref 3), fun w q h => loadQ_2 w q h⟩,
      ⟨34, 2, 0, (.ref 5), fun w q h => loadQ_2 w q h⟩,
      ⟨34, 0, 1, (.ref 6), fun w q h => loadQ_0 w q h⟩,
      ⟨36, 0, 3, (.ref 8), fun w q h => loadQ_all w q h⟩],
     allocs := [⟨36, 2, _, allocQ_run, allocQ_old⟩],
     boxes := [⟨36, (.ref 0), 0, fun w v h => boxQ_run w v h⟩,
      ⟨36, (.ref 1), 1, fun w v h => boxQ_run w v h⟩],
     stores := [⟨36, 0, 2, (.ref 8), 3, storeQ_zero⟩],
     flds := [⟨36, 0, 0, fldQ0⟩,
      ⟨36, 1, 2, fldQ1⟩] }
   Tryz.func105 ⟨hva, hvb, trivial⟩ (by kernel_rfl)
set_option maxRecDepth 100000 in
theorem kPWhole0 {z : Int} (W : World) (hz0 : -9223372036854775808 ≤ z) (hz1 : z ≤ 9223372036854775807) : Calls Tryz.prog 39 #[.int .i64 z] W (GivesP (ratF (z : Rat)) W) := by
  let E : List PF := [(eqF (.int .i64 z)), (intF z), (intF 1), (ratF ((z : Int) : Rat))]
  let EB : List CF := [zeroQF, (boxQ ((z : Int) : Rat))]
  exact auto_calls (E := E) (EB := EB) (fs := [(.ref 0)]) (r := (.ref 3))
   { pures := [p2 (.bld 36 [0, 1]) (.ref 1) (.ref 2) (.ref 3) fun _ _ _ _ _ hx hy => h_buildQ_eq (wholeQ_eq z).1.symm (wholeQ_eq z).2.symm hx hy],
     calls := [c1 86 (.ref 0) (.ref 1) fun w v0 hb h0 => kROf z hz0 hz1 h0,
      c1 86 (.int .i64 1) (.ref 2) fun w v0 hb h0 => kROf 1 (by omega) (by omega) h0],
     loads := [⟨36, 0, 1, (.ref 3), fun w q h => loadQ_all w q h⟩],
     allocs := [⟨36, 0, _, allocQ_run, allocQ_old⟩],
     stores := [⟨36, 0, 0, (.ref 3), 1, storeQ_zero⟩] }
   Tryz.func39 ⟨rfl, trivial⟩ (by kernel_rfl)
set_option maxRecDepth 100000 in
theorem MadeP_any {x y : Int} (W : World) (hx0 : -9223372036854775808 ≤ x) (hx1 : x ≤ 9223372036854775807) (hy0 : -9223372036854775808 ≤ y) (hy1 : y ≤ 9223372036854775807) (ny : y ≠ 0) : Calls Tryz.prog 50 #[.int .i64 x, .int .i64 y] W (GivesP (ratF (Rat.divInt x y)) W) := by
  let E : List PF := [(eqF (.int .i64 x)), (eqF (.int .i64 y)), (intF x), (intF y), (ratF (Rat.divInt x y))]
  let EB : List CF := [zeroQF, (boxQ (Rat.divInt x y))]
  exact auto_calls (E := E) (EB := EB) (fs := [(.ref 0), (.ref 1)]) (r := (.ref 4))
   { pures := [p2 (.bin .eql 2 2) (.ref 1) (.int .i64 0) (.bool false) fun _ _ _ _ _ hx hy => h_eqlI (r := false) (by simpa using ny) hx hy],
     calls := [c1 86 (.ref 0) (.ref 2) fun w v0 hb h0 => kROf x hx0 hx1 h0,
      c1 86 (.ref 1) (.ref 3) fun w v0 hb h0 => kROf y hy0 hy1 h0,
      c2 89 (.ref 2) (.ref 3) (.ref 4) fun w v0 v1 hb h0 h1 => ofP_any _ _ _ h0 h1 (sm_i64 hx0 hx1) (sm_i64 hy0 hy1) (by decide) (by decide) ny],
     loads := [⟨36, 0, 1, (.ref 4), fun w q h => loadQ_all w q h⟩],
     allocs := [⟨36, 0, _, allocQ_run, allocQ_old⟩],
     stores := [⟨36, 0, 0, (.ref 4), 1, storeQ_zero⟩] }
   Tryz.func50 ⟨rfl, rfl, trivial⟩ (by kernel_rfl)
set_option maxRecDepth 100000 in
theorem DivQ_1 {x y : Rat} {i j : Nat} (va : Value) (vb : Value) (W : World) (hva : (ratF x).p va W) (hvb : (ratF y).p vb W) (sx : RSm x i) (sy : RSm y j) (_hi : i ≤ 100000000) (_hj : j ≤ 100000000) (ny : y ≠ 0) : Calls Tryz.prog 99 #[va, vb] W (GivesP (tup2F (ratF (x * y⁻¹)) (eqF (.int .i64 0))) W) := by
  let E : List PF := [(ratF x), (ratF y), (eqF (.int .i64 (cmpR y 0))), (ratF y⁻¹), (ratF (x * y⁻¹))]
  let EB : List CF := [(boxQ x), (boxQ y), zeroQF, (boxQ (x * y⁻¹))]
  exact auto_calls (E := E) (EB := EB) (fs := [(.ref 0), (.ref 1)]) (r := (.tup2 (.ref 4) (.int .i64 0)))
   { pures := [p2 (.bin .eql 3 3) (.ref 2) (.int .i64 0) (.bool false) fun _ _ _ _ _ hx hy => h_eqlI (r := false) (cmp0_ne ny) hx hy],
     calls := [c1 100 (.ref 1) (.ref 2) fun w v0 hb h0 => kQSign h0 sy (by first | decide | assumption | omega),
      c1 121 (.ref 1) (.ref 3) fun w v0 hb h0 => kQInv h0 sy (by first | decide | assumption | omega) ny,
      c2 58 (.ref 0) (.ref 3) (.ref 4) fun w v0 v1 hb h0 h1 => kQMul h0 h1 sx sy.inv (by first | decide | assumption | omega) (by first | decide | assumption | omega)],
     loads := [⟨36, 0, 1, (.ref 1), fun w q h => loadQ_all w q h⟩,
      ⟨36, 0, 0, (.ref 0), fun w q h => loadQ_all w q h⟩,
      ⟨36, 0, 3, (.ref 4), fun w q h => loadQ_all w q h⟩],
     allocs := [⟨36, 2, _, allocQ_run, allocQ_old⟩],
     boxes := [⟨36, (.ref 0), 0, fun w v h => boxQ_run w v h⟩,
      ⟨36, (.ref 1), 1, fun w v h => boxQ_run w v h⟩],
     stores := [⟨36, 0, 2, (.ref 4), 3, storeQ_zero⟩] }
   Tryz.func99 ⟨hva, hvb, trivial⟩ (by kernel_rfl)
set_option maxRecDepth 100000 in
theorem DivQ_2 {x y : Rat} {i j : Nat} (va : Value) (vb : Value) (W : World) (hva : (ratF x).p va W) (hvb : (ratF y).p vb W) (_sx : RSm x i) (sy : RSm y j) (_hi : i ≤ 100000000) (_hj : j ≤ 100000000) (ny : y = 0) : Calls Tryz.prog 99 #[va, vb] W (GivesP (tup2F (pairF 0 0) (eqF (.int .i64 3))) W) := by
  let E : List PF := [(ratF x), (ratF y), (eqF (.int .i64 (cmpR y 0))), (pairF 0 0)]
  let EB : List CF := [(boxQ x), (boxQ y), zeroQF, (boxQF 0 0)]
  exact auto_calls (E := E) (EB := EB) (fs := [(.ref 0), (.ref 1)]) (r := (.tup2 (.ref 3) (.int .i64 3)))
   { pures := [p2 (.bin .eql 3 3) (.ref 2) (.int .i64 0) (.bool true) fun _ _ _ _ _ hx hy => h_eqlI (r := true) (cmp0_eq ny) hx hy,
      p0 (.bld 36 []) (.ref 3) fun _ _ _ => h_buildQ0],
     calls := [c1 100 (.ref 1) (.ref 2) fun w v0 hb h0 => kQSign h0 sy (by first | decide | assumption | omega)],
     loads := [⟨36, 0, 1, (.ref 1), fun w q h => loadQ_all w q h⟩,
      ⟨36, 0, 3, (.ref 3), fun w q h => loadQ_all w q h⟩],
     allocs := [⟨36, 2, _, allocQ_run, allocQ_old⟩],
     boxes := [⟨36, (.ref 0), 0, fun w v h => boxQ_run w v h⟩,
      ⟨36, (.ref 1), 1, fun w v h => boxQ_run w v h⟩],
     stores := [⟨36, 0, 2, (.ref 3), 3, storeQ_zero⟩] }
   Tryz.func99 ⟨hva, hvb, trivial⟩ (by kernel_rfl)
section
variable {w : World} {va vb : Value} {x y : Rat} {i j : Nat}
theorem kPAdd (ha : (ratF x).p va w) (hb : (ratF y).p vb w) (sx : RSm x i) (sy : RSm y j) (hi : i ≤ 140000000) (hj : j ≤ 140000000) : Calls Tryz.prog 40 #[va, vb] w (GivesP (ratF (x + y)) w) := kPAdd0 va vb w ha hb sx sy hi hj
theorem kPSub (ha : (ratF x).p va w) (hb : (ratF y).p vb w) (sx : RSm x i) (sy : RSm y j) (hi : i ≤ 140000000) (hj : j ≤ 140000000) : Calls Tryz.prog 81 #[va, vb] w (GivesP (ratF (x - y)) w) := kPSub1 ha hb sx sy hi hj
theorem kPMul (ha : (ratF x).p va w) (hb : (ratF y).p vb w) (sx : RSm x i) (sy : RSm y j) (hi : i ≤ 140000000) (hj : j ≤ 140000000) : Calls Tryz.prog 42 #[va, vb] w (GivesP (ratF (x * y)) w) := kPMul0 va vb w ha hb sx sy hi hj
theorem kPNeg (ha : (ratF x).p va w) (sx : RSm x i) (hi : i ≤ 300000000) : Calls Tryz.prog 41 #[va] w (GivesP (ratF (-x)) w) := kPNeg0 va w ha sx hi
theorem kPSign (ha : (ratF x).p va w) (sx : RSm x i) (hi : i ≤ 300000000) : Calls Tryz.prog 48 #[va] w (GivesP (eqF (.int .i64 (cmpR x 0))) w) := by
  rw [← sign_cmp]; exact kPSign0 va w ha sx (by omega)
theorem kPCmp (ha : (ratF x).p va w) (hb : (ratF y).p vb w) (sx : RSm x i) (sy : RSm y j) (hi : i ≤ 140000000) (hj : j ≤ 140000000) : Calls Tryz.prog 32 #[va, vb] w (GivesP (eqF (.int .i64 (cmpR x y))) w) := by
  rw [show cmpR x y = Int.sign (x + -y).num from ?_]
  · exact kPCmp0 va vb w ha hb sx sy hi hj
  · rw [sign_cmp, ← Rat.sub_eq_add_neg]; exact (cmpR_sub x y).symm
theorem kPDiv (ha : (ratF x).p va w) (hb : (ratF y).p vb w) (sx : RSm x i) (sy : RSm y j) (hi : i ≤ 140000000) (hj : j ≤ 140000000) (ny : y ≠ 0) : Calls Tryz.prog 105 #[va, vb] w (GivesP (tup2F (ratF (x / y)) (eqF (.int .i64 0))) w) := kPDiv1 va vb w ha hb sx sy hi hj ny
theorem kPDiv0 (ha : (ratF x).p va w) (hb : (ratF y).p vb w) (sx : RSm x i) (sy : RSm y j) (hi : i ≤ 140000000) (hj : j ≤ 140000000) (ny : y = 0) : Calls Tryz.prog 105 #[va, vb] w (GivesP (tup2F (pairF 0 0) (eqF (.int .i64 3))) w) := kPDiv2 va vb w ha hb sx sy hi hj ny
theorem kQDiv (ha : (ratF x).p va w) (hb : (ratF y).p vb w) (sx : RSm x i) (sy : RSm y j) (hi : i ≤ 100000000) (hj : j ≤ 100000000) (ny : y ≠ 0) : Calls Tryz.prog 99 #[va, vb] w (GivesP (tup2F (ratF (x / y)) (eqF (.int .i64 0))) w) := by
  rw [Rat.div_def]; exact DivQ_1 va vb w ha hb sx sy hi hj ny
theorem kQDiv0 (ha : (ratF x).p va w) (hb : (ratF y).p vb w) (sx : RSm x i) (sy : RSm y j) (hi : i ≤ 100000000) (hj : j ≤ 100000000) (ny : y = 0) : Calls Tryz.prog 99 #[va, vb] w (GivesP (tup2F (pairF 0 0) (eqF (.int .i64 3))) w) := DivQ_2 va vb w ha hb sx sy hi hj ny
theorem kPWhole (z : Int) (h0 : -9223372036854775808 ≤ z) (h1 : z ≤ 9223372036854775807) (hv : (eqF (.int .i64 z)).p va w) : Calls Tryz.prog 39 #[va] w (GivesP (ratF (z : Rat)) w) := by
  have hv : va = .int .i64 z := hv
  rw [hv]
  exact kPWhole0 w h0 h1
end
end Go.Proofs.YtgaehhapjnbieaaGreat
namespace Go.Proofs.YtgaehhapjnbieaaGreat
open Go.RowKit
end Go.Proofs.YtgaehhapjnbieaaGreat
namespace Go.Proofs.YtgaehhapjnbieaaGreat
open Go.RowKit
def QRel (W : World) (wr : World) (z : Rat) : Prop := (boxQ z).p W.heap.size wr ∧ Below W.heap.size W wr ∧ Grow W wr
theorem QRel.cells {W wr : World} {z : Rat} (h : QRel W wr z) : ∃ b A k c b' A' k' c', wr.cell? ⟨W.heap.size, 0, none⟩ = some (.bool b) ∧ wr.cell? ⟨W.heap.size, 1, none⟩ = some (.slice A k c) ∧ wr.cell? ⟨W.heap.size, 2, none⟩ = some (.bool b') ∧ wr.cell? ⟨W.heap.size, 3, none⟩ = some (.slice A' k' c') ∧ Hid (PairAt wr (.agg #[.bool b, .slice A k c, .bool b', .slice A' k' c']) z.num (z.den : Int)) := by
  obtain ⟨⟨b, A, k, c, b', A', k', c', hh, h1, h2⟩, _, _⟩ := h
  obtain ⟨e0, e1, e2, e3⟩ := q_cells hh
  exact ⟨b, A, k, c, b', A', k', c', e0, e1, e2, e3, ⟨_, _, _, _, _, _, _, _, rfl, h1, h2⟩⟩
end Go.Proofs.YtgaehhapjnbieaaGreat
namespace Go.Proofs.YtgaehhapjnbieaaGreat
open Go.RowKit
set_option maxRecDepth 100000 in
theorem MadeP_zero {x : Int} (W : World) (hx0 : -9223372036854775808 ≤ x) (hx1 : x ≤ 9223372036854775807) : Calls Tryz.prog 50 #[.int .i64 x, .int .i64 0] W (GivesP (ratF (Rat.divInt x 1)) W) := by
  let E : List PF := [(eqF (.int .i64 x)), (eqF (.int .i64 0)), (intF x), (intF 1), (ratF (Rat.divInt x 1))]
  let EB : List CF := [zeroQF, (boxQ (Rat.divInt x 1))]
  exact auto_calls (E := E) (EB := EB) (fs := [(.ref 0), (.ref 1)]) (r := (.ref 4))
   { pures := [p2 (.bin .eql 2 2) (.ref 1) (.int .i64 0) (.bool true) fun _ _ _ _ _ hx hy => h_eqlI (r := true) (by simp) hx hy],
     calls := [c1 86 (.ref 0) (.ref 2) fun w v0 hb h0 => kROf x hx0 hx1 h0,
      c1 86 (.int .i64 1) (.ref 3) fun w v0 hb h0 => kROf 1 (by omega) (by omega) h0,
      c2 89 (.ref 2) (.ref 3) (.ref 4) fun w v0 v1 hb h0 h1 => ofP_any _ _ _ h0 h1 (sm_i64 hx0 hx1) (Sm.of 1 (by decide)) (by decide) (by decide) (by decide)],
     loads := [⟨36, 0, 1, (.ref 4), fun w q h => loadQ_all w q h⟩],
     allocs := [⟨36, 0, _, allocQ_run, allocQ_old⟩],
     stores := [⟨36, 0, 0, (.ref 4), 1, storeQ_zero⟩] }
   Tryz.func50 ⟨rfl, rfl, trivial⟩ (by kernel_rfl)
end Go.Proofs.YtgaehhapjnbieaaGreat
