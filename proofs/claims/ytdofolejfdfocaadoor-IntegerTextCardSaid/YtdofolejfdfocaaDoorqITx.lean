/- The law IntegerText answers true, given the fixed examples (written by wip/tools/gen_itext.py). -/
import Derived.Test.YtdofolejfdfocaaDoorqRRd
import Derived.Test.YtdofolejfdfocaaDoorqText
namespace Go.Proofs.YtdofolejfdfocaaDoor
open Go.RowKit Go.Lib

theorem textZ_len {z : Int} {i : Nat} (sz : Sm z i) (hi : i ≤ 100) : (textZ z).length ≤ 1002 := by
  have key : (decDigits z.natAbs).length ≤ 1001 := by
    rw [decDigits_length]
    by_cases h : 0 < z.natAbs
    · have h1 := nDigits_limbs z.natAbs h
      have h2 := len_le_pow sz
      omega
    · rw [show z.natAbs = 0 by omega, nDigits_small (by decide)]
      omega
  unfold textZ
  split
  · rw [List.length_cons]; omega
  · omega
section
variable {w : World} {va : Value} {l : List UInt8} {z : Int}
theorem kRReadS (h : readOf l = some z) (hl : l.length ≤ 2000) (hv : (eqF (.string ⟨l.toArray⟩)).p va w) : Calls Tryd.prog 8 #[va] w (GivesP (tup2F (intF z) (eqF (.int .i64 0))) w) := by
  have := RRead_any va w hv hl
  rw [h] at this
  exact this
theorem kRReadN (h : readOf l = none) (hl : l.length ≤ 2000) (hv : (eqF (.string ⟨l.toArray⟩)).p va w) : Calls Tryd.prog 8 #[va] w (GivesP (tup2F (intF 0) (eqF (.int .i64 4))) w) := by
  have := RRead_any va w hv hl
  rw [h] at this
  exact this
end
section
variable {ρ : Operand → Value} {w : World} {x y : Operand} {a b : List UInt8}
theorem h_neqS {r : Bool} (hr : (!decide (a = b)) = r) (hx : (eqF (.string ⟨a.toArray⟩)).p (ρ x) w) (hy : (eqF (.string ⟨b.toArray⟩)).p (ρ y) w) : Yld (.binOp .neq 9 x y 9) ρ w (eqF (.bool r)) := by
  have hx : ρ x = .string ⟨a.toArray⟩ := hx
  have hy : ρ y = .string ⟨b.toArray⟩ := hy
  have e : (a == b) = !r := by rw [← hr, Bool.not_not, Bool.eq_iff_iff]; simp
  exact yld_mk fun o ho => by unfold execOp; rw [ho]; simp [go_sem, hx, hy, e]
end
set_option maxRecDepth 100000 in
theorem IText_long {r0 : RawArg} {bs : List UInt8} {z : Int} (va : Value) (vb : Value) (W : World) (hva : (eqF r0.val_).p va W) (hvb : (eqF (.string ⟨List.toArray bs⟩)).p vb W) (hS : Sanity) (ht : P10 W) (_k0 : r0.Ok W) (_hl : 100 < bs.length) : Calls Tryd.prog 3 #[va, vb] W (GivesP (eqF (.bool true)) W) := by
  let E : List PF := [(eqF r0.val_), (eqF (.string ⟨List.toArray bs⟩)), (eqF (.int .i64 (bs.length : Int)))]
  let EB : List CF := [(rawBF r0)]
  exact auto_calls (E := E) (EB := EB) (fs := [(.ref 0), (.ref 1)]) (r := (.bool true))
   { pures := [p1 (.blt .len [9]) (.ref 1) (.ref 2) fun _ _ _ _ hx => h_lenS hx,
      p2 (.bin .gtr 3 3) (.ref 2) (.int .i64 100) (.bool true) fun _ _ _ _ _ hx hy => h_gtr (r := true) (by simp only [decide_eq_true_eq]; omega) hx hy],
     calls := [c0 4 (.bool true) fun w hb => kSanity hS ht hb],
     boxes := [⟨24, (.ref 0), 0, fun w v h => boxR_run w v h⟩] }
   Tryd.func3 ⟨hva, hvb, trivial⟩ (by kernel_rfl)
set_option maxRecDepth 100000 in
theorem IText_some {r0 : RawArg} {bs : List UInt8} {z : Int} (va : Value) (vb : Value) (W : World) (hva : (eqF r0.val_).p va W) (hvb : (eqF (.string ⟨List.toArray bs⟩)).p vb W) (hS : Sanity) (ht : P10 W) (k0 : r0.Ok W) (hl : bs.length ≤ 100) (hz : readOf bs = some z) : Calls Tryd.prog 3 #[va, vb] W (GivesP (eqF (.bool true)) W) := by
  let E : List PF := [(eqF r0.val_), (eqF (.string ⟨List.toArray bs⟩)), (eqF (.int .i64 (bs.length : Int))), (intF r0.int), (eqF (.string ⟨List.toArray (textZ r0.int)⟩)), (intF z), (eqF (.string ⟨List.toArray (textZ z)⟩))]
  let EB : List CF := [(rawBF r0), zeroIF, (boxIF r0.int), (boxIF z)]
  exact auto_calls (E := E) (EB := EB) (fs := [(.ref 0), (.ref 1)]) (r := (.bool true))
   { pures := [p1 (.blt .len [9]) (.ref 1) (.ref 2) fun _ _ _ _ hx => h_lenS hx,
      p2 (.bin .gtr 3 3) (.ref 2) (.int .i64 100) (.bool false) fun _ _ _ _ _ hx hy => h_gtr (r := false) (by simp only [decide_eq_false_iff_not]; omega) hx hy,
      p2 (.bin .neq 9 9) (.ref 6) (.ref 1) (.bool false) fun _ _ _ _ _ hx hy => h_neqS (a := (textZ z)) (b := bs) (by rw [← text_readOf hz]; simp) hx hy,
      p2 (.bin .eql 9 9) (.ref 4) (.ref 4) (.bool true) fun _ _ _ _ _ hx hy => h_eqlS (a := (textZ r0.int)) (b := (textZ r0.int)) (decide_eq_true rfl) hx hy],
     calls := [c0 4 (.bool true) fun w hb => kSanity hS ht hb,
      c1 5 (.ref 0) (.ref 3) fun w v0 hb h0 => kMade k0 hb h0,
      c1 6 (.ref 3) (.ref 4) fun w v0 hb h0 => kText h0 (Nat.le_trans (len_le_pow k0.sm) (by decide)) (tab_below ht hb),
      c1 7 (.ref 4) (.tup2 (.ref 3) (.int .i64 0)) fun w v0 hb h0 => kReadS (readOf_text _) (Nat.le_trans (textZ_len k0.sm (by decide)) (by decide)) h0,
      c1 7 (.ref 1) (.tup2 (.ref 5) (.int .i64 0)) fun w v0 hb h0 => kReadS hz (Nat.le_trans hl (by decide)) h0,
      c1 8 (.ref 1) (.tup2 (.ref 5) (.int .i64 0)) fun w v0 hb h0 => kRReadS hz (Nat.le_trans hl (by decide)) h0,
      c1 6 (.ref 5) (.ref 6) fun w v0 hb h0 => kText h0 (Nat.le_trans (len_le_pow (read_sm hz (Nat.le_trans hl (by decide)))) (by decide)) (tab_below ht hb),
      c1 9 (.ref 3) (.ref 4) fun w v0 hb h0 => RText_any v0 _ _ _ h0 k0.sm (by decide),
      c2 10 (.ref 3) (.ref 3) (.bool true) fun w v0 v1 hb h0 h1 => kSameT h0 h1 k0.sm k0.sm (by first | decide | assumption | omega) (by first | decide | assumption | omega) rfl,
      c2 10 (.ref 5) (.ref 5) (.bool true) fun w v0 v1 hb h0 h1 => kSameT h0 h1 (read_sm hz (Nat.le_trans hl (by decide))) (read_sm hz (Nat.le_trans hl (by decide))) (by first | decide | assumption | omega) (by first | decide | assumption | omega) rfl],
     loads := [⟨24, 0, 0, (.ref 0), fun w q h => loadR_raw w q h⟩,
      ⟨27, 0, 2, (.ref 3), fun w q h => loadI_int w q h⟩,
      ⟨27, 0, 3, (.ref 5), fun w q h => loadI_int w q h⟩],
     allocs := [⟨27, 1, _, allocI_run, allocI_old⟩],
     boxes := [⟨24, (.ref 0), 0, fun w v h => boxR_run w v h⟩],
     stores := [⟨27, 0, 1, (.ref 3), 2, (storeI_zero _)⟩,
      ⟨27, 0, 1, (.ref 5), 3, (storeI_zero _)⟩] }
   Tryd.func3 ⟨hva, hvb, trivial⟩ (by kernel_rfl)
set_option maxRecDepth 100000 in
theorem IText_none {r0 : RawArg} {bs : List UInt8} {z : Int} (va : Value) (vb : Value) (W : World) (hva : (eqF r0.val_).p va W) (hvb : (eqF (.string ⟨List.toArray bs⟩)).p vb W) (hS : Sanity) (ht : P10 W) (k0 : r0.Ok W) (hl : bs.length ≤ 100) (hz : readOf bs = none) : Calls Tryd.prog 3 #[va, vb] W (GivesP (eqF (.bool true)) W) := by
  let E : List PF := [(eqF r0.val_), (eqF (.string ⟨List.toArray bs⟩)), (eqF (.int .i64 (bs.length : Int))), (intF r0.int), (eqF (.string ⟨List.toArray (textZ r0.int)⟩)), (intF 0)]
  let EB : List CF := [(rawBF r0), zeroIF, (boxIF r0.int), (boxIF 0)]
  exact auto_calls (E := E) (EB := EB) (fs := [(.ref 0), (.ref 1)]) (r := (.bool true))
   { pures := [p1 (.blt .len [9]) (.ref 1) (.ref 2) fun _ _ _ _ hx => h_lenS hx,
      p2 (.bin .gtr 3 3) (.ref 2) (.int .i64 100) (.bool false) fun _ _ _ _ _ hx hy => h_gtr (r := false) (by simp only [decide_eq_false_iff_not]; omega) hx hy,
      p2 (.bin .eql 9 9) (.ref 4) (.ref 4) (.bool true) fun _ _ _ _ _ hx hy => h_eqlS (a := (textZ r0.int)) (b := (textZ r0.int)) (decide_eq_true rfl) hx hy],
     calls := [c0 4 (.bool true) fun w hb => kSanity hS ht hb,
      c1 5 (.ref 0) (.ref 3) fun w v0 hb h0 => kMade k0 hb h0,
      c1 6 (.ref 3) (.ref 4) fun w v0 hb h0 => kText h0 (Nat.le_trans (len_le_pow k0.sm) (by decide)) (tab_below ht hb),
      c1 7 (.ref 4) (.tup2 (.ref 3) (.int .i64 0)) fun w v0 hb h0 => kReadS (readOf_text _) (Nat.le_trans (textZ_len k0.sm (by decide)) (by decide)) h0,
      c1 7 (.ref 1) (.tup2 (.ref 5) (.int .i64 4)) fun w v0 hb h0 => kReadN hz (Nat.le_trans hl (by decide)) h0,
      c1 8 (.ref 1) (.tup2 (.ref 5) (.int .i64 4)) fun w v0 hb h0 => kRReadN hz (Nat.le_trans hl (by decide)) h0,
      c1 9 (.ref 3) (.ref 4) fun w v0 hb h0 => RText_any v0 _ _ _ h0 k0.sm (by decide),
      c2 10 (.ref 3) (.ref 3) (.bool true) fun w v0 v1 hb h0 h1 => kSameT h0 h1 k0.sm k0.sm (by first | decide | assumption | omega) (by first | decide | assumption | omega) rfl,
      c2 10 (.ref 5) (.ref 5) (.bool true) fun w v0 v1 hb h0 h1 => kSameT h0 h1 (Sm.of 0 (by decide)) (Sm.of 0 (by decide)) (by first | decide | assumption | omega) (by first | decide | assumption | omega) rfl],
     loads := [⟨24, 0, 0, (.ref 0), fun w q h => loadR_raw w q h⟩,
      ⟨27, 0, 2, (.ref 3), fun w q h => loadI_int w q h⟩,
      ⟨27, 0, 3, (.ref 5), fun w q h => loadI_int w q h⟩],
     allocs := [⟨27, 1, _, allocI_run, allocI_old⟩],
     boxes := [⟨24, (.ref 0), 0, fun w v h => boxR_run w v h⟩],
     stores := [⟨27, 0, 1, (.ref 3), 2, (storeI_zero _)⟩,
      ⟨27, 0, 1, (.ref 5), 3, (storeI_zero _)⟩] }
   Tryd.func3 ⟨hva, hvb, trivial⟩ (by kernel_rfl)
/-- The law, at any text. -/
theorem IText_law (hS : Sanity) (r0 : RawArg) (s : ByteArray) (W : World) (k0 : r0.Ok W) (ht : P10 W) {P : Prop} (_ : P) : Calls Tryd.prog 3 #[r0.val_, .string s] W (GivesP (eqF (.bool true)) W) := by
  have e : (.string s : Value) = .string ⟨(s.data.toList).toArray⟩ := rfl
  rw [e]
  generalize s.data.toList = bs
  rcases Nat.lt_or_ge 100 bs.length with hl | hl
  · exact IText_long (z := 0) r0.val_ _ W rfl rfl hS ht k0 hl
  · cases hz : readOf bs with
    | none => exact IText_none (z := 0) r0.val_ _ W rfl rfl hS ht k0 hl hz
    | some z => exact IText_some r0.val_ _ W rfl rfl hS ht k0 hl hz
end Go.Proofs.YtdofolejfdfocaaDoor
