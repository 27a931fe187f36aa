/- made of layer 2 (written by wip/tools/gen_rat.py). -/
import Derived.Test.YtdofolejfdfocaaGreatDoorqQr
namespace Go.Proofs.YtdofolejfdfocaaGreatDoor
open Go.RowKit

set_option maxRecDepth 100000 in
theorem made2_0 {r : Raw2} (va : Value) (W : World) (hva : (eqF r.val_).p va W) (kr : r.Ok W) (hd : r.d.int4 4 = 0) : Calls Tryz.prog 11 #[va] W (GivesP (ratF (Rat.divInt (r.n.int4 4) 1)) W) := by
  let E : List PF := [(eqF r.val_), (eqF (.slice r.n.A r.n.k r.n.c)), (eqF (.int .i64 (r.n.k : Int))), (eqF (.int .i64 ((min r.n.k 4 : Nat) : Int))), (eqF (.slice r.n.A (min r.n.k 4) r.n.c)), (eqF (.bool r.n.b)), (intF (r.n.int4 4)), (eqF (.slice r.d.A r.d.k r.d.c)), (eqF (.int .i64 (r.d.k : Int))), (eqF (.int .i64 ((min r.d.k 4 : Nat) : Int))), (eqF (.slice r.d.A (min r.d.k 4) r.d.c)), (intF (r.d.int4 4)), (eqF (.int .i64 (Int.sign (r.d.int4 4)))), (intF 1), (ratF (Rat.divInt (r.n.int4 4) 1))]
  let EB : List CF := [(rawB2F r), zeroQF, zeroIF, (boxIF (r.n.int4 4)), (boxIF (r.d.int4 4)), (boxIF 1), (boxQ (Rat.divInt (r.n.int4 4) 1))]
  exact auto_calls (E := E) (EB := EB) (fs := [(.ref 0)]) (r := (.ref 14))
   { pures := [p1 (.blt .len [22]) (.ref 1) (.ref 2) fun _ _ _ _ hx => h_len hx,
      p2 (.blt .min [3, 3]) (.ref 2) (.int .i64 4) (.ref 3) fun _ _ _ _ _ hx hy => h_min (by omega) hx hy,
      p2 (.slc 22 false true false) (.ref 1) (.ref 3) (.ref 4) fun _ _ _ _ _ hx hy => h_sliceRaw kr.1 4 hx hy,
      p1 (.blt .len [22]) (.ref 7) (.ref 8) fun _ _ _ _ hx => h_len hx,
      p2 (.blt .min [3, 3]) (.ref 8) (.int .i64 4) (.ref 9) fun _ _ _ _ _ hx hy => h_min (by omega) hx hy,
      p2 (.slc 22 false true false) (.ref 7) (.ref 9) (.ref 10) fun _ _ _ _ _ hx hy => h_sliceRaw kr.2.1 4 hx hy,
      p2 (.bin .eql 3 3) (.ref 12) (.int .i64 0) (.bool true) fun _ _ _ _ _ hx hy => h_eqlI (r := true) (by rw [hd]; rfl) hx hy],
     calls := [c2 41 (.ref 4) (.ref 5) (.ref 6) fun w v0 v1 hb h0 h1 => kMadeRaw kr.1 hb rfl h0 h1 (by decide),
      c2 41 (.ref 10) (.bool false) (.ref 11) fun w v0 v1 hb h0 h1 => kMadeRaw kr.2.1 hb kr.2.2.symm h0 h1 (by decide),
      c1 42 (.ref 11) (.ref 12) fun w v0 hb h0 => kRSign h0 (kr.2.1.sm4 4) (by first | decide | assumption | omega),
      c1 44 (.int .i64 1) (.ref 13) fun w v0 hb h0 => kROf 1 (by omega) (by omega) h0,
      c2 13 (.ref 6) (.ref 13) (.tup2 (.ref 14) (.int .i64 0)) fun w v0 v1 hb h0 h1 => kPOf h0 h1 (kr.1.sm4 4) (Sm.of 1 (by decide)) (by first | decide | assumption | omega) (by first | decide | assumption | omega) (by decide)],
     loads := [⟨22, 0, 0, (.ref 1), fun w q h => loadR2_0 w q h⟩,
      ⟨4, 2, 0, (.ref 5), fun w q h => loadR2_2 w q h⟩,
      ⟨22, 1, 0, (.ref 7), fun w q h => loadR2_1 w q h⟩,
      ⟨27, 0, 4, (.ref 11), fun w q h => loadI_int w q h⟩,
      ⟨27, 0, 3, (.ref 6), fun w q h => loadI_int w q h⟩,
      ⟨27, 0, 5, (.ref 13), fun w q h => loadI_int w q h⟩,
      ⟨29, 0, 6, (.ref 14), fun w q h => loadQ_all w q h⟩],
     allocs := [⟨29, 1, _, allocQ_run, allocQ_old⟩,
      ⟨27, 2, _, allocI_run, allocI_old⟩],
     boxes := [⟨24, (.ref 0), 0, fun w v h => boxR2_run w v h⟩],
     stores := [⟨27, 0, 2, (.ref 6), 3, (storeI_zero _)⟩,
      ⟨27, 0, 2, (.ref 11), 4, (storeI_zero _)⟩,
      ⟨27, 0, 4, (.ref 13), 5, (storeI_box _ _)⟩,
      ⟨29, 0, 1, (.ref 14), 6, storeQ_zero⟩],
     flds := [⟨24, 0, 0, fldRw0⟩,
      ⟨24, 2, 2, fldRw2⟩,
      ⟨24, 1, 1, fldRw1⟩] }
   Tryz.func11 ⟨hva, trivial⟩ (by kernel_rfl)
set_option maxRecDepth 100000 in
theorem made2_1 {r : Raw2} (va : Value) (W : World) (hva : (eqF r.val_).p va W) (kr : r.Ok W) (hd : r.d.int4 4 ≠ 0) : Calls Tryz.prog 11 #[va] W (GivesP (ratF (Rat.divInt (r.n.int4 4) (r.d.int4 4))) W) := by
  let E : List PF := [(eqF r.val_), (eqF (.slice r.n.A r.n.k r.n.c)), (eqF (.int .i64 (r.n.k : Int))), (eqF (.int .i64 ((min r.n.k 4 : Nat) : Int))), (eqF (.slice r.n.A (min r.n.k 4) r.n.c)), (eqF (.bool r.n.b)), (intF (r.n.int4 4)), (eqF (.slice r.d.A r.d.k r.d.c)), (eqF (.int .i64 (r.d.k : Int))), (eqF (.int .i64 ((min r.d.k 4 : Nat) : Int))), (eqF (.slice r.d.A (min r.d.k 4) r.d.c)), (intF (r.d.int4 4)), (eqF (.int .i64 (Int.sign (r.d.int4 4)))), (ratF (Rat.divInt (r.n.int4 4) (r.d.int4 4)))]
  let EB : List CF := [(rawB2F r), zeroQF, zeroIF, (boxIF (r.n.int4 4)), (boxIF (r.d.int4 4)), (boxQ (Rat.divInt (r.n.int4 4) (r.d.int4 4)))]
  exact auto_calls (E := E) (EB := EB) (fs := [(.ref 0)]) (r := (.ref 13))
   { pures := [p1 (.blt .len [22]) (.ref 1) (.ref 2) fun _ _ _ _ hx => h_len hx,
      p2 (.blt .min [3, 3]) (.ref 2) (.int .i64 4) (.ref 3) fun _ _ _ _ _ hx hy => h_min (by omega) hx hy,
      p2 (.slc 22 false true false) (.ref 1) (.ref 3) (.ref 4) fun _ _ _ _ _ hx hy => h_sliceRaw kr.1 4 hx hy,
      p1 (.blt .len [22]) (.ref 7) (.ref 8) fun _ _ _ _ hx => h_len hx,
      p2 (.blt .min [3, 3]) (.ref 8) (.int .i64 4) (.ref 9) fun _ _ _ _ _ hx hy => h_min (by omega) hx hy,
      p2 (.slc 22 false true false) (.ref 7) (.ref 9) (.ref 10) fun _ _ _ _ _ hx hy => h_sliceRaw kr.2.1 4 hx hy,
      p2 (.bin .eql 3 3) (.ref 12) (.int .i64 0) (.bool false) fun _ _ _ _ _ hx hy => h_eqlI (r := false) (by rw [beq_eq_false_iff_ne]; exact fun e => hd (Int.sign_eq_zero_iff_zero.1 e)) hx hy],
     calls := [c2 41 (.ref 4) (.ref 5) (.ref 6) fun w v0 v1 hb h0 h1 => kMadeRaw kr.1 hb rfl h0 h1 (by decide),
      c2 41 (.ref 10) (.bool false) (.ref 11) fun w v0 v1 hb h0 h1 => kMadeRaw kr.2.1 hb kr.2.2.symm h0 h1 (by decide),
      c1 42 (.ref 11) (.ref 12) fun w v0 hb h0 => kRSign h0 (kr.2.1.sm4 4) (by first | decide | assumption | omega),
      c2 13 (.ref 6) (.ref 11) (.tup2 (.ref 13) (.int .i64 0)) fun w v0 v1 hb h0 h1 => kPOf h0 h1 (kr.1.sm4 4) (kr.2.1.sm4 4) (by first | decide | assumption | omega) (by first | decide | assumption | omega) hd],
     loads := [⟨22, 0, 0, (.ref 1), fun w q h => loadR2_0 w q h⟩,
      ⟨4, 2, 0, (.ref 5), fun w q h => loadR2_2 w q h⟩,
      ⟨22, 1, 0, (.ref 7), fun w q h => loadR2_1 w q h⟩,
      ⟨27, 0, 4, (.ref 11), fun w q h => loadI_int w q h⟩,
      ⟨27, 0, 3, (.ref 6), fun w q h => loadI_int w q h⟩,
      ⟨29, 0, 5, (.ref 13), fun w q h => loadQ_all w q h⟩],
     allocs := [⟨29, 1, _, allocQ_run, allocQ_old⟩,
      ⟨27, 2, _, allocI_run, allocI_old⟩],
     boxes := [⟨24, (.ref 0), 0, fun w v h => boxR2_run w v h⟩],
     stores := [⟨27, 0, 2, (.ref 6), 3, (storeI_zero _)⟩,
      ⟨27, 0, 2, (.ref 11), 4, (storeI_zero _)⟩,
      ⟨29, 0, 1, (.ref 13), 5, storeQ_zero⟩],
     flds := [⟨24, 0, 0, fldRw0⟩,
      ⟨24, 2, 2, fldRw2⟩,
      ⟨24, 1, 1, fldRw1⟩] }
   Tryz.func11 ⟨hva, trivial⟩ (by kernel_rfl)
theorem kMade2 {r : Raw2} {Wb w : World} {va : Value} (k : r.Ok Wb) (hb : Below Wb.heap.size Wb w) (h : (eqF r.val_).p va w) : Calls Tryz.prog 11 #[va] w (GivesP (ratF r.rat) w) := by
  have kr : r.Ok w := ⟨k.1.into hb, k.2.1.into hb, k.2.2⟩
  unfold Raw2.rat Raw2.ratN
  by_cases hd : r.d.int4 4 = 0
  · rw [if_pos hd]; exact made2_0 va w h kr hd
  · rw [if_neg hd]; exact made2_1 va w h kr hd
theorem kSan2 {Wb w : World} (ht : P10 Wb) (hb : Below Wb.heap.size Wb w) : Calls Tryz.prog 10 #[] w (GivesP (eqF (.bool true)) w) := sanity2_any w (tab_below ht hb)
end Go.Proofs.YtdofolejfdfocaaGreatDoor
namespace Go.Proofs.YtdofolejfdfocaaGreatDoor

theorem cmpR_le {x y : Rat} (h : x ≤ y) : decide (cmpR x y ≤ 0) = true := by
  unfold cmpR
  split
  · rfl
  · rename_i h1
    rw [if_pos (Rat.le_antisymm h (Rat.not_lt.1 h1))]; rfl
theorem cmpR_lt {x y : Rat} (h : x < y) : decide (cmpR x y < 0) = true := by
  unfold cmpR
  rw [if_pos h]; rfl
theorem divInt_1 (n : Int) : Rat.divInt n 1 = (n : Rat) := (Rat.num_divInt_den (n : Rat))
theorem floor_low (x : Rat) : decide (cmpR (Rat.divInt (x.num / (x.den : Int)) 1) x ≤ 0) = true := by
  rw [divInt_1, ← Rat.floor_def]
  exact cmpR_le (Rat.floor_le x)
theorem floor_high (x : Rat) : decide (cmpR x (Rat.divInt (x.num / (x.den : Int)) 1 + ((1 : Int) : Rat)) < 0) = true := by
  rw [divInt_1, ← Rat.floor_def, ← Rat.intCast_add]
  exact cmpR_lt (Rat.lt_floor_add_one x)
theorem cmpR_self (x : Rat) : cmpR x x = 0 := by
  unfold cmpR
  rw [if_neg Rat.lt_irrefl, if_pos rfl]
theorem lt_asymm' {x y : Rat} (h : x < y) : ¬ y < x := fun k => by
  have h1 := Rat.le_antisymm (Rat.le_of_lt h) (Rat.le_of_lt k)
  rw [h1] at h
  exact Rat.lt_irrefl h
theorem cmpR_swap (x y : Rat) : cmpR x y = -cmpR y x := by
  unfold cmpR
  by_cases h1 : x < y
  · rw [if_pos h1, if_neg (lt_asymm' h1), if_neg (fun e => by rw [e] at h1; exact Rat.lt_irrefl h1)]
  · by_cases h2 : y < x
    · rw [if_neg h1, if_neg (fun e => by rw [e] at h2; exact Rat.lt_irrefl h2), if_pos h2]; rfl
    · have e := Rat.le_antisymm (Rat.not_lt.1 h2) (Rat.not_lt.1 h1)
      subst e
      rw [if_neg h1, if_pos rfl]; rfl
theorem cmpR_zero (x y : Rat) : (cmpR x y == 0) = decide (x = y) := by
  unfold cmpR
  by_cases h1 : x < y
  · rw [if_pos h1]
    have : x ≠ y := fun e => by rw [e] at h1; exact Rat.lt_irrefl h1
    simp [this]
  · rw [if_neg h1]
    by_cases h2 : x = y
    · simp [h2]
    · simp [h2]
theorem cmpR_of_iff {x y x' y' : Rat} (h1 : x < y ↔ x' < y') (h2 : x = y ↔ x' = y') : cmpR x y = cmpR x' y' := by
  unfold cmpR
  simp only [h1, h2]
theorem cmpR_subs (x y : Rat) : cmpR x y = cmpR (x - y) 0 := (cmpR_sub x y).symm
theorem cmpR_add (x y z : Rat) : cmpR (x + z) (y + z) = cmpR x y :=
  cmpR_of_iff Rat.add_lt_add_right ⟨fun h => by
    have : x + z + -z = y + z + -z := by rw [h]
    rwa [Rat.add_assoc, Rat.add_assoc, Rat.add_neg_cancel, Rat.add_zero, Rat.add_zero] at this, fun h => by rw [h]⟩
theorem cmpR_neg (x y : Rat) : cmpR (-y) (-x) = cmpR x y :=
  cmpR_of_iff Rat.neg_lt_neg_iff ⟨fun h => by
    have h2 : -(-y) = -(-x) := congrArg (fun q : Rat => -q) h
    rw [Rat.neg_neg, Rat.neg_neg] at h2
    exact h2.symm, fun h => by rw [h]⟩
theorem cmpR_mul {x y z : Rat} (hz : 0 < z) : cmpR (x * z) (y * z) = cmpR x y := by
  have key : ∀ {a b : Rat}, a < b → a * z < b * z := fun h => Rat.mul_lt_mul_of_pos_right h hz
  refine cmpR_of_iff ⟨fun h => ?_, key⟩ ⟨fun h => ?_, fun h => by rw [h]⟩
  · rcases Classical.em (x < y) with h1 | h1
    · exact h1
    · exfalso
      rcases Classical.em (y < x) with h2 | h2
      · exact lt_asymm' h (key h2)
      · have e := Rat.le_antisymm (Rat.not_lt.1 h2) (Rat.not_lt.1 h1)
        rw [e] at h
        exact Rat.lt_irrefl h
  · rcases Classical.em (x < y) with h1 | h1
    · have := key h1; rw [h] at this; exact absurd this Rat.lt_irrefl
    · rcases Classical.em (y < x) with h2 | h2
      · have := key h2; rw [h] at this; exact absurd this Rat.lt_irrefl
      · exact Rat.le_antisymm (Rat.not_lt.1 h2) (Rat.not_lt.1 h1)
theorem cmpR_pos {x y : Rat} (h : y < x) : cmpR x y = 1 := by
  unfold cmpR
  rw [if_neg (lt_asymm' h), if_neg (fun e => by rw [e] at h; exact Rat.lt_irrefl h)]
theorem cmpR_nle {x y : Rat} (h : ¬ y < x) : decide (cmpR x y > 0) = false := by
  have := cmpR_le (Rat.not_lt.1 h)
  simp at this ⊢
  omega
theorem cmpR_gt {x y : Rat} (h : y < x) : decide (cmpR x y > 0) = true := by rw [cmpR_pos h]; rfl
theorem cmpR_trans {x y z : Rat} (h1 : ¬ y < x) (h2 : ¬ z < y) : decide (cmpR x z ≤ 0) = true := cmpR_le (Rat.le_trans (Rat.not_lt.1 h1) (Rat.not_lt.1 h2))
end Go.Proofs.YtdofolejfdfocaaGreatDoor
namespace Go.Proofs.YtdofolejfdfocaaGreatDoor
open Go.RowKit

theorem cmpR_wrap (x y : Rat) : IntKind.i64.wrap (-(cmpR x y)) = -(cmpR x y) := by
  unfold cmpR
  split
  · rfl
  · split <;> rfl
theorem cmpR_le0_f {x : Rat} (h : 0 < x) : decide (cmpR x 0 ≤ 0) = false := by rw [cmpR_pos h]; rfl
set_option maxRecDepth 100000 in
theorem QOrd_law00 {r0 r1 r2 : Raw2} (va : Value) (vb : Value) (vc : Value) (W : World) (hva : (eqF r0.val_).p va W) (hvb : (eqF r1.val_).p vb W) (hvc : (eqF r2.val_).p vc W) (k0 : r0.Ok W) (k1 : r1.Ok W) (k2 : r2.Ok W) (ht : P10 W) (h1 : r1.rat < r0.rat) (hc : 0 < r2.rat) : Calls Tryz.prog 6 #[va, vb, vc] W (GivesP (eqF (.bool true)) W) := by
  let E : List PF := [(eqF r0.val_), (eqF r1.val_), (eqF r2.val_), (ratF r0.rat), (ratF r1.rat), (ratF r2.rat), (eqF (.int .i64 (cmpR r0.rat r1.rat))), (eqF (.int .i64 (cmpR r1.rat r2.rat))), (eqF (.int .i64 (cmpR r0.rat r2.rat))), (eqF (.int .i64 (cmpR r1.rat r0.rat))), (eqF (.int .i64 (-(cmpR r1.rat r0.rat)))), (eqF (.bool ((cmpR r0.rat r1.rat) == 0))), (eqF (.bool (decide (r0.rat = r1.rat)))), (ratF (r0.rat - r1.rat)), (eqF (.int .i64 (cmpR (r0.rat - r1.rat) 0))), (eqF (.int .i64 (cmpR r2.rat 0))), (ratF (r0.rat * r2.rat)), (ratF (r1.rat * r2.rat)), (eqF (.int .i64 (cmpR (r0.rat * r2.rat) (r1.rat * r2.rat)))), (ratF (-r1.rat)), (ratF (-r0.rat)), (eqF (.int .i64 (cmpR (-r1.rat) (-r0.rat)))), (ratF (r0.rat + r2.rat)), (ratF (r1.rat + r2.rat)), (eqF (.int .i64 (cmpR (r0.rat + r2.rat) (r1.rat + r2.rat))))]
  let EB : List CF := [(rawB2F r0), (rawB2F r1), (rawB2F r2), zeroQF, (boxQ r0.rat), (boxQ r1.rat), (boxQ r2.rat)]
  exact auto_calls (E := E) (EB := EB) (fs := [(.ref 0), (.ref 1), (.ref 2)]) (r := (.bool true))
   { pures := [p1 (.un .neg 3) (.ref 9) (.ref 10) fun _ _ _ _ hx => h_neg (cmpR_wrap _ _) hx,
      p2 (.bin .eql 3 3) (.ref 6) (.ref 10) (.bool true) fun _ _ _ _ _ hx hy => h_eqlI (r := true) (beq_iff_eq.2 (cmpR_swap _ _)) hx hy,
      p2 (.bin .eql 3 3) (.ref 6) (.int .i64 0) (.ref 11) fun _ _ _ _ _ hx hy => h_eqlI rfl hx hy,
      p2 (.bin .eql 4 4) (.ref 11) (.ref 12) (.bool true) fun _ _ _ _ _ hx hy => h_eqlB (r := true) (beq_iff_eq.2 (cmpR_zero _ _)) hx hy,
      p2 (.bin .gtr 3 3) (.ref 6) (.int .i64 0) (.bool true) fun _ _ _ _ _ hx hy => h_gtr (r := true) (cmpR_gt h1) hx hy,
      p2 (.bin .eql 3 3) (.ref 6) (.ref 14) (.bool true) fun _ _ _ _ _ hx hy => h_eqlI (r := true) (beq_iff_eq.2 (cmpR_subs _ _)) hx hy,
      p2 (.bin .leq 3 3) (.ref 15) (.int .i64 0) (.bool false) fun _ _ _ _ _ hx hy => h_leq (r := false) (cmpR_le0_f hc) hx hy,
      p2 (.bin .eql 3 3) (.ref 18) (.ref 6) (.bool true) fun _ _ _ _ _ hx hy => h_eqlI (r := true) (beq_iff_eq.2 (cmpR_mul hc)) hx hy,
      p2 (.bin .eql 3 3) (.ref 21) (.ref 6) (.bool true) fun _ _ _ _ _ hx hy => h_eqlI (r := true) (beq_iff_eq.2 (cmpR_neg _ _)) hx hy,
      p2 (.bin .eql 3 3) (.ref 24) (.ref 6) (.bool true) fun _ _ _ _ _ hx hy => h_eqlI (r := true) (beq_iff_eq.2 (cmpR_add _ _ _)) hx hy],
     calls := [c0 10 (.bool true) fun w hb => kSan2 ht hb,
      c1 11 (.ref 0) (.ref 3) fun w v0 hb h0 => kMade2 k0 hb h0,
      c1 11 (.ref 1) (.ref 4) fun w v0 hb h0 => kMade2 k1 hb h0,
      c1 11 (.ref 2) (.ref 5) fun w v0 hb h0 => kMade2 k2 hb h0,
      c2 27 (.ref 3) (.ref 4) (.ref 6) fun w v0 v1 hb h0 h1 => kQCmp h0 h1 k0.sm' k1.sm' (by first | decide | assumption | omega) (by first | decide | assumption | omega),
      c2 27 (.ref 4) (.ref 5) (.ref 7) fun w v0 v1 hb h0 h1 => kQCmp h0 h1 k1.sm' k2.sm' (by first | decide | assumption | omega) (by first | decide | assumption | omega),
      c2 27 (.ref 3) (.ref 5) (.ref 8) fun w v0 v1 hb h0 h1 => kQCmp h0 h1 k0.sm' k2.sm' (by first | decide | assumption | omega) (by first | decide | assumption | omega),
      c2 27 (.ref 4) (.ref 3) (.ref 9) fun w v0 v1 hb h0 h1 => kQCmp h0 h1 k1.sm' k0.sm' (by first | decide | assumption | omega) (by first | decide | assumption | omega),
      c2 16 (.ref 3) (.ref 4) (.ref 12) fun w v0 v1 hb h0 h1 => kPSame h0 h1 k0.sm' k1.sm' (by decide) (by decide),
      c2 19 (.ref 3) (.ref 4) (.ref 13) fun w v0 v1 hb h0 h1 => kQSub h0 h1 k0.sm' k1.sm' (by first | decide | assumption | omega) (by first | decide | assumption | omega),
      c1 29 (.ref 13) (.ref 14) fun w v0 hb h0 => kQSign h0 (k0.sm'.sub k1.sm') (by first | decide | assumption | omega),
      c1 29 (.ref 5) (.ref 15) fun w v0 hb h0 => kQSign h0 k2.sm' (by first | decide | assumption | omega),
      c2 21 (.ref 3) (.ref 5) (.ref 16) fun w v0 v1 hb h0 h1 => kQMul h0 h1 k0.sm' k2.sm' (by first | decide | assumption | omega) (by first | decide | assumption | omega),
      c2 21 (.ref 4) (.ref 5) (.ref 17) fun w v0 v1 hb h0 h1 => kQMul h0 h1 k1.sm' k2.sm' (by first | decide | assumption | omega) (by first | decide | assumption | omega),
      c2 27 (.ref 16) (.ref 17) (.ref 18) fun w v0 v1 hb h0 h1 => kQCmp h0 h1 (k0.sm'.mul k2.sm') (k1.sm'.mul k2.sm') (by first | decide | assumption | omega) (by first | decide | assumption | omega),
      c1 23 (.ref 4) (.ref 19) fun w v0 hb h0 => kQNeg h0 k1.sm' (by first | decide | assumption | omega),
      c1 23 (.ref 3) (.ref 20) fun w v0 hb h0 => kQNeg h0 k0.sm' (by first | decide | assumption | omega),
      c2 27 (.ref 19) (.ref 20) (.ref 21) fun w v0 v1 hb h0 h1 => kQCmp h0 h1 k1.sm'.neg k0.sm'.neg (by first | decide | assumption | omega) (by first | decide | assumption | omega),
      c2 17 (.ref 3) (.ref 5) (.ref 22) fun w v0 v1 hb h0 h1 => kQAdd h0 h1 k0.sm' k2.sm' (by first | decide | assumption | omega) (by first | decide | assumption | omega),
      c2 17 (.ref 4) (.ref 5) (.ref 23) fun w v0 v1 hb h0 h1 => kQAdd h0 h1 k1.sm' k2.sm' (by first | decide | assumption | omega) (by first | decide | assumption | omega),
      c2 27 (.ref 22) (.ref 23) (.ref 24) fun w v0 v1 hb h0 h1 => kQCmp h0 h1 (k0.sm'.add k2.sm') (k1.sm'.add k2.sm') (by first | decide | assumption | omega) (by first | decide | assumption | omega)],
     loads := [⟨24, 0, 0, (.ref 0), fun w q h => loadR2_all w q h⟩,
      ⟨24, 0, 1, (.ref 1), fun w q h => loadR2_all w q h⟩,
      ⟨24, 0, 2, (.ref 2), fun w q h => loadR2_all w q h⟩,
      ⟨29, 0, 4, (.ref 3), fun w q h => loadQ_all w q h⟩,
      ⟨29, 0, 5, (.ref 4), fun w q h => loadQ_all w q h⟩,
      ⟨29, 0, 6, (.ref 5), fun w q h => loadQ_all w q h⟩],
     allocs := [⟨29, 3, _, allocQ_run, allocQ_old⟩],
     boxes := [⟨24, (.ref 0), 0, fun w v h => boxR2_run w v h⟩,
      ⟨24, (.ref 1), 1, fun w v h => boxR2_run w v h⟩,
      ⟨24, (.ref 2), 2, fun w v h => boxR2_run w v h⟩],
     stores := [⟨29, 0, 3, (.ref 3), 4, storeQ_zero⟩,
      ⟨29, 0, 3, (.ref 4), 5, storeQ_zero⟩,
      ⟨29, 0, 3, (.ref 5), 6, storeQ_zero⟩] }
   Tryz.func6 ⟨hva, hvb, hvc, trivial⟩ (by kernel_rfl)
set_option maxRecDepth 100000 in
theorem QOrd_law01 {r0 r1 r2 : Raw2} (va : Value) (vb : Value) (vc : Value) (W : World) (hva : (eqF r0.val_).p va W) (hvb : (eqF r1.val_).p vb W) (hvc : (eqF r2.val_).p vc W) (k0 : r0.Ok W) (k1 : r1.Ok W) (k2 : r2.Ok W) (ht : P10 W) (h1 : r1.rat < r0.rat) (hc : ¬ 0 < r2.rat) : Calls Tryz.prog 6 #[va, vb, vc] W (GivesP (eqF (.bool true)) W) := by
  let E : List PF := [(eqF r0.val_), (eqF r1.val_), (eqF r2.val_), (ratF r0.rat), (ratF r1.rat), (ratF r2.rat), (eqF (.int .i64 (cmpR r0.rat r1.rat))), (eqF (.int .i64 (cmpR r1.rat r2.rat))), (eqF (.int .i64 (cmpR r0.rat r2.rat))), (eqF (.int .i64 (cmpR r1.rat r0.rat))), (eqF (.int .i64 (-(cmpR r1.rat r0.rat)))), (eqF (.bool ((cmpR r0.rat r1.rat) == 0))), (eqF (.bool (decide (r0.rat = r1.rat)))), (ratF (r0.rat - r1.rat)), (eqF (.int .i64 (cmpR (r0.rat - r1.rat) 0))), (eqF (.int .i64 (cmpR r2.rat 0))), (ratF (-r1.rat)), (ratF (-r0.rat)), (eqF (.int .i64 (cmpR (-r1.rat) (-r0.rat)))), (ratF (r0.rat + r2.rat)), (ratF (r1.rat + r2.rat)), (eqF (.int .i64 (cmpR (r0.rat + r2.rat) (r1.rat + r2.rat))))]
  let EB : List CF := [(rawB2F r0), (rawB2F r1), (rawB2F r2), zeroQF, (boxQ r0.rat), (boxQ r1.rat), (boxQ r2.rat)]
  exact auto_calls (E := E) (EB := EB) (fs := [(.ref 0), (.ref 1), (.ref 2)]) (r := (.bool true))
   { pures := [p1 (.un .neg 3) (.ref 9) (.ref 10) fun _ _ _ _ hx => h_neg (cmpR_wrap _ _) hx,
      p2 (.bin .eql 3 3) (.ref 6) (.ref 10) (.bool true) fun _ _ _ _ _ hx hy => h_eqlI (r := true) (beq_iff_eq.2 (cmpR_swap _ _)) hx hy,
      p2 (.bin .eql 3 3) (.ref 6) (.int .i64 0) (.ref 11) fun _ _ _ _ _ hx hy => h_eqlI rfl hx hy,
      p2 (.bin .eql 4 4) (.ref 11) (.ref 12) (.bool true) fun _ _ _ _ _ hx hy => h_eqlB (r := true) (beq_iff_eq.2 (cmpR_zero _ _)) hx hy,
      p2 (.bin .gtr 3 3) (.ref 6) (.int .i64 0) (.bool true) fun _ _ _ _ _ hx hy => h_gtr (r := true) (cmpR_gt h1) hx hy,
      p2 (.bin .eql 3 3) (.ref 6) (.ref 14) (.bool true) fun _ _ _ _ _ hx hy => h_eqlI (r := true) (beq_iff_eq.2 (cmpR_subs _ _)) hx hy,
      p2 (.bin .leq 3 3) (.ref 15) (.int .i64 0) (.bool true) fun _ _ _ _ _ hx hy => h_leq (r := true) (cmpR_le (Rat.not_lt.1 hc)) hx hy,
      p2 (.bin .eql 3 3) (.ref 18) (.ref 6) (.bool true) fun _ _ _ _ _ hx hy => h_eqlI (r := true) (beq_iff_eq.2 (cmpR_neg _ _)) hx hy,
      p2 (.bin .eql 3 3) (.ref 21) (.ref 6) (.bool true) fun _ _ _ _ _ hx hy => h_eqlI (r := true) (beq_iff_eq.2 (cmpR_add _ _ _)) hx hy],
     calls := [c0 10 (.bool true) fun w hb => kSan2 ht hb,
      c1 11 (.ref 0) (.ref 3) fun w v0 hb h0 => kMade2 k0 hb h0,
      c1 11 (.ref 1) (.ref 4) fun w v0 hb h0 => kMade2 k1 hb h0,
      c1 11 (.ref 2) (.ref 5) fun w v0 hb h0 => kMade2 k2 hb h0,
      c2 27 (.ref 3) (.ref 4) (.ref 6) fun w v0 v1 hb h0 h1 => kQCmp h0 h1 k0.sm' k1.sm' (by first | decide | assumption | omega) (by first | decide | assumption | omega),
      c2 27 (.ref 4) (.ref 5) (.ref 7) fun w v0 v1 hb h0 h1 => kQCmp h0 h1 k1.sm' k2.sm' (by first | decide | assumption | omega) (by first | decide | assumption | omega),
      c2 27 (.ref 3) (.ref 5) (.ref 8) fun w v0 v1 hb h0 h1 => kQCmp h0 h1 k0.sm' k2.sm' (by first | decide | assumption | omega) (by first | decide | assumption | omega),
      c2 27 (.ref 4) (.ref 3) (.ref 9) fun w v0 v1 hb h0 h1 => kQCmp h0 h1 k1.sm' k0.sm' (by first | decide | assumption | omega) (by first | decide | assumption | omega),
      c2 16 (.ref 3) (.ref 4) (.ref 12) fun w v0 v1 hb h0 h1 => kPSame h0 h1 k0.sm' k1.sm' (by decide) (by decide),
      c2 19 (.ref 3) (.ref 4) (.ref 13) fun w v0 v1 hb h0 h1 => kQSub h0 h1 k0.sm' k1.sm' (by first | decide | assumption | omega) (by first | decide | assumption | omega),
      c1 29 (.ref 13) (.ref 14) fun w v0 hb h0 => kQSign h0 (k0.sm'.sub k1.sm') (by first | decide | assumption | omega),
      c1 29 (.ref 5) (.ref 15) fun w v0 hb h0 => kQSign h0 k2.sm' (by first | decide | assumption | omega),
      c1 23 (.ref 4) (.ref 16) fun w v0 hb h0 => kQNeg h0 k1.sm' (by first | decide | assumption | omega),
      c1 23 (.ref 3) (.ref 17) fun w v0 hb h0 => kQNeg h0 k0.sm' (by first | decide | assumption | omega),
      c2 27 (.ref 16) (.ref 17) (.ref 18) fun w v0 v1 hb h0 h1 => kQCmp h0 h1 k1.sm'.neg k0.sm'.neg (by first | decide | assumption | omega) (by first | decide | assumption | omega),
      c2 17 (.ref 3) (.ref 5) (.ref 19) fun w v0 v1 hb h0 h1 => kQAdd h0 h1 k0.sm' k2.sm' (by first | decide | assumption | omega) (by first | decide | assumption | omega),
      c2 17 (.ref 4) (.ref 5) (.ref 20) fun w v0 v1 hb h0 h1 => kQAdd h0 h1 k1.sm' k2.sm' (by first | decide | assumption | omega) (by first | decide | assumption | omega),
      c2 27 (.ref 19) (.ref 20) (.ref 21) fun w v0 v1 hb h0 h1 => kQCmp h0 h1 (k0.sm'.add k2.sm') (k1.sm'.add k2.sm') (by first | decide | assumption | omega) (by first | decide | assumption | omega)],
     loads := [⟨24, 0, 0, (.ref 0), fun w q h => loadR2_all w q h⟩,
      ⟨24, 0, 1, (.ref 1), fun w q h => loadR2_all w q h⟩,
      ⟨24, 0, 2, (.ref 2), fun w q h => loadR2_all w q h⟩,
      ⟨29, 0, 4, (.ref 3), fun w q h => loadQ_all w q h⟩,
      ⟨29, 0, 5, (.ref 4), fun w q h => loadQ_all w q h⟩,
      ⟨29, 0, 6, (.ref 5), fun w q h => loadQ_all w q h⟩],
     allocs := [⟨29, 3, _, allocQ_run, allocQ_old⟩],
     boxes := [⟨24, (.ref 0), 0, fun w v h => boxR2_run w v h⟩,
      ⟨24, (.ref 1), 1, fun w v h => boxR2_run w v h⟩,
      ⟨24, (.ref 2), 2, fun w v h => boxR2_run w v h⟩],
     stores := [⟨29, 0, 3, (.ref 3), 4, storeQ_zero⟩,
      ⟨29, 0, 3, (.ref 4), 5, storeQ_zero⟩,
      ⟨29, 0, 3, (.ref 5), 6, storeQ_zero⟩] }
   Tryz.func6 ⟨hva, hvb, hvc, trivial⟩ (by kernel_rfl)
set_option maxRecDepth 100000 in
theorem QOrd_law10 {r0 r1 r2 : Raw2} (va : Value) (vb : Value) (vc : Value) (W : World) (hva : (eqF r0.val_).p va W) (hvb : (eqF r1.val_).p vb W) (hvc : (eqF r2.val_).p vc W) (k0 : r0.Ok W) (k1 : r1.Ok W) (k2 : r2.Ok W) (ht : P10 W) (h1 : ¬ r1.rat < r0.rat) (h2 : r2.rat < r1.rat) (hc : 0 < r2.rat) : Calls Tryz.prog 6 #[va, vb, vc] W (GivesP (eqF (.bool true)) W) := by
  let E : List PF := [(eqF r0.val_), (eqF r1.val_), (eqF r2.val_), (ratF r0.rat), (ratF r1.rat), (ratF r2.rat), (eqF (.int .i64 (cmpR r0.rat r1.rat))), (eqF (.int .i64 (cmpR r1.rat r2.rat))), (eqF (.int .i64 (cmpR r0.rat r2.rat))), (eqF (.int .i64 (cmpR r1.rat r0.rat))), (eqF (.int .i64 (-(cmpR r1.rat r0.rat)))), (eqF (.bool ((cmpR r0.rat r1.rat) == 0))), (eqF (.bool (decide (r0.rat = r1.rat)))), (ratF (r0.rat - r1.rat)), (eqF (.int .i64 (cmpR (r0.rat - r1.rat) 0))), (eqF (.int .i64 (cmpR r2.rat 0))), (ratF (r0.rat * r2.rat)), (ratF (r1.rat * r2.rat)), (eqF (.int .i64 (cmpR (r0.rat * r2.rat) (r1.rat * r2.rat)))), (ratF (-r1.rat)), (ratF (-r0.rat)), (eqF (.int .i64 (cmpR (-r1.rat) (-r0.rat)))), (ratF (r0.rat + r2.rat)), (ratF (r1.rat + r2.rat)), (eqF (.int .i64 (cmpR (r0.rat + r2.rat) (r1.rat + r2.rat))))]
  let EB : List CF := [(rawB2F r0), (rawB2F r1), (rawB2F r2), zeroQF, (boxQ r0.rat), (boxQ r1.rat), (boxQ r2.rat)]
  exact auto_calls (E := E) (EB := EB) (fs := [(.ref 0), (.ref 1), (.ref 2)]) (r := (.bool true))
   { pures := [p1 (.un .neg 3) (.ref 9) (.ref 10) fun _ _ _ _ hx => h_neg (cmpR_wrap _ _) hx,
      p2 (.bin .eql 3 3) (.ref 6) (.ref 10) (.bool true) fun _ _ _ _ _ hx hy => h_eqlI (r := true) (beq_iff_eq.2 (cmpR_swap _ _)) hx hy,
      p2 (.bin .eql 3 3) (.ref 6) (.int .i64 0) (.ref 11) fun _ _ _ _ _ hx hy => h_eqlI rfl hx hy,
      p2 (.bin .eql 4 4) (.ref 11) (.ref 12) (.bool true) fun _ _ _ _ _ hx hy => h_eqlB (r := true) (beq_iff_eq.2 (cmpR_zero _ _)) hx hy,
      p2 (.bin .gtr 3 3) (.ref 6) (.int .i64 0) (.bool false) fun _ _ _ _ _ hx hy => h_gtr (r := false) (cmpR_nle h1) hx hy,
      p2 (.bin .gtr 3 3) (.ref 7) (.int .i64 0) (.bool true) fun _ _ _ _ _ hx hy => h_gtr (r := true) (cmpR_gt h2) hx hy,
      p2 (.bin .eql 3 3) (.ref 6) (.ref 14) (.bool true) fun _ _ _ _ _ hx hy => h_eqlI (r := true) (beq_iff_eq.2 (cmpR_subs _ _)) hx hy,
      p2 (.bin .leq 3 3) (.ref 15) (.int .i64 0) (.bool false) fun _ _ _ _ _ hx hy => h_leq (r := false) (cmpR_le0_f hc) hx hy,
      p2 (.bin .eql 3 3) (.ref 18) (.ref 6) (.bool true) fun _ _ _ _ _ hx hy => h_eqlI (r := true) (beq_iff_eq.2 (cmpR_mul hc)) hx hy,
      p2 (.bin .eql 3 3) (.ref 21) (.ref 6) (.bool true) fun _ _ _ _ _ hx hy => h_eqlI (r := true) (beq_iff_eq.2 (cmpR_neg _ _)) hx hy,
      p2 (.bin .eql 3 3) (.ref 24) (.ref 6) (.bool true) fun _ _ _ _ _ hx hy => h_eqlI (r := true) (beq_iff_eq.2 (cmpR_add _ _ _)) hx hy],
     calls := [c0 10 (.bool true) fun w hb => kSan2 ht hb,
      c1 11 (.ref 0) (.ref 3) fun w v0 hb h0 => kMade2 k0 hb h0,
      c1 11 (.ref 1) (.ref 4) fun w v0 hb h0 => kMade2 k1 hb h0,
      c1 11 (.ref 2) (.ref 5) fun w v0 hb h0 => kMade2 k2 hb h0,
      c2 27 (.ref 3) (.ref 4) (.ref 6) fun w v0 v1 hb h0 h1 => kQCmp h0 h1 k0.sm' k1.sm' (by first | decide | assumption | omega) (by first | decide | assumption | omega),
      c2 27 (.ref 4) (.ref 5) (.ref 7) fun w v0 v1 hb h0 h1 => kQCmp h0 h1 k1.sm' k2.sm' (by first | decide | assumption | omega) (by first | decide | assumption | omega),
      c2 27 (.ref 3) (.ref 5) (.ref 8) fun w v0 v1 hb h0 h1 => kQCmp h0 h1 k0.sm' k2.sm' (by first | decide | assumption | omega) (by first | decide | assumption | omega),
      c2 27 (.ref 4) (.ref 3) (.ref 9) fun w v0 v1 hb h0 h1 => kQCmp h0 h1 k1.sm' k0.sm' (by first | decide | assumption | omega) (by first | decide | assumption | omega),
      c2 16 (.ref 3) (.ref 4) (.ref 12) fun w v0 v1 hb h0 h1 => kPSame h0 h1 k0.sm' k1.sm' (by decide) (by decide),
      c2 19 (.ref 3) (.ref 4) (.ref 13) fun w v0 v1 hb h0 h1 => kQSub h0 h1 k0.sm' k1.sm' (by first | decide | assumption | omega) (by first | decide | assumption | omega),
      c1 29 (.ref 13) (.ref 14) fun w v0 hb h0 => kQSign h0 (k0.sm'.sub k1.sm') (by first | decide | assumption | omega),
      c1 29 (.ref 5) (.ref 15) fun w v0 hb h0 => kQSign h0 k2.sm' (by first | decide | assumption | omega),
      c2 21 (.ref 3) (.ref 5) (.ref 16) fun w v0 v1 hb h0 h1 => kQMul h0 h1 k0.sm' k2.sm' (by first | decide | assumption | omega) (by first | decide | assumption | omega),
      c2 21 (.ref 4) (.ref 5) (.ref 17) fun w v0 v1 hb h0 h1 => kQMul h0 h1 k1.sm' k2.sm' (by first | decide | assumption | omega) (by first | decide | assumption | omega),
      c2 27 (.ref 16) (.ref 17) (.ref 18) fun w v0 v1 hb h0 h1 => kQCmp h0 h1 (k0.sm'.mul k2.sm') (k1.sm'.mul k2.sm') (by first | decide | assumption | omega) (by first | decide | assumption | omega),
      c1 23 (.ref 4) (.ref 19) fun w v0 hb h0 => kQNeg h0 k1.sm' (by first | decide | assumption | omega),
      c1 23 (.ref 3) (.ref 20) fun w v0 hb h0 => kQNeg h0 k0.sm' (by first | decide | assumption | omega),
      c2 27 (.ref 19) (.ref 20) (.ref 21) fun w v0 v1 hb h0 h1 => kQCmp h0 h1 k1.sm'.neg k0.sm'.neg (by first | decide | assumption | omega) (by first | decide | assumption | omega),
      c2 17 (.ref 3) (.ref 5) (.ref 22) fun w v0 v1 hb h0 h1 => kQAdd h0 h1 k0.sm' k2.sm' (by first | decide | assumption | omega) (by first | decide | assumption | omega),
      c2 17 (.ref 4) (.ref 5) (.ref 23) fun w v0 v1 hb h0 h1 => kQAdd h0 h1 k1.sm' k2.sm' (by first | decide | assumption | omega) (by first | decide | assumption | omega),
      c2 27 (.ref 22) (.ref 23) (.ref 24) fun w v0 v1 hb h0 h1 => kQCmp h0 h1 (k0.sm'.add k2.sm') (k1.sm'.add k2.sm') (by first | decide | assumption | omega) (by first | decide | assumption | omega)],
     loads := [⟨24, 0, 0, (.ref 0), fun w q h => loadR2_all w q h⟩,
      ⟨24, 0, 1, (.ref 1), fun w q h => loadR2_all w q h⟩,
      ⟨24, 0, 2, (.ref 2), fun w q h => loadR2_all w q h⟩,
      ⟨29, 0, 4, (.ref 3), fun w q h => loadQ_all w q h⟩,
      ⟨29, 0, 5, (.ref 4), fun w q h => loadQ_all w q h⟩,
      ⟨29, 0, 6, (.ref 5), fun w q h => loadQ_all w q h⟩],
     allocs := [⟨29, 3, _, allocQ_run, allocQ_old⟩],
     boxes := [⟨24, (.ref 0), 0, fun w v h => boxR2_run w v h⟩,
      ⟨24, (.ref 1), 1, fun w v h => boxR2_run w v h⟩,
      ⟨24, (.ref 2), 2, fun w v h => boxR2_run w v h⟩],
     stores := [⟨29, 0, 3, (.ref 3), 4, storeQ_zero⟩,
      ⟨29, 0, 3, (.ref 4), 5, storeQ_zero⟩,
      ⟨29, 0, 3, (.ref 5), 6, storeQ_zero⟩] }
   Tryz.func6 ⟨hva, hvb, hvc, trivial⟩ (by kernel_rfl)
set_option maxRecDepth 100000 in
theorem QOrd_law11 {r0 r1 r2 : Raw2} (va : Value) (vb : Value) (vc : Value) (W : World) (hva : (eqF r0.val_).p va W) (hvb : (eqF r1.val_).p vb W) (hvc : (eqF r2.val_).p vc W) (k0 : r0.Ok W) (k1 : r1.Ok W) (k2 : r2.Ok W) (ht : P10 W) (h1 : ¬ r1.rat < r0.rat) (h2 : r2.rat < r1.rat) (hc : ¬ 0 < r2.rat) : Calls Tryz.prog 6 #[va, vb, vc] W (GivesP (eqF (.bool true)) W) := by
  let E : List PF := [(eqF r0.val_), (eqF r1.val_), (eqF r2.val_), (ratF r0.rat), (ratF r1.rat), (ratF r2.rat), (eqF (.int .i64 (cmpR r0.rat r1.rat))), (eqF (.int .i64 (cmpR r1.rat r2.rat))), (eqF (.int .i64 (cmpR r0.rat r2.rat))), (eqF (.int .i64 (cmpR r1.rat r0.rat))), (eqF (.int .i64 (-(cmpR r1.rat r0.rat)))), (eqF (.bool ((cmpR r0.rat r1.rat) == 0))), (eqF (.bool (decide (r0.rat = r1.rat)))), (ratF (r0.rat - r1.rat)), (eqF (.int .i64 (cmpR (r0.rat - r1.rat) 0))), (eqF (.int .i64 (cmpR r2.rat 0))), (ratF (-r1.rat)), (ratF (-r0.rat)), (eqF (.int .i64 (cmpR (-r1.rat) (-r0.rat)))), (ratF (r0.rat + r2.rat)), (ratF (r1.rat + r2.rat)), (eqF (.int .i64 (cmpR (r0.rat + r2.rat) (r1.rat + r2.rat))))]
  let EB : List CF := [(rawB2F r0), (rawB2F r1), (rawB2F r2), zeroQF, (boxQ r0.rat), (boxQ r1.rat), (boxQ r2.rat)]
  exact auto_calls (E := E) (EB := EB) (fs := [(.ref 0), (.ref 1), (.ref 2)]) (r := (.bool true))
   { pures := [p1 (.un .neg 3) (.ref 9) (.ref 10) fun _ _ _ _ hx => h_neg (cmpR_wrap _ _) hx,
      p2 (.bin .eql 3 3) (.ref 6) (.ref 10) (.bool true) fun _ _ _ _ _ hx hy => h_eqlI (r := true) (beq_iff_eq.2 (cmpR_swap _ _)) hx hy,
      p2 (.bin .eql 3 3) (.ref 6) (.int .i64 0) (.ref 11) fun _ _ _ _ _ hx hy => h_eqlI rfl hx hy,
      p2 (.bin .eql 4 4) (.ref 11) (.ref 12) (.bool true) fun _ _ _ _ _ hx hy => h_eqlB (r := true) (beq_iff_eq.2 (cmpR_zero _ _)) hx hy,
      p2 (.bin .gtr 3 3) (.ref 6) (.int .i64 0) (.bool false) fun _ _ _ _ _ hx hy => h_gtr (r := false) (cmpR_nle h1) hx hy,
      p2 (.bin .gtr 3 3) (.ref 7) (.int .i64 0) (.bool true) fun _ _ _ _ _ hx hy => h_gtr (r := true) (cmpR_gt h2) hx hy,
      p2 (.bin .eql 3 3) (.ref 6) (.ref 14) (.bool true) fun _ _ _ _ _ hx hy => h_eqlI (r := true) (beq_iff_eq.2 (cmpR_subs _ _)) hx hy,
      p2 (.bin .leq 3 3) (.ref 15) (.int .i64 0) (.bool true) fun _ _ _ _ _ hx hy => h_leq (r := true) (cmpR_le (Rat.not_lt.1 hc)) hx hy,
      p2 (.bin .eql 3 3) (.ref 18) (.ref 6) (.bool true) fun _ _ _ _ _ hx hy => h_eqlI (r := true) (beq_iff_eq.2 (cmpR_neg _ _)) hx hy,
      p2 (.bin .eql 3 3) (.ref 21) (.ref 6) (.bool true) fun _ _ _ _ _ hx hy => h_eqlI (r := true) (beq_iff_eq.2 (cmpR_add _ _ _)) hx hy],
     calls := [c0 10 (.bool true) fun w hb => kSan2 ht hb,
      c1 11 (.ref 0) (.ref 3) fun w v0 hb h0 => kMade2 k0 hb h0,
      c1 11 (.ref 1) (.ref 4) fun w v0 hb h0 => kMade2 k1 hb h0,
      c1 11 (.ref 2) (.ref 5) fun w v0 hb h0 => kMade2 k2 hb h0,
      c2 27 (.ref 3) (.ref 4) (.ref 6) fun w v0 v1 hb h0 h1 => kQCmp h0 h1 k0.sm' k1.sm' (by first | decide | assumption | omega) (by first | decide | assumption | omega),
      c2 27 (.ref 4) (.ref 5) (.ref 7) fun w v0 v1 hb h0 h1 => kQCmp h0 h1 k1.sm' k2.sm' (by first | decide | assumption | omega) (by first | decide | assumption | omega),
      c2 27 (.ref 3) (.ref 5) (.ref 8) fun w v0 v1 hb h0 h1 => kQCmp h0 h1 k0.sm' k2.sm' (by first | decide | assumption | omega) (by first | decide | assumption | omega),
      c2 27 (.ref 4) (.ref 3) (.ref 9) fun w v0 v1 hb h0 h1 => kQCmp h0 h1 k1.sm' k0.sm' (by first | decide | assumption | omega) (by first | decide | assumption | omega),
      c2 16 (.ref 3) (.ref 4) (.ref 12) fun w v0 v1 hb h0 h1 => kPSame h0 h1 k0.sm' k1.sm' (by decide) (by decide),
      c2 19 (.ref 3) (.ref 4) (.ref 13) fun w v0 v1 hb h0 h1 => kQSub h0 h1 k0.sm' k1.sm' (by first | decide | assumption | omega) (by first | decide | assumption | omega),
      c1 29 (.ref 13) (.ref 14) fun w v0 hb h0 => kQSign h0 (k0.sm'.sub k1.sm') (by first | decide | assumption | omega),
      c1 29 (.ref 5) (.ref 15) fun w v0 hb h0 => kQSign h0 k2.sm' (by first | decide | assumption | omega),
      c1 23 (.ref 4) (.ref 16) fun w v0 hb h0 => kQNeg h0 k1.sm' (by first | decide | assumption | omega),
      c1 23 (.ref 3) (.ref 17) fun w v0 hb h0 => kQNeg h0 k0.sm' (by first | decide | assumption | omega),
      c2 27 (.ref 16) (.ref 17) (.ref 18) fun w v0 v1 hb h0 h1 => kQCmp h0 h1 k1.sm'.neg k0.sm'.neg (by first | decide | assumption | omega) (by first | decide | assumption | omega),
      c2 17 (.ref 3) (.ref 5) (.ref 19) fun w v0 v1 hb h0 h1 => kQAdd h0 h1 k0.sm' k2.sm' (by first | decide | assumption | omega) (by first | decide | assumption | omega),
      c2 17 (.ref 4) (.ref 5) (.ref 20) fun w v0 v1 hb h0 h1 => kQAdd h0 h1 k1.sm' k2.sm' (by first | decide | assumption | omega) (by first | decide | assumption | omega),
      c2 27 (.ref 19) (.ref 20) (.ref 21) fun w v0 v1 hb h0 h1 => kQCmp h0 h1 (k0.sm'.add k2.sm') (k1.sm'.add k2.sm') (by first | decide | assumption | omega) (by first | decide | assumption | omega)],
     loads := [⟨24, 0, 0, (.ref 0), fun w q h => loadR2_all w q h⟩,
      ⟨24, 0, 1, (.ref 1), fun w q h => loadR2_all w q h⟩,
      ⟨24, 0, 2, (.ref 2), fun w q h => loadR2_all w q h⟩,
      ⟨29, 0, 4, (.ref 3), fun w q h => loadQ_all w q h⟩,
      ⟨29, 0, 5, (.ref 4), fun w q h => loadQ_all w q h⟩,
      ⟨29, 0, 6, (.ref 5), fun w q h => loadQ_all w q h⟩],
     allocs := [⟨29, 3, _, allocQ_run, allocQ_old⟩],
     boxes := [⟨24, (.ref 0), 0, fun w v h => boxR2_run w v h⟩,
      ⟨24, (.ref 1), 1, fun w v h => boxR2_run w v h⟩,
      ⟨24, (.ref 2), 2, fun w v h => boxR2_run w v h⟩],
     stores := [⟨29, 0, 3, (.ref 3), 4, storeQ_zero⟩,
      ⟨29, 0, 3, (.ref 4), 5, storeQ_zero⟩,
      ⟨29, 0, 3, (.ref 5), 6, storeQ_zero⟩] }
   Tryz.func6 ⟨hva, hvb, hvc, trivial⟩ (by kernel_rfl)
set_option maxRecDepth 100000 in
theorem QOrd_law20 {r0 r1 r2 : Raw2} (va : Value) (vb : Value) (vc : Value) (W : World) (hva : (eqF r0.val_).p va W) (hvb : (eqF r1.val_).p vb W) (hvc : (eqF r2.val_).p vc W) (k0 : r0.Ok W) (k1 : r1.Ok W) (k2 : r2.Ok W) (ht : P10 W) (h1 : ¬ r1.rat < r0.rat) (h2 : ¬ r2.rat < r1.rat) (hc : 0 < r2.rat) : Calls Tryz.prog 6 #[va, vb, vc] W (GivesP (eqF (.bool true)) W) := by
  let E : List PF := [(eqF r0.val_), (eqF r1.val_), (eqF r2.val_), (ratF r0.rat), (ratF r1.rat), (ratF r2.rat), (eqF (.int .i64 (cmpR r0.rat r1.rat))), (eqF (.int .i64 (cmpR r1.rat r2.rat))), (eqF (.int .i64 (cmpR r0.rat r2.rat))), (eqF (.int .i64 (cmpR r1.rat r0.rat))), (eqF (.int .i64 (-(cmpR r1.rat r0.rat)))), (eqF (.bool ((cmpR r0.rat r1.rat) == 0))), (eqF (.bool (decide (r0.rat = r1.rat)))), (ratF (r0.rat - r1.rat)), (eqF (.int .i64 (cmpR (r0.rat - r1.rat) 0))), (eqF (.int .i64 (cmpR r2.rat 0))), (ratF (r0.rat * r2.rat)), (ratF (r1.rat * r2.rat)), (eqF (.int .i64 (cmpR (r0.rat * r2.rat) (r1.rat * r2.rat)))), (ratF (-r1.rat)), (ratF (-r0.rat)), (eqF (.int .i64 (cmpR (-r1.rat) (-r0.rat)))), (ratF (r0.rat + r2.rat)), (ratF (r1.rat + r2.rat)), (eqF (.int .i64 (cmpR (r0.rat + r2.rat) (r1.rat + r2.rat))))]
  let EB : List CF := [(rawB2F r0), (rawB2F r1), (rawB2F r2), zeroQF, (boxQ r0.rat), (boxQ r1.rat), (boxQ r2.rat)]
  exact auto_calls (E := E) (EB := EB) (fs := [(.ref 0), (.ref 1), (.ref 2)]) (r := (.bool true))
   { pures := [p1 (.un .neg 3) (.ref 9) (.ref 10) fun _ _ _ _ hx => h_neg (cmpR_wrap _ _) hx,
      p2 (.bin .eql 3 3) (.ref 6) (.ref 10) (.bool true) fun _ _ _ _ _ hx hy => h_eqlI (r := true) (beq_iff_eq.2 (cmpR_swap _ _)) hx hy,
      p2 (.bin .eql 3 3) (.ref 6) (.int .i64 0) (.ref 11) fun _ _ _ _ _ hx hy => h_eqlI rfl hx hy,
      p2 (.bin .eql 4 4) (.ref 11) (.ref 12) (.bool true) fun _ _ _ _ _ hx hy => h_eqlB (r := true) (beq_iff_eq.2 (cmpR_zero _ _)) hx hy,
      p2 (.bin .gtr 3 3) (.ref 6) (.int .i64 0) (.bool false) fun _ _ _ _ _ hx hy => h_gtr (r := false) (cmpR_nle h1) hx hy,
      p2 (.bin .gtr 3 3) (.ref 7) (.int .i64 0) (.bool false) fun _ _ _ _ _ hx hy => h_gtr (r := false) (cmpR_nle h2) hx hy,
      p2 (.bin .leq 3 3) (.ref 8) (.int .i64 0) (.bool true) fun _ _ _ _ _ hx hy => h_leq (r := true) (cmpR_trans h1 h2) hx hy,
      p2 (.bin .eql 3 3) (.ref 6) (.ref 14) (.bool true) fun _ _ _ _ _ hx hy => h_eqlI (r := true) (beq_iff_eq.2 (cmpR_subs _ _)) hx hy,
      p2 (.bin .leq 3 3) (.ref 15) (.int .i64 0) (.bool false) fun _ _ _ _ _ hx hy => h_leq (r := false) (cmpR_le0_f hc) hx hy,
      p2 (.bin .eql 3 3) (.ref 18) (.ref 6) (.bool true) fun _ _ _ _ _ hx hy => h_eqlI (r := true) (beq_iff_eq.2 (cmpR_mul hc)) hx hy,
      p2 (.bin .eql 3 3) (.ref 21) (.ref 6) (.bool true) fun _ _ _ _ _ hx hy => h_eqlI (r := true) (beq_iff_eq.2 (cmpR_neg _ _)) hx hy,
      p2 (.bin .eql 3 3) (.ref 24) (.ref 6) (.bool true) fun _ _ _ _ _ hx hy => h_eqlI (r := true) (beq_iff_eq.2 (cmpR_add _ _ _)) hx hy],
     calls := [c0 10 (.bool true) fun w hb => kSan2 ht hb,
      c1 11 (.ref 0) (.ref 3) fun w v0 hb h0 => kMade2 k0 hb h0,
      c1 11 (.ref 1) (.ref 4) fun w v0 hb h0 => kMade2 k1 hb h0,
      c1 11 (.ref 2) (.ref 5) fun w v0 hb h0 => kMade2 k2 hb h0,
      c2 27 (.ref 3) (.ref 4) (.ref 6) fun w v0 v1 hb h0 h1 => kQCmp h0 h1 k0.sm' k1.sm' (by first | decide | assumption | omega) (by first | decide | assumption | omega),
      c2 27 (.ref 4) (.ref 5) (.ref 7) fun w v0 v1 hb h0 h1 => kQCmp h0 h1 k1.sm' k2.sm' (by first | decide | assumption | omega) (by first | decide | assumption | omega),
      c2 27 (.ref 3) (.ref 5) (.ref 8) fun w v0 v1 hb h0 h1 => kQCmp h0 h1 k0.sm' k2.sm' (by first | decide | assumption | omega) (by first | decide | assumption | omega),
      c2 27 (.ref 4) (.ref 3) (.ref 9) fun w v0 v1 hb h0 h1 => kQCmp h0 h1 k1.sm' k0.sm' (by first | decide | assumption | omega) (by first | decide | assumption | omega),
      c2 16 (.ref 3) (.ref 4) (.ref 12) fun w v0 v1 hb h0 h1 => kPSame h0 h1 k0.sm' k1.sm' (by decide) (by decide),
      c2 19 (.ref 3) (.ref 4) (.ref 13) fun w v0 v1 hb h0 h1 => kQSub h0 h1 k0.sm' k1.sm' (by first | decide | assumption | omega) (by first | decide | assumption | omega),
      c1 29 (.ref 13) (.ref 14) fun w v0 hb h0 => kQSign h0 (k0.sm'.sub k1.sm') (by first | decide | assumption | omega),
      c1 29 (.ref 5) (.ref 15) fun w v0 hb h0 => kQSign h0 k2.sm' (by first | decide | assumption | omega),
      c2 21 (.ref 3) (.ref 5) (.ref 16) fun w v0 v1 hb h0 h1 => kQMul h0 h1 k0.sm' k2.sm' (by first | decide | assumption | omega) (by first | decide | assumption | omega),
      c2 21 (.ref 4) (.ref 5) (.ref 17) fun w v0 v1 hb h0 h1 => kQMul h0 h1 k1.sm' k2.sm' (by first | decide | assumption | omega) (by first | decide | assumption | omega),
      c2 27 (.ref 16) (.ref 17) (.ref 18) fun w v0 v1 hb h0 h1 => kQCmp h0 h1 (k0.sm'.mul k2.sm') (k1.sm'.mul k2.sm') (by first | decide | assumption | omega) (by first | decide | assumption | omega),
      c1 23 (.ref 4) (.ref 19) fun w v0 hb h0 => kQNeg h0 k1.sm' (by first | decide | assumption | omega),
      c1 23 (.ref 3) (.ref 20) fun w v0 hb h0 => kQNeg h0 k0.sm' (by first | decide | assumption | omega),
      c2 27 (.ref 19) (.ref 20) (.ref 21) fun w v0 v1 hb h0 h1 => kQCmp h0 h1 k1.sm'.neg k0.sm'.neg (by first | decide | assumption | omega) (by first | decide | assumption | omega),
      c2 17 (.ref 3) (.ref 5) (.ref 22) fun w v0 v1 hb h0 h1 => kQAdd h0 h1 k0.sm' k2.sm' (by first | decide | assumption | omega) (by first | decide | assumption | omega),
      c2 17 (.ref 4) (.ref 5) (.ref 23) fun w v0 v1 hb h0 h1 => kQAdd h0 h1 k1.sm' k2.sm' (by first | decide | assumption | omega) (by first | decide | assumption | omega),
      c2 27 (.ref 22) (.ref 23) (.ref 24) fun w v0 v1 hb h0 h1 => kQCmp h0 h1 (k0.sm'.add k2.sm') (k1.sm'.add k2.sm') (by first | decide | assumption | omega) (by first | decide | assumption | omega)],
     loads := [⟨24, 0, 0, (.ref 0), fun w q h => loadR2_all w q h⟩,
      ⟨24, 0, 1, (.ref 1), fun w q h => loadR2_all w q h⟩,
      ⟨24, 0, 2, (.ref 2), fun w q h => loadR2_all w q h⟩,
      ⟨29, 0, 4, (.ref 3), fun w q h => loadQ_all w q h⟩,
      ⟨29, 0, 5, (.ref 4), fun w q h => loadQ_all w q h⟩,
      ⟨29, 0, 6, (.ref 5), fun w q h => loadQ_all w q h⟩],
     allocs := [⟨29, 3, _, allocQ_run, allocQ_old⟩],
     boxes := [⟨24, (.ref 0), 0, fun w v h => boxR2_run w v h⟩,
      ⟨24, (.ref 1), 1, fun w v h => boxR2_run w v h⟩,
      ⟨24, (.ref 2), 2, fun w v h => boxR2_run w v h⟩],
     stores := [⟨29, 0, 3, (.ref 3), 4, storeQ_zero⟩,
      ⟨29, 0, 3, (.ref 4), 5, storeQ_zero⟩,
      ⟨29, 0, 3, (.ref 5), 6, storeQ_zero⟩] }
   Tryz.func6 ⟨hva, hvb, hvc, trivial⟩ (by kernel_rfl)
set_option maxRecDepth 100000 in
theorem QOrd_law21 {r0 r1 r2 : Raw2} (va : Value) (vb : Value) (vc : Value) (W : World) (hva : (eqF r0.val_).p va W) (hvb : (eqF r1.val_).p vb W) (hvc : (eqF r2.val_).p vc W) (k0 : r0.Ok W) (k1 : r1.Ok W) (k2 : r2.Ok W) (ht : P10 W) (h1 : ¬ r1.rat < r0.rat) (h2 : ¬ r2.rat < r1.rat) (hc : ¬ 0 < r2.rat) : Calls Tryz.prog 6 #[va, vb, vc] W (GivesP (eqF (.bool true)) W) := by
  let E : List PF := [(eqF r0.val_), (eqF r1.val_), (eqF r2.val_), (ratF r0.rat), (ratF r1.rat), (ratF r2.rat), (eqF (.int .i64 (cmpR r0.rat r1.rat))), (eqF (.int .i64 (cmpR r1.rat r2.rat))), (eqF (.int .i64 (cmpR r0.rat r2.rat))), (eqF (.int .i64 (cmpR r1.rat r0.rat))), (eqF (.int .i64 (-(cmpR r1.rat r0.rat)))), (eqF (.bool ((cmpR r0.rat r1.rat) == 0))), (eqF (.bool (decide (r0.rat = r1.rat)))), (ratF (r0.rat - r1.rat)), (eqF (.int .i64 (cmpR (r0.rat - r1.rat) 0))), (eqF (.int .i64 (cmpR r2.rat 0))), (ratF (-r1.rat)), (ratF (-r0.rat)), (eqF (.int .i64 (cmpR (-r1.rat) (-r0.rat)))), (ratF (r0.rat + r2.rat)), (ratF (r1.rat + r2.rat)), (eqF (.int .i64 (cmpR (r0.rat + r2.rat) (r1.rat + r2.rat))))]
  let EB : List CF := [(rawB2F r0), (rawB2F r1), (rawB2F r2), zeroQF, (boxQ r0.rat), (boxQ r1.rat), (boxQ r2.rat)]
  exact auto_calls (E := E) (EB := EB) (fs := [(.ref 0), (.ref 1), (.ref 2)]) (r := (.bool true))
   { pures := [p1 (.un .neg 3) (.ref 9) (.ref 10) fun _ _ _ _ hx => h_neg (cmpR_wrap _ _) hx,
      p2 (.bin .eql 3 3) (.ref 6) (.ref 10) (.bool true) fun _ _ _ _ _ hx hy => h_eqlI (r := true) (beq_iff_eq.2 (cmpR_swap _ _)) hx hy,
      p2 (.bin .eql 3 3) (.ref 6) (.int .i64 0) (.ref 11) fun _ _ _ _ _ hx hy => h_eqlI rfl hx hy,
      p2 (.bin .eql 4 4) (.ref 11) (.ref 12) (.bool true) fun _ _ _ _ _ hx hy => h_eqlB (r := true) (beq_iff_eq.2 (cmpR_zero _ _)) hx hy,
      p2 (.bin .gtr 3 3) (.ref 6) (.int .i64 0) (.bool false) fun _ _ _ _ _ hx hy => h_gtr (r := false) (cmpR_nle h1) hx hy,
      p2 (.bin .gtr 3 3) (.ref 7) (.int .i64 0) (.bool false) fun _ _ _ _ _ hx hy => h_gtr (r := false) (cmpR_nle h2) hx hy,
      p2 (.bin .leq 3 3) (.ref 8) (.int .i64 0) (.bool true) fun _ _ _ _ _ hx hy => h_leq (r := true) (cmpR_trans h1 h2) hx hy,
      p2 (.bin .eql 3 3) (.ref 6) (.ref 14) (.bool true) fun _ _ _ _ _ hx hy => h_eqlI (r := true) (beq_iff_eq.2 (cmpR_subs _ _)) hx hy,
      p2 (.bin .leq 3 3) (.ref 15) (.int .i64 0) (.bool true) fun _ _ _ _ _ hx hy => h_leq (r := true) (cmpR_le (Rat.not_lt.1 hc)) hx hy,
      p2 (.bin .eql 3 3) (.ref 18) (.ref 6) (.bool true) fun _ _ _ _ _ hx hy => h_eqlI (r := true) (beq_iff_eq.2 (cmpR_neg _ _)) hx hy,
      p2 (.bin .eql 3 3) (.ref 21) (.ref 6) (.bool true) fun _ _ _ _ _ hx hy => h_eqlI (r := true) (beq_iff_eq.2 (cmpR_add _ _ _)) hx hy],
     calls := [c0 10 (.bool true) fun w hb => kSan2 ht hb,
      c1 11 (.ref 0) (.ref 3) fun w v0 hb h0 => kMade2 k0 hb h0,
      c1 11 (.ref 1) (.ref 4) fun w v0 hb h0 => kMade2 k1 hb h0,
      c1 11 (.ref 2) (.ref 5) fun w v0 hb h0 => kMade2 k2 hb h0,
      c2 27 (.ref 3) (.ref 4) (.ref 6) fun w v0 v1 hb h0 h1 => kQCmp h0 h1 k0.sm' k1.sm' (by first | decide | assumption | omega) (by first | decide | assumption | omega),
      c2 27 (.ref 4) (.ref 5) (.ref 7) fun w v0 v1 hb h0 h1 => kQCmp h0 h1 k1.sm' k2.sm' (by first | decide | assumption | omega) (by first | decide | assumption | omega),
      c2 27 (.ref 3) (.ref 5) (.ref 8) fun w v0 v1 hb h0 h1 => kQCmp h0 h1 k0.sm' k2.sm' (by first | decide | assumption | omega) (by first | decide | assumption | omega),
      c2 27 (.ref 4) (.ref 3) (.ref 9) fun w v0 v1 hb h0 h1 => kQCmp h0 h1 k1.sm' k0.sm' (by first | decide | assumption | omega) (by first | decide | assumption | omega),
      c2 16 (.ref 3) (.ref 4) (.ref 12) fun w v0 v1 hb h0 h1 => kPSame h0 h1 k0.sm' k1.sm' (by decide) (by decide),
      c2 19 (.ref 3) (.ref 4) (.ref 13) fun w v0 v1 hb h0 h1 => kQSub h0 h1 k0.sm' k1.sm' (by first | decide | assumption | omega) (by first | decide | assumption | omega),
      c1 29 (.ref 13) (.ref 14) fun w v0 hb h0 => kQSign h0 (k0.sm'.sub k1.sm') (by first | decide | assumption | omega),
      c1 29 (.ref 5) (.ref 15) fun w v0 hb h0 => kQSign h0 k2.sm' (by first | decide | assumption | omega),
      c1 23 (.ref 4) (.ref 16) fun w v0 hb h0 => kQNeg h0 k1.sm' (by first | decide | assumption | omega),
      c1 23 (.ref 3) (.ref 17) fun w v0 hb h0 => kQNeg h0 k0.sm' (by first | decide | assumption | omega),
      c2 27 (.ref 16) (.ref 17) (.ref 18) fun w v0 v1 hb h0 h1 => kQCmp h0 h1 k1.sm'.neg k0.sm'.neg (by first | decide | assumption | omega) (by first | decide | assumption | omega),
      c2 17 (.ref 3) (.ref 5) (.ref 19) fun w v0 v1 hb h0 h1 => kQAdd h0 h1 k0.sm' k2.sm' (by first | decide | assumption | omega) (by first | decide | assumption | omega),
      c2 17 (.ref 4) (.ref 5) (.ref 20) fun w v0 v1 hb h0 h1 => kQAdd h0 h1 k1.sm' k2.sm' (by first | decide | assumption | omega) (by first | decide | assumption | omega),
      c2 27 (.ref 19) (.ref 20) (.ref 21) fun w v0 v1 hb h0 h1 => kQCmp h0 h1 (k0.sm'.add k2.sm') (k1.sm'.add k2.sm') (by first | decide | assumption | omega) (by first | decide | assumption | omega)],
     loads := [⟨24, 0, 0, (.ref 0), fun w q h => loadR2_all w q h⟩,
      ⟨24, 0, 1, (.ref 1), fun w q h => loadR2_all w q h⟩,
      ⟨24, 0, 2, (.ref 2), fun w q h => loadR2_all w q h⟩,
      ⟨29, 0, 4, (.ref 3), fun w q h => loadQ_all w q h⟩,
      ⟨29, 0, 5, (.ref 4), fun w q h => loadQ_all w q h⟩,
      ⟨29, 0, 6, (.ref 5), fun w q h => loadQ_all w q h⟩],
     allocs := [⟨29, 3, _, allocQ_run, allocQ_old⟩],
     boxes := [⟨24, (.ref 0), 0, fun w v h => boxR2_run w v h⟩,
      ⟨24, (.ref 1), 1, fun w v h => boxR2_run w v h⟩,
      ⟨24, (.ref 2), 2, fun w v h => boxR2_run w v h⟩],
     stores := [⟨29, 0, 3, (.ref 3), 4, storeQ_zero⟩,
      ⟨29, 0, 3, (.ref 4), 5, storeQ_zero⟩,
      ⟨29, 0, 3, (.ref 5), 6, storeQ_zero⟩] }
   Tryz.func6 ⟨hva, hvb, hvc, trivial⟩ (by kernel_rfl)
theorem QOrd_law (r0 r1 r2 : Raw2) (W : World) (k0 : r0.Ok W) (k1 : r1.Ok W) (k2 : r2.Ok W) (ht : P10 W) : Calls Tryz.prog 6 #[r0.val_, r1.val_, r2.val_] W (GivesP (eqF (.bool true)) W) := by
  by_cases hc : 0 < r2.rat
  · by_cases h1 : r1.rat < r0.rat
    · exact QOrd_law00 _ _ _ W rfl rfl rfl k0 k1 k2 ht h1 hc
    · by_cases h2 : r2.rat < r1.rat
      · exact QOrd_law10 _ _ _ W rfl rfl rfl k0 k1 k2 ht h1 h2 hc
      · exact QOrd_law20 _ _ _ W rfl rfl rfl k0 k1 k2 ht h1 h2 hc
  · by_cases h1 : r1.rat < r0.rat
    · exact QOrd_law01 _ _ _ W rfl rfl rfl k0 k1 k2 ht h1 hc
    · by_cases h2 : r2.rat < r1.rat
      · exact QOrd_law11 _ _ _ W rfl rfl rfl k0 k1 k2 ht h1 h2 hc
      · exact QOrd_law21 _ _ _ W rfl rfl rfl k0 k1 k2 ht h1 h2 hc
end Go.Proofs.YtdofolejfdfocaaGreatDoor
