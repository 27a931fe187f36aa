/- The regions 3 to 6 of IntegerOrder (written by wip/tools/gen_order.py). -/
import Derived.Test.YtjajmonhcnmidaaDoorSq
namespace Go.Proofs.YtjajmonhcnmidaaDoor
open Go.RowKit

noncomputable def ops_ord3 : Array Oper := match Tryd.f6.body with | some c => regionOf 3 c | none => #[]
theorem ord3 {Q : Exit → Act → World → Prop} {W0 : World} {a0 : Act} {z8 z9 : Int} {g8 : Nat} {b8 : Bool} {A8 : Option Addr} {k8 c8 : Nat} {g9 : Nat} {b9 : Bool} {A9 : Option Addr} {k9 c9 : Nat} {ops : Array Oper} (hops : ops = ops_ord3)
    (hQ : ∀ c d v a w, Q (.panic c) (a.put d v) w → Q (.panic c) a w) (hz : a0.tmps.size = 100)
    (L8 : a0.tmps[8]? = some (.pointer (some ⟨g8, 0, none⟩))) (X8 : BoxI W0 g8 (.agg #[.bool b8, .slice A8 k8 c8]) (z8)) (S8 : Sm (z8) 12)
    (L9 : a0.tmps[9]? = some (.pointer (some ⟨g9, 0, none⟩))) (X9 : BoxI W0 g9 (.agg #[.bool b9, .slice A9 k9 c9]) (z9)) (S9 : Sm (z9) 12)
    (fin : ∀ a' w', a'.tmps.size = 100 → (∀ t, t < 14 → 11 ≠ t → a'.tmps[t]? = a0.tmps[t]?) → a'.tmps[11]? = some (.int .i64 (cmpI z8 z9)) → a'.defers = a0.defers → Below W0.heap.size W0 w' → Q .normal a' w') : (Code.region 3 ops false).wp Tryd.prog Q a0 W0 := by
  subst hops
  refine wp_region ?_
  rw [show ops_ord3.size = 4 from by kernel_rfl]
  show wpOps Tryd.prog ops_ord3 Q [0, 1, 2, 3] a0 W0
  have hB0 : Below W0.heap.size W0 W0 := Below.refl _ _
  have hF0 : Fr 100 14 a0 a0 := frHere hz
  refine seqP (op := .load 27 (.tmp 8)) (d := 21) (g := none) (i := 0) (v := .agg #[.bool b8, .slice A8 k8 c8]) (opIs_of (by kernel_rfl)) guard_none (fun o ho => run_loadB X8 hB0 ((hF0.low 8 (by decide)).trans L8) ho) hF0 (by decide) (by decide) ?_
  intro a1 hF1 hs21 kp
  clear kp hF0
  refine seqP (op := .load 27 (.tmp 9)) (d := 22) (g := none) (i := 1) (v := .agg #[.bool b9, .slice A9 k9 c9]) (opIs_of (by kernel_rfl)) guard_none (fun o ho => run_loadB X9 hB0 ((hF1.low 9 (by decide)).trans L9) ho) hF1 (by decide) (by decide) ?_
  intro a2 hF2 hs22 kp
  replace hs21 := kp 21 _ (by decide) hs21
  clear kp hF1
  refine seqC (op := .call { callee := .value (.func 26), args := #[.tmp 21, .tmp 22], argTypes := #[27, 27] }) (d := 23) (g := none) (i := 2) (fun v _ => v = .int .i64 (cmpI z8 z9)) (opIs_of (by kernel_rfl)) guard_none (fun o ho => run_callCmp hs21 hs22 ho) hF2 (by decide) (by decide) hB0 (cCmp ((X8.into hB0).int) ((X9.into hB0).int) S8 S9 (by decide) (by decide)) ?_
  rintro v23 a3 w1 hF3 hs23 kp rfl hb hB1
  clear hb
  clear kp hF2 hs21 hs22
  exact seqEnd (op := .assign (.tmp 23)) (d := 11) (i := 3) (v := .int .i64 ((cmpI z8 z9))) (opIs_of (by kernel_rfl)) (fun o ho => run_assign' hs23 ho) hF3 (by decide) hB1 fin
noncomputable def ops_ord4 : Array Oper := match Tryd.f6.body with | some c => regionOf 4 c | none => #[]
theorem ord4 {Q : Exit → Act → World → Prop} {W0 : World} {a0 : Act} {z8 z9 : Int} {g8 : Nat} {b8 : Bool} {A8 : Option Addr} {k8 c8 : Nat} {g9 : Nat} {b9 : Bool} {A9 : Option Addr} {k9 c9 : Nat} {ops : Array Oper} (hops : ops = ops_ord4)
    (hQ : ∀ c d v a w, Q (.panic c) (a.put d v) w → Q (.panic c) a w) (hz : a0.tmps.size = 100)
    (L8 : a0.tmps[8]? = some (.pointer (some ⟨g8, 0, none⟩))) (X8 : BoxI W0 g8 (.agg #[.bool b8, .slice A8 k8 c8]) (z8)) (S8 : Sm (z8) 12)
    (L9 : a0.tmps[9]? = some (.pointer (some ⟨g9, 0, none⟩))) (X9 : BoxI W0 g9 (.agg #[.bool b9, .slice A9 k9 c9]) (z9)) (S9 : Sm (z9) 12)
    (L11 : a0.tmps[11]? = some (.int .i64 ((cmpI z8 z9))))
    (fin : ∀ a' w', a'.tmps.size = 100 → (∀ t, t < 14 → 12 ≠ t → a'.tmps[t]? = a0.tmps[t]?) → a'.tmps[12]? = some (.bool true) → a'.defers = a0.defers → Below W0.heap.size W0 w' → Q .normal a' w') : (Code.region 4 ops false).wp Tryd.prog Q a0 W0 := by
  subst hops
  refine wp_region ?_
  rw [show ops_ord4.size = 31 from by kernel_rfl]
  show wpOps Tryd.prog ops_ord4 Q [0, 1, 2, 3, 4, 5, 6, 7, 8, 9, 10, 11, 12, 13, 14, 15, 16, 17, 18, 19, 20, 21, 22, 23, 24, 25, 26, 27, 28, 29, 30] a0 W0
  have hB0 : Below W0.heap.size W0 W0 := Below.refl _ _
  have hF0 : Fr 100 14 a0 a0 := frHere hz
  refine seqP (op := .move (.tmp 11)) (d := 24) (g := none) (i := 0) (v := .int .i64 ((cmpI z8 z9))) (opIs_of (by kernel_rfl)) guard_none (fun o ho => run_move' ((hF0.low 11 (by decide)).trans L11) ho) hF0 (by decide) (by decide) ?_
  intro a1 hF1 hs24 kp
  clear kp hF0
  refine seqP (op := .load 27 (.tmp 9)) (d := 25) (g := none) (i := 1) (v := .agg #[.bool b9, .slice A9 k9 c9]) (opIs_of (by kernel_rfl)) guard_none (fun o ho => run_loadB X9 hB0 ((hF1.low 9 (by decide)).trans L9) ho) hF1 (by decide) (by decide) ?_
  intro a2 hF2 hs25 kp
  replace hs24 := kp 24 _ (by decide) hs24
  clear kp hF1
  refine seqP (op := .load 27 (.tmp 8)) (d := 26) (g := none) (i := 2) (v := .agg #[.bool b8, .slice A8 k8 c8]) (opIs_of (by kernel_rfl)) guard_none (fun o ho => run_loadB X8 hB0 ((hF2.low 8 (by decide)).trans L8) ho) hF2 (by decide) (by decide) ?_
  intro a3 hF3 hs26 kp
  replace hs24 := kp 24 _ (by decide) hs24
  replace hs25 := kp 25 _ (by decide) hs25
  clear kp hF2
  refine seqC (op := .call { callee := .value (.func 26), args := #[.tmp 25, .tmp 26], argTypes := #[27, 27] }) (d := 27) (g := none) (i := 3) (fun v _ => v = .int .i64 (cmpI z9 z8)) (opIs_of (by kernel_rfl)) guard_none (fun o ho => run_callCmp hs25 hs26 ho) hF3 (by decide) (by decide) hB0 (cCmp ((X9.into hB0).int) ((X8.into hB0).int) S9 S8 (by decide) (by decide)) ?_
  rintro v27 a4 w1 hF4 hs27 kp rfl hb hB1
  replace hs24 := kp 24 _ (by decide) hs24
  clear hb
  clear kp hF3 hs25 hs26
  refine seqP (op := .unOp .neg 3 (.tmp 27)) (d := 28) (g := none) (i := 4) (v := .int .i64 ((cmpI z8 z9))) (opIs_of (by kernel_rfl)) guard_none (fun o ho => run_neg' hs27 (cmp_neg _ _) ho) hF4 (by decide) (by decide) ?_
  intro a5 hF5 hs28 kp
  replace hs24 := kp 24 _ (by decide) hs24
  clear kp hF4 hs27
  refine seqP (op := .binOp .eql 3 (.tmp 24) (.tmp 28) 3) (d := 29) (g := none) (i := 5) (v := .bool true) (opIs_of (by kernel_rfl)) guard_none (fun o ho => by rw [run_eqII hs24 hs28 ho]; exact congrArg (fun b => Result.ok (Next.value (Value.bool b)) _) (cmp_self _)) hF5 (by decide) (by decide) ?_
  intro a6 hF6 hs29 kp
  clear kp hF5 hs24 hs28
  refine seqP (op := .move (.tmp 29)) (d := 30) (g := none) (i := 6) (v := .bool true) (opIs_of (by kernel_rfl)) guard_none (fun o ho => run_move' hs29 ho) hF6 (by decide) (by decide) ?_
  intro a7 hF7 hs30 kp
  clear kp hF6 hs29
  refine seqP (op := .move (.tmp 11)) (d := 31) (g := some (6, true)) (i := 7) (v := .int .i64 ((cmpI z8 z9))) (opIs_of (by kernel_rfl)) (guard_of (j := 6) (d := 30) (by kernel_rfl) hs30) (fun o ho => run_move' ((hF7.low 11 (by decide)).trans L11) ho) hF7 (by decide) (by decide) ?_
  intro a8 hF8 hs31 kp
  replace hs30 := kp 30 _ (by decide) hs30
  clear kp hF7
  refine seqP (op := .binOp .eql 3 (.tmp 31) (.const (.int .i64 0)) 3) (d := 32) (g := some (6, true)) (i := 8) (v := .bool ((cmpI z8 z9) == 0)) (opIs_of (by kernel_rfl)) (guard_of (j := 6) (d := 30) (by kernel_rfl) hs30) (fun o ho => run_eqI' hs31 ho) hF8 (by decide) (by decide) ?_
  intro a9 hF9 hs32 kp
  replace hs30 := kp 30 _ (by decide) hs30
  clear kp hF8 hs31
  refine seqP (op := .load 27 (.tmp 8)) (d := 33) (g := some (6, true)) (i := 9) (v := .agg #[.bool b8, .slice A8 k8 c8]) (opIs_of (by kernel_rfl)) (guard_of (j := 6) (d := 30) (by kernel_rfl) hs30) (fun o ho => run_loadB X8 hB1 ((hF9.low 8 (by decide)).trans L8) ho) hF9 (by decide) (by decide) ?_
  intro a10 hF10 hs33 kp
  replace hs30 := kp 30 _ (by decide) hs30
  replace hs32 := kp 32 _ (by decide) hs32
  clear kp hF9
  refine seqP (op := .load 27 (.tmp 9)) (d := 34) (g := some (6, true)) (i := 10) (v := .agg #[.bool b9, .slice A9 k9 c9]) (opIs_of (by kernel_rfl)) (guard_of (j := 6) (d := 30) (by kernel_rfl) hs30) (fun o ho => run_loadB X9 hB1 ((hF10.low 9 (by decide)).trans L9) ho) hF10 (by decide) (by decide) ?_
  intro a11 hF11 hs34 kp
  replace hs30 := kp 30 _ (by decide) hs30
  replace hs32 := kp 32 _ (by decide) hs32
  replace hs33 := kp 33 _ (by decide) hs33
  clear kp hF10
  refine seqC (op := .call { callee := .value (.func 21), args := #[.tmp 33, .tmp 34], argTypes := #[27, 27] }) (d := 35) (g := some (6, true)) (i := 11) (fun v _ => v = .bool (decide (z8 = z9))) (opIs_of (by kernel_rfl)) (guard_of (j := 6) (d := 30) (by kernel_rfl) hs30) (fun o ho => run_callSame hs33 hs34 ho) hF11 (by decide) (by decide) hB1 (cSame ((X8.into hB1).int) ((X9.into hB1).int) S8 S9 (by decide) (by decide)) ?_
  rintro v35 a12 w2 hF12 hs35 kp rfl hb hB2
  replace hs30 := kp 30 _ (by decide) hs30
  replace hs32 := kp 32 _ (by decide) hs32
  clear hb
  clear kp hF11 hs33 hs34
  refine seqP (op := .binOp .eql 4 (.tmp 32) (.tmp 35) 4) (d := 36) (g := some (6, true)) (i := 12) (v := .bool true) (opIs_of (by kernel_rfl)) (guard_of (j := 6) (d := 30) (by kernel_rfl) hs30) (fun o ho => by rw [run_eqB hs32 hs35 ho]; exact congrArg (fun b => Result.ok (Next.value (Value.bool b)) _) (cmp_zero _ _)) hF12 (by decide) (by decide) ?_
  intro a13 hF13 hs36 kp
  replace hs30 := kp 30 _ (by decide) hs30
  clear kp hF12 hs32 hs35
  refine seqP (op := .pick (.tmp 30) (.tmp 36) (.const (.bool false))) (d := 37) (g := none) (i := 13) (v := .bool true) (opIs_of (by kernel_rfl)) guard_none (fun o ho => run_pick' (x := true) hs30 hs36 ho) hF13 (by decide) (by decide) ?_
  intro a14 hF14 hs37 kp
  clear kp hF13 hs30 hs36
  refine seqP (op := .move (.tmp 37)) (d := 38) (g := none) (i := 14) (v := .bool true) (opIs_of (by kernel_rfl)) guard_none (fun o ho => run_move' hs37 ho) hF14 (by decide) (by decide) ?_
  intro a15 hF15 hs38 kp
  clear kp hF14 hs37
  refine seqP (op := .move (.tmp 11)) (d := 39) (g := some (14, true)) (i := 15) (v := .int .i64 ((cmpI z8 z9))) (opIs_of (by kernel_rfl)) (guard_of (j := 14) (d := 38) (by kernel_rfl) hs38) (fun o ho => run_move' ((hF15.low 11 (by decide)).trans L11) ho) hF15 (by decide) (by decide) ?_
  intro a16 hF16 hs39 kp
  replace hs38 := kp 38 _ (by decide) hs38
  clear kp hF15
  refine seqP (op := .binOp .geq 3 (.tmp 39) (.const (.int .i64 (-1))) 3) (d := 40) (g := some (14, true)) (i := 16) (v := .bool true) (opIs_of (by kernel_rfl)) (guard_of (j := 14) (d := 38) (by kernel_rfl) hs38) (fun o ho => by rw [run_geqC hs39 ho]; exact congrArg (fun b => Result.ok (Next.value (Value.bool b)) _) (cmp_ge _ _)) hF16 (by decide) (by decide) ?_
  intro a17 hF17 hs40 kp
  replace hs38 := kp 38 _ (by decide) hs38
  clear kp hF16 hs39
  refine seqP (op := .pick (.tmp 38) (.tmp 40) (.const (.bool false))) (d := 41) (g := none) (i := 17) (v := .bool true) (opIs_of (by kernel_rfl)) guard_none (fun o ho => run_pick' (x := true) hs38 hs40 ho) hF17 (by decide) (by decide) ?_
  intro a18 hF18 hs41 kp
  clear kp hF17 hs38 hs40
  refine seqP (op := .move (.tmp 41)) (d := 42) (g := none) (i := 18) (v := .bool true) (opIs_of (by kernel_rfl)) guard_none (fun o ho => run_move' hs41 ho) hF18 (by decide) (by decide) ?_
  intro a19 hF19 hs42 kp
  clear kp hF18 hs41
  refine seqP (op := .move (.tmp 11)) (d := 43) (g := some (18, true)) (i := 19) (v := .int .i64 ((cmpI z8 z9))) (opIs_of (by kernel_rfl)) (guard_of (j := 18) (d := 42) (by kernel_rfl) hs42) (fun o ho => run_move' ((hF19.low 11 (by decide)).trans L11) ho) hF19 (by decide) (by decide) ?_
  intro a20 hF20 hs43 kp
  replace hs42 := kp 42 _ (by decide) hs42
  clear kp hF19
  refine seqP (op := .binOp .leq 3 (.tmp 43) (.const (.int .i64 1)) 3) (d := 44) (g := some (18, true)) (i := 20) (v := .bool true) (opIs_of (by kernel_rfl)) (guard_of (j := 18) (d := 42) (by kernel_rfl) hs42) (fun o ho => by rw [run_leqC hs43 ho]; exact congrArg (fun b => Result.ok (Next.value (Value.bool b)) _) (cmp_le _ _)) hF20 (by decide) (by decide) ?_
  intro a21 hF21 hs44 kp
  replace hs42 := kp 42 _ (by decide) hs42
  clear kp hF20 hs43
  refine seqP (op := .pick (.tmp 42) (.tmp 44) (.const (.bool false))) (d := 45) (g := none) (i := 21) (v := .bool true) (opIs_of (by kernel_rfl)) guard_none (fun o ho => run_pick' (x := true) hs42 hs44 ho) hF21 (by decide) (by decide) ?_
  intro a22 hF22 hs45 kp
  clear kp hF21 hs42 hs44
  refine seqP (op := .move (.tmp 45)) (d := 46) (g := none) (i := 22) (v := .bool true) (opIs_of (by kernel_rfl)) guard_none (fun o ho => run_move' hs45 ho) hF22 (by decide) (by decide) ?_
  intro a23 hF23 hs46 kp
  clear kp hF22 hs45
  refine seqP (op := .move (.tmp 11)) (d := 47) (g := some (22, true)) (i := 23) (v := .int .i64 ((cmpI z8 z9))) (opIs_of (by kernel_rfl)) (guard_of (j := 22) (d := 46) (by kernel_rfl) hs46) (fun o ho => run_move' ((hF23.low 11 (by decide)).trans L11) ho) hF23 (by decide) (by decide) ?_
  intro a24 hF24 hs47 kp
  replace hs46 := kp 46 _ (by decide) hs46
  clear kp hF23
  refine seqP (op := .load 27 (.tmp 8)) (d := 48) (g := some (22, true)) (i := 24) (v := .agg #[.bool b8, .slice A8 k8 c8]) (opIs_of (by kernel_rfl)) (guard_of (j := 22) (d := 46) (by kernel_rfl) hs46) (fun o ho => run_loadB X8 hB2 ((hF24.low 8 (by decide)).trans L8) ho) hF24 (by decide) (by decide) ?_
  intro a25 hF25 hs48 kp
  replace hs46 := kp 46 _ (by decide) hs46
  replace hs47 := kp 47 _ (by decide) hs47
  clear kp hF24
  refine seqP (op := .load 27 (.tmp 9)) (d := 49) (g := some (22, true)) (i := 25) (v := .agg #[.bool b9, .slice A9 k9 c9]) (opIs_of (by kernel_rfl)) (guard_of (j := 22) (d := 46) (by kernel_rfl) hs46) (fun o ho => run_loadB X9 hB2 ((hF25.low 9 (by decide)).trans L9) ho) hF25 (by decide) (by decide) ?_
  intro a26 hF26 hs49 kp
  replace hs46 := kp 46 _ (by decide) hs46
  replace hs47 := kp 47 _ (by decide) hs47
  replace hs48 := kp 48 _ (by decide) hs48
  clear kp hF25
  refine seqC (op := .call { callee := .value (.func 16), args := #[.tmp 48, .tmp 49], argTypes := #[27, 27] }) (d := 50) (g := some (22, true)) (i := 26) (fun v w' => IntAt w' v (z8 - z9)) (opIs_of (by kernel_rfl)) (guard_of (j := 22) (d := 46) (by kernel_rfl) hs46) (fun o ho => run_callSub hs48 hs49 ho) hF26 (by decide) (by decide) hB2 (cSub ((X8.into hB2).int) ((X9.into hB2).int) S8 S9 (by decide) (by decide)) ?_
  intro v50 a27 w3 hF27 hs50 kp hv50 hb hB3
  replace hs46 := kp 46 _ (by decide) hs46
  replace hs47 := kp 47 _ (by decide) hs47
  clear hb
  clear kp hF26 hs48 hs49
  refine seqC (op := .call { callee := .value (.func 28), args := #[.tmp 50], argTypes := #[27] }) (d := 51) (g := some (22, true)) (i := 27) (fun v _ => v = .int .i64 (Int.sign (z8 - z9))) (opIs_of (by kernel_rfl)) (guard_of (j := 22) (d := 46) (by kernel_rfl) hs46) (fun o ho => run_callSign hs50 ho) hF27 (by decide) (by decide) hB3 (cSign (hv50) (S8.sub S9) (by decide)) ?_
  rintro v51 a28 w4 hF28 hs51 kp rfl hb hB4
  replace hs46 := kp 46 _ (by decide) hs46
  replace hs47 := kp 47 _ (by decide) hs47
  clear hb
  clear kp hF27 hs50 hv50
  refine seqP (op := .binOp .eql 3 (.tmp 47) (.tmp 51) 3) (d := 52) (g := some (22, true)) (i := 28) (v := .bool true) (opIs_of (by kernel_rfl)) (guard_of (j := 22) (d := 46) (by kernel_rfl) hs46) (fun o ho => by rw [run_eqII hs47 hs51 ho]; exact congrArg (fun b => Result.ok (Next.value (Value.bool b)) _) (cmp_sign _ _)) hF28 (by decide) (by decide) ?_
  intro a29 hF29 hs52 kp
  replace hs46 := kp 46 _ (by decide) hs46
  clear kp hF28 hs47 hs51
  refine seqP (op := .pick (.tmp 46) (.tmp 52) (.const (.bool false))) (d := 53) (g := none) (i := 29) (v := .bool true) (opIs_of (by kernel_rfl)) guard_none (fun o ho => run_pick' (x := true) hs46 hs52 ho) hF29 (by decide) (by decide) ?_
  intro a30 hF30 hs53 kp
  clear kp hF29 hs46 hs52
  exact seqEnd (op := .assign (.tmp 53)) (d := 12) (i := 30) (v := .bool true) (opIs_of (by kernel_rfl)) (fun o ho => run_assign' hs53 ho) hF30 (by decide) hB4 fin
noncomputable def ops_ord5a : Array Oper := match Tryd.f6.body with | some c => regionOf 5 c | none => #[]
theorem ord5a {Q : Exit → Act → World → Prop} {W0 : World} {a0 : Act} {z10 z8 z9 : Int} {g8 : Nat} {b8 : Bool} {A8 : Option Addr} {k8 c8 : Nat} {g9 : Nat} {b9 : Bool} {A9 : Option Addr} {k9 c9 : Nat} {g10 : Nat} {b10 : Bool} {A10 : Option Addr} {k10 c10 : Nat} {ops : Array Oper} (hops : ops = ops_ord5a)
    (hQ : ∀ c d v a w, Q (.panic c) (a.put d v) w → Q (.panic c) a w) (hz : a0.tmps.size = 100)
    (L8 : a0.tmps[8]? = some (.pointer (some ⟨g8, 0, none⟩))) (X8 : BoxI W0 g8 (.agg #[.bool b8, .slice A8 k8 c8]) (z8)) (S8 : Sm (z8) 12)
    (L9 : a0.tmps[9]? = some (.pointer (some ⟨g9, 0, none⟩))) (X9 : BoxI W0 g9 (.agg #[.bool b9, .slice A9 k9 c9]) (z9)) (S9 : Sm (z9) 12)
    (L10 : a0.tmps[10]? = some (.pointer (some ⟨g10, 0, none⟩))) (X10 : BoxI W0 g10 (.agg #[.bool b10, .slice A10 k10 c10]) (z10)) (S10 : Sm (z10) 12)
    (L11 : a0.tmps[11]? = some (.int .i64 ((cmpI z8 z9))))
    (h : z9 < z8)
    (fin : ∀ a' w', a'.tmps.size = 100 → (∀ t, t < 14 → 13 ≠ t → a'.tmps[t]? = a0.tmps[t]?) → a'.tmps[13]? = some (.bool true) → a'.defers = a0.defers → Below W0.heap.size W0 w' → Q .normal a' w') : (Code.region 5 ops false).wp Tryd.prog Q a0 W0 := by
  subst hops
  refine wp_region ?_
  rw [show ops_ord5a.size = 15 from by kernel_rfl]
  show wpOps Tryd.prog ops_ord5a Q [0, 1, 2, 3, 4, 5, 6, 7, 8, 9, 10, 11, 12, 13, 14] a0 W0
  have hB0 : Below W0.heap.size W0 W0 := Below.refl _ _
  have hF0 : Fr 100 14 a0 a0 := frHere hz
  refine seqP (op := .move (.tmp 11)) (d := 54) (g := none) (i := 0) (v := .int .i64 ((cmpI z8 z9))) (opIs_of (by kernel_rfl)) guard_none (fun o ho => run_move' ((hF0.low 11 (by decide)).trans L11) ho) hF0 (by decide) (by decide) ?_
  intro a1 hF1 hs54 kp
  clear kp hF0
  refine seqP (op := .binOp .gtr 3 (.tmp 54) (.const (.int .i64 0)) 3) (d := 55) (g := none) (i := 1) (v := .bool true) (opIs_of (by kernel_rfl)) guard_none (fun o ho => by rw [run_gtrC hs54 ho]; exact congrArg (fun b => Result.ok (Next.value (Value.bool b)) _) (cmp_gt h)) hF1 (by decide) (by decide) ?_
  intro a2 hF2 hs55 kp
  clear kp hF1 hs54
  refine seqP (op := .move (.tmp 55)) (d := 56) (g := none) (i := 2) (v := .bool true) (opIs_of (by kernel_rfl)) guard_none (fun o ho => run_move' hs55 ho) hF2 (by decide) (by decide) ?_
  intro a3 hF3 hs56 kp
  clear kp hF2 hs55
  refine seqS (op := .load 27 (.tmp 9)) (d := 57) (g := some (2, false)) (i := 3) (opIs_of (by kernel_rfl)) (guard_off (j := 2) (d := 56) (by kernel_rfl) hs56 rfl) hF3 (by decide) ?_
  intro a4 hF4 kp
  replace hs56 := kp 56 _ (by decide) hs56
  clear kp hF3
  refine seqS (op := .load 27 (.tmp 10)) (d := 58) (g := some (2, false)) (i := 4) (opIs_of (by kernel_rfl)) (guard_off (j := 2) (d := 56) (by kernel_rfl) hs56 rfl) hF4 (by decide) ?_
  intro a5 hF5 kp
  replace hs56 := kp 56 _ (by decide) hs56
  clear kp hF4
  refine seqS (op := .call { callee := .value (.func 26), args := #[.tmp 57, .tmp 58], argTypes := #[27, 27] }) (d := 59) (g := some (2, false)) (i := 5) (opIs_of (by kernel_rfl)) (guard_off (j := 2) (d := 56) (by kernel_rfl) hs56 rfl) hF5 (by decide) ?_
  intro a6 hF6 kp
  replace hs56 := kp 56 _ (by decide) hs56
  clear kp hF5
  refine seqS (op := .binOp .gtr 3 (.tmp 59) (.const (.int .i64 0)) 3) (d := 60) (g := some (2, false)) (i := 6) (opIs_of (by kernel_rfl)) (guard_off (j := 2) (d := 56) (by kernel_rfl) hs56 rfl) hF6 (by decide) ?_
  intro a7 hF7 kp
  replace hs56 := kp 56 _ (by decide) hs56
  clear kp hF6
  refine seqP (op := .pick (.tmp 56) (.const (.bool true)) (.tmp 60)) (d := 61) (g := none) (i := 7) (v := .bool true) (opIs_of (by kernel_rfl)) guard_none (fun o ho => run_pickOrT hs56 ho) hF7 (by decide) (by decide) ?_
  intro a8 hF8 hs61 kp
  clear kp hF7 hs56
  refine seqP (op := .move (.tmp 61)) (d := 62) (g := none) (i := 8) (v := .bool true) (opIs_of (by kernel_rfl)) guard_none (fun o ho => run_move' hs61 ho) hF8 (by decide) (by decide) ?_
  intro a9 hF9 hs62 kp
  clear kp hF8 hs61
  refine seqS (op := .load 27 (.tmp 8)) (d := 63) (g := some (8, false)) (i := 9) (opIs_of (by kernel_rfl)) (guard_off (j := 8) (d := 62) (by kernel_rfl) hs62 rfl) hF9 (by decide) ?_
  intro a10 hF10 kp
  replace hs62 := kp 62 _ (by decide) hs62
  clear kp hF9
  refine seqS (op := .load 27 (.tmp 10)) (d := 64) (g := some (8, false)) (i := 10) (opIs_of (by kernel_rfl)) (guard_off (j := 8) (d := 62) (by kernel_rfl) hs62 rfl) hF10 (by decide) ?_
  intro a11 hF11 kp
  replace hs62 := kp 62 _ (by decide) hs62
  clear kp hF10
  refine seqS (op := .call { callee := .value (.func 26), args := #[.tmp 63, .tmp 64], argTypes := #[27, 27] }) (d := 65) (g := some (8, false)) (i := 11) (opIs_of (by kernel_rfl)) (guard_off (j := 8) (d := 62) (by kernel_rfl) hs62 rfl) hF11 (by decide) ?_
  intro a12 hF12 kp
  replace hs62 := kp 62 _ (by decide) hs62
  clear kp hF11
  refine seqS (op := .binOp .leq 3 (.tmp 65) (.const (.int .i64 0)) 3) (d := 66) (g := some (8, false)) (i := 12) (opIs_of (by kernel_rfl)) (guard_off (j := 8) (d := 62) (by kernel_rfl) hs62 rfl) hF12 (by decide) ?_
  intro a13 hF13 kp
  replace hs62 := kp 62 _ (by decide) hs62
  clear kp hF12
  refine seqP (op := .pick (.tmp 62) (.const (.bool true)) (.tmp 66)) (d := 67) (g := none) (i := 13) (v := .bool true) (opIs_of (by kernel_rfl)) guard_none (fun o ho => run_pickOrT hs62 ho) hF13 (by decide) (by decide) ?_
  intro a14 hF14 hs67 kp
  clear kp hF13 hs62
  exact seqEnd (op := .assign (.tmp 67)) (d := 13) (i := 14) (v := .bool true) (opIs_of (by kernel_rfl)) (fun o ho => run_assign' hs67 ho) hF14 (by decide) hB0 fin
theorem ord5b {Q : Exit → Act → World → Prop} {W0 : World} {a0 : Act} {z10 z8 z9 : Int} {g8 : Nat} {b8 : Bool} {A8 : Option Addr} {k8 c8 : Nat} {g9 : Nat} {b9 : Bool} {A9 : Option Addr} {k9 c9 : Nat} {g10 : Nat} {b10 : Bool} {A10 : Option Addr} {k10 c10 : Nat} {ops : Array Oper} (hops : ops = ops_ord5a)
    (hQ : ∀ c d v a w, Q (.panic c) (a.put d v) w → Q (.panic c) a w) (hz : a0.tmps.size = 100)
    (L8 : a0.tmps[8]? = some (.pointer (some ⟨g8, 0, none⟩))) (X8 : BoxI W0 g8 (.agg #[.bool b8, .slice A8 k8 c8]) (z8)) (S8 : Sm (z8) 12)
    (L9 : a0.tmps[9]? = some (.pointer (some ⟨g9, 0, none⟩))) (X9 : BoxI W0 g9 (.agg #[.bool b9, .slice A9 k9 c9]) (z9)) (S9 : Sm (z9) 12)
    (L10 : a0.tmps[10]? = some (.pointer (some ⟨g10, 0, none⟩))) (X10 : BoxI W0 g10 (.agg #[.bool b10, .slice A10 k10 c10]) (z10)) (S10 : Sm (z10) 12)
    (L11 : a0.tmps[11]? = some (.int .i64 ((cmpI z8 z9))))
    (h : ¬ z9 < z8) (h2 : z10 < z9)
    (fin : ∀ a' w', a'.tmps.size = 100 → (∀ t, t < 14 → 13 ≠ t → a'.tmps[t]? = a0.tmps[t]?) → a'.tmps[13]? = some (.bool true) → a'.defers = a0.defers → Below W0.heap.size W0 w' → Q .normal a' w') : (Code.region 5 ops false).wp Tryd.prog Q a0 W0 := by
  subst hops
  refine wp_region ?_
  rw [show ops_ord5a.size = 15 from by kernel_rfl]
  show wpOps Tryd.prog ops_ord5a Q [0, 1, 2, 3, 4, 5, 6, 7, 8, 9, 10, 11, 12, 13, 14] a0 W0
  have hB0 : Below W0.heap.size W0 W0 := Below.refl _ _
  have hF0 : Fr 100 14 a0 a0 := frHere hz
  refine seqP (op := .move (.tmp 11)) (d := 54) (g := none) (i := 0) (v := .int .i64 ((cmpI z8 z9))) (opIs_of (by kernel_rfl)) guard_none (fun o ho => run_move' ((hF0.low 11 (by decide)).trans L11) ho) hF0 (by decide) (by decide) ?_
  intro a1 hF1 hs54 kp
  clear kp hF0
  refine seqP (op := .binOp .gtr 3 (.tmp 54) (.const (.int .i64 0)) 3) (d := 55) (g := none) (i := 1) (v := .bool false) (opIs_of (by kernel_rfl)) guard_none (fun o ho => by rw [run_gtrC hs54 ho]; exact congrArg (fun b => Result.ok (Next.value (Value.bool b)) _) (cmp_ngt h)) hF1 (by decide) (by decide) ?_
  intro a2 hF2 hs55 kp
  clear kp hF1 hs54
  refine seqP (op := .move (.tmp 55)) (d := 56) (g := none) (i := 2) (v := .bool false) (opIs_of (by kernel_rfl)) guard_none (fun o ho => run_move' hs55 ho) hF2 (by decide) (by decide) ?_
  intro a3 hF3 hs56 kp
  clear kp hF2 hs55
  refine seqP (op := .load 27 (.tmp 9)) (d := 57) (g := some (2, false)) (i := 3) (v := .agg #[.bool b9, .slice A9 k9 c9]) (opIs_of (by kernel_rfl)) (guard_of (j := 2) (d := 56) (by kernel_rfl) hs56) (fun o ho => run_loadB X9 hB0 ((hF3.low 9 (by decide)).trans L9) ho) hF3 (by decide) (by decide) ?_
  intro a4 hF4 hs57 kp
  replace hs56 := kp 56 _ (by decide) hs56
  clear kp hF3
  refine seqP (op := .load 27 (.tmp 10)) (d := 58) (g := some (2, false)) (i := 4) (v := .agg #[.bool b10, .slice A10 k10 c10]) (opIs_of (by kernel_rfl)) (guard_of (j := 2) (d := 56) (by kernel_rfl) hs56) (fun o ho => run_loadB X10 hB0 ((hF4.low 10 (by decide)).trans L10) ho) hF4 (by decide) (by decide) ?_
  intro a5 hF5 hs58 kp
  replace hs56 := kp 56 _ (by decide) hs56
  replace hs57 := kp 57 _ (by decide) hs57
  clear kp hF4
  refine seqC (op := .call { callee := .value (.func 26), args := #[.tmp 57, .tmp 58], argTypes := #[27, 27] }) (d := 59) (g := some (2, false)) (i := 5) (fun v _ => v = .int .i64 (cmpI z9 z10)) (opIs_of (by kernel_rfl)) (guard_of (j := 2) (d := 56) (by kernel_rfl) hs56) (fun o ho => run_callCmp hs57 hs58 ho) hF5 (by decide) (by decide) hB0 (cCmp ((X9.into hB0).int) ((X10.into hB0).int) S9 S10 (by decide) (by decide)) ?_
  rintro v59 a6 w1 hF6 hs59 kp rfl hb hB1
  replace hs56 := kp 56 _ (by decide) hs56
  clear hb
  clear kp hF5 hs57 hs58
  refine seqP (op := .binOp .gtr 3 (.tmp 59) (.const (.int .i64 0)) 3) (d := 60) (g := some (2, false)) (i := 6) (v := .bool true) (opIs_of (by kernel_rfl)) (guard_of (j := 2) (d := 56) (by kernel_rfl) hs56) (fun o ho => by rw [run_gtrC hs59 ho]; exact congrArg (fun b => Result.ok (Next.value (Value.bool b)) _) (cmp_gt h2)) hF6 (by decide) (by decide) ?_
  intro a7 hF7 hs60 kp
  replace hs56 := kp 56 _ (by decide) hs56
  clear kp hF6 hs59
  refine seqP (op := .pick (.tmp 56) (.const (.bool true)) (.tmp 60)) (d := 61) (g := none) (i := 7) (v := .bool true) (opIs_of (by kernel_rfl)) guard_none (fun o ho => run_pickOrF (x := true) hs56 hs60 ho) hF7 (by decide) (by decide) ?_
  intro a8 hF8 hs61 kp
  clear kp hF7 hs56 hs60
  refine seqP (op := .move (.tmp 61)) (d := 62) (g := none) (i := 8) (v := .bool true) (opIs_of (by kernel_rfl)) guard_none (fun o ho => run_move' hs61 ho) hF8 (by decide) (by decide) ?_
  intro a9 hF9 hs62 kp
  clear kp hF8 hs61
  refine seqS (op := .load 27 (.tmp 8)) (d := 63) (g := some (8, false)) (i := 9) (opIs_of (by kernel_rfl)) (guard_off (j := 8) (d := 62) (by kernel_rfl) hs62 rfl) hF9 (by decide) ?_
  intro a10 hF10 kp
  replace hs62 := kp 62 _ (by decide) hs62
  clear kp hF9
  refine seqS (op := .load 27 (.tmp 10)) (d := 64) (g := some (8, false)) (i := 10) (opIs_of (by kernel_rfl)) (guard_off (j := 8) (d := 62) (by kernel_rfl) hs62 rfl) hF10 (by decide) ?_
  intro a11 hF11 kp
  replace hs62 := kp 62 _ (by decide) hs62
  clear kp hF10
  refine seqS (op := .call { callee := .value (.func 26), args := #[.tmp 63, .tmp 64], argTypes := #[27, 27] }) (d := 65) (g := some (8, false)) (i := 11) (opIs_of (by kernel_rfl)) (guard_off (j := 8) (d := 62) (by kernel_rfl) hs62 rfl) hF11 (by decide) ?_
  intro a12 hF12 kp
  replace hs62 := kp 62 _ (by decide) hs62
  clear kp hF11
  refine seqS (op := .binOp .leq 3 (.tmp 65) (.const (.int .i64 0)) 3) (d := 66) (g := some (8, false)) (i := 12) (opIs_of (by kernel_rfl)) (guard_off (j := 8) (d := 62) (by kernel_rfl) hs62 rfl) hF12 (by decide) ?_
  intro a13 hF13 kp
  replace hs62 := kp 62 _ (by decide) hs62
  clear kp hF12
  refine seqP (op := .pick (.tmp 62) (.const (.bool true)) (.tmp 66)) (d := 67) (g := none) (i := 13) (v := .bool true) (opIs_of (by kernel_rfl)) guard_none (fun o ho => run_pickOrT hs62 ho) hF13 (by decide) (by decide) ?_
  intro a14 hF14 hs67 kp
  clear kp hF13 hs62
  exact seqEnd (op := .assign (.tmp 67)) (d := 13) (i := 14) (v := .bool true) (opIs_of (by kernel_rfl)) (fun o ho => run_assign' hs67 ho) hF14 (by decide) hB1 fin
theorem ord5c {Q : Exit → Act → World → Prop} {W0 : World} {a0 : Act} {z10 z8 z9 : Int} {g8 : Nat} {b8 : Bool} {A8 : Option Addr} {k8 c8 : Nat} {g9 : Nat} {b9 : Bool} {A9 : Option Addr} {k9 c9 : Nat} {g10 : Nat} {b10 : Bool} {A10 : Option Addr} {k10 c10 : Nat} {ops : Array Oper} (hops : ops = ops_ord5a)
    (hQ : ∀ c d v a w, Q (.panic c) (a.put d v) w → Q (.panic c) a w) (hz : a0.tmps.size = 100)
    (L8 : a0.tmps[8]? = some (.pointer (some ⟨g8, 0, none⟩))) (X8 : BoxI W0 g8 (.agg #[.bool b8, .slice A8 k8 c8]) (z8)) (S8 : Sm (z8) 12)
    (L9 : a0.tmps[9]? = some (.pointer (some ⟨g9, 0, none⟩))) (X9 : BoxI W0 g9 (.agg #[.bool b9, .slice A9 k9 c9]) (z9)) (S9 : Sm (z9) 12)
    (L10 : a0.tmps[10]? = some (.pointer (some ⟨g10, 0, none⟩))) (X10 : BoxI W0 g10 (.agg #[.bool b10, .slice A10 k10 c10]) (z10)) (S10 : Sm (z10) 12)
    (L11 : a0.tmps[11]? = some (.int .i64 ((cmpI z8 z9))))
    (h : ¬ z9 < z8) (h2 : ¬ z10 < z9)
    (fin : ∀ a' w', a'.tmps.size = 100 → (∀ t, t < 14 → 13 ≠ t → a'.tmps[t]? = a0.tmps[t]?) → a'.tmps[13]? = some (.bool true) → a'.defers = a0.defers → Below W0.heap.size W0 w' → Q .normal a' w') : (Code.region 5 ops false).wp Tryd.prog Q a0 W0 := by
  subst hops
  refine wp_region ?_
  rw [show ops_ord5a.size = 15 from by kernel_rfl]
  show wpOps Tryd.prog ops_ord5a Q [0, 1, 2, 3, 4, 5, 6, 7, 8, 9, 10, 11, 12, 13, 14] a0 W0
  have hB0 : Below W0.heap.size W0 W0 := Below.refl _ _
  have hF0 : Fr 100 14 a0 a0 := frHere hz
  refine seqP (op := .move (.tmp 11)) (d := 54) (g := none) (i := 0) (v := .int .i64 ((cmpI z8 z9))) (opIs_of (by kernel_rfl)) guard_none (fun o ho => run_move' ((hF0.low 11 (by decide)).trans L11) ho) hF0 (by decide) (by decide) ?_
  intro a1 hF1 hs54 kp
  clear kp hF0
  refine seqP (op := .binOp .gtr 3 (.tmp 54) (.const (.int .i64 0)) 3) (d := 55) (g := none) (i := 1) (v := .bool false) (opIs_of (by kernel_rfl)) guard_none (fun o ho => by rw [run_gtrC hs54 ho]; exact congrArg (fun b => Result.ok (Next.value (Value.bool b)) _) (cmp_ngt h)) hF1 (by decide) (by decide) ?_
  intro a2 hF2 hs55 kp
  clear kp hF1 hs54
  refine seqP (op := .move (.tmp 55)) (d := 56) (g := none) (i := 2) (v := .bool false) (opIs_of (by kernel_rfl)) guard_none (fun o ho => run_move' hs55 ho) hF2 (by decide) (by decide) ?_
  intro a3 hF3 hs56 kp
  clear kp hF2 hs55
  refine seqP (op := .load 27 (.tmp 9)) (d := 57) (g := some (2, false)) (i := 3) (v := .agg #[.bool b9, .slice A9 k9 c9]) (opIs_of (by kernel_rfl)) (guard_of (j := 2) (d := 56) (by kernel_rfl) hs56) (fun o ho => run_loadB X9 hB0 ((hF3.low 9 (by decide)).trans L9) ho) hF3 (by decide) (by decide) ?_
  intro a4 hF4 hs57 kp
  replace hs56 := kp 56 _ (by decide) hs56
  clear kp hF3
  refine seqP (op := .load 27 (.tmp 10)) (d := 58) (g := some (2, false)) (i := 4) (v := .agg #[.bool b10, .slice A10 k10 c10]) (opIs_of (by kernel_rfl)) (guard_of (j := 2) (d := 56) (by kernel_rfl) hs56) (fun o ho => run_loadB X10 hB0 ((hF4.low 10 (by decide)).trans L10) ho) hF4 (by decide) (by decide) ?_
  intro a5 hF5 hs58 kp
  replace hs56 := kp 56 _ (by decide) hs56
  replace hs57 := kp 57 _ (by decide) hs57
  clear kp hF4
  refine seqC (op := .call { callee := .value (.func 26), args := #[.tmp 57, .tmp 58], argTypes := #[27, 27] }) (d := 59) (g := some (2, false)) (i := 5) (fun v _ => v = .int .i64 (cmpI z9 z10)) (opIs_of (by kernel_rfl)) (guard_of (j := 2) (d := 56) (by kernel_rfl) hs56) (fun o ho => run_callCmp hs57 hs58 ho) hF5 (by decide) (by decide) hB0 (cCmp ((X9.into hB0).int) ((X10.into hB0).int) S9 S10 (by decide) (by decide)) ?_
  rintro v59 a6 w1 hF6 hs59 kp rfl hb hB1
  replace hs56 := kp 56 _ (by decide) hs56
  clear hb
  clear kp hF5 hs57 hs58
  refine seqP (op := .binOp .gtr 3 (.tmp 59) (.const (.int .i64 0)) 3) (d := 60) (g := some (2, false)) (i := 6) (v := .bool false) (opIs_of (by kernel_rfl)) (guard_of (j := 2) (d := 56) (by kernel_rfl) hs56) (fun o ho => by rw [run_gtrC hs59 ho]; exact congrArg (fun b => Result.ok (Next.value (Value.bool b)) _) (cmp_ngt h2)) hF6 (by decide) (by decide) ?_
  intro a7 hF7 hs60 kp
  replace hs56 := kp 56 _ (by decide) hs56
  clear kp hF6 hs59
  refine seqP (op := .pick (.tmp 56) (.const (.bool true)) (.tmp 60)) (d := 61) (g := none) (i := 7) (v := .bool false) (opIs_of (by kernel_rfl)) guard_none (fun o ho => run_pickOrF (x := false) hs56 hs60 ho) hF7 (by decide) (by decide) ?_
  intro a8 hF8 hs61 kp
  clear kp hF7 hs56 hs60
  refine seqP (op := .move (.tmp 61)) (d := 62) (g := none) (i := 8) (v := .bool false) (opIs_of (by kernel_rfl)) guard_none (fun o ho => run_move' hs61 ho) hF8 (by decide) (by decide) ?_
  intro a9 hF9 hs62 kp
  clear kp hF8 hs61
  refine seqP (op := .load 27 (.tmp 8)) (d := 63) (g := some (8, false)) (i := 9) (v := .agg #[.bool b8, .slice A8 k8 c8]) (opIs_of (by kernel_rfl)) (guard_of (j := 8) (d := 62) (by kernel_rfl) hs62) (fun o ho => run_loadB X8 hB1 ((hF9.low 8 (by decide)).trans L8) ho) hF9 (by decide) (by decide) ?_
  intro a10 hF10 hs63 kp
  replace hs62 := kp 62 _ (by decide) hs62
  clear kp hF9
  refine seqP (op := .load 27 (.tmp 10)) (d := 64) (g := some (8, false)) (i := 10) (v := .agg #[.bool b10, .slice A10 k10 c10]) (opIs_of (by kernel_rfl)) (guard_of (j := 8) (d := 62) (by kernel_rfl) hs62) (fun o ho => run_loadB X10 hB1 ((hF10.low 10 (by decide)).trans L10) ho) hF10 (by decide) (by decide) ?_
  intro a11 hF11 hs64 kp
  replace hs62 := kp 62 _ (by decide) hs62
  replace hs63 := kp 63 _ (by decide) hs63
  clear kp hF10
  refine seqC (op := .call { callee := .value (.func 26), args := #[.tmp 63, .tmp 64], argTypes := #[27, 27] }) (d := 65) (g := some (8, false)) (i := 11) (fun v _ => v = .int .i64 (cmpI z8 z10)) (opIs_of (by kernel_rfl)) (guard_of (j := 8) (d := 62) (by kernel_rfl) hs62) (fun o ho => run_callCmp hs63 hs64 ho) hF11 (by decide) (by decide) hB1 (cCmp ((X8.into hB1).int) ((X10.into hB1).int) S8 S10 (by decide) (by decide)) ?_
  rintro v65 a12 w2 hF12 hs65 kp rfl hb hB2
  replace hs62 := kp 62 _ (by decide) hs62
  clear hb
  clear kp hF11 hs63 hs64
  refine seqP (op := .binOp .leq 3 (.tmp 65) (.const (.int .i64 0)) 3) (d := 66) (g := some (8, false)) (i := 12) (v := .bool true) (opIs_of (by kernel_rfl)) (guard_of (j := 8) (d := 62) (by kernel_rfl) hs62) (fun o ho => by rw [run_leqC hs65 ho]; exact congrArg (fun b => Result.ok (Next.value (Value.bool b)) _) (cmp_nle (by omega))) hF12 (by decide) (by decide) ?_
  intro a13 hF13 hs66 kp
  replace hs62 := kp 62 _ (by decide) hs62
  clear kp hF12 hs65
  refine seqP (op := .pick (.tmp 62) (.const (.bool true)) (.tmp 66)) (d := 67) (g := none) (i := 13) (v := .bool true) (opIs_of (by kernel_rfl)) guard_none (fun o ho => run_pickOrF (x := true) hs62 hs66 ho) hF13 (by decide) (by decide) ?_
  intro a14 hF14 hs67 kp
  clear kp hF13 hs62 hs66
  exact seqEnd (op := .assign (.tmp 67)) (d := 13) (i := 14) (v := .bool true) (opIs_of (by kernel_rfl)) (fun o ho => run_assign' hs67 ho) hF14 (by decide) hB2 fin
noncomputable def ops_ord6 : Array Oper := match Tryd.f6.body with | some c => regionOf 6 c | none => #[]
theorem ord6 {Q : Exit → Act → World → Prop} {W0 : World} {a0 : Act} {z10 z8 z9 : Int} {g8 : Nat} {b8 : Bool} {A8 : Option Addr} {k8 c8 : Nat} {g9 : Nat} {b9 : Bool} {A9 : Option Addr} {k9 c9 : Nat} {g10 : Nat} {b10 : Bool} {A10 : Option Addr} {k10 c10 : Nat} {ops : Array Oper} (hops : ops = ops_ord6)
    (hQ : ∀ c d v a w, Q (.panic c) (a.put d v) w → Q (.panic c) a w) (hz : a0.tmps.size = 100)
    (L8 : a0.tmps[8]? = some (.pointer (some ⟨g8, 0, none⟩))) (X8 : BoxI W0 g8 (.agg #[.bool b8, .slice A8 k8 c8]) (z8)) (S8 : Sm (z8) 12)
    (L9 : a0.tmps[9]? = some (.pointer (some ⟨g9, 0, none⟩))) (X9 : BoxI W0 g9 (.agg #[.bool b9, .slice A9 k9 c9]) (z9)) (S9 : Sm (z9) 12)
    (L10 : a0.tmps[10]? = some (.pointer (some ⟨g10, 0, none⟩))) (X10 : BoxI W0 g10 (.agg #[.bool b10, .slice A10 k10 c10]) (z10)) (S10 : Sm (z10) 12)
    (L11 : a0.tmps[11]? = some (.int .i64 ((cmpI z8 z9))))
    (L12 : a0.tmps[12]? = some (.bool true))
    (L13 : a0.tmps[13]? = some (.bool true))
    (L7 : a0.tmps[7]? = some (.bool true))
    (fin : ∀ a' w', a'.tmps.size = 100 → (∀ t, t < 14 → 6 ≠ t → a'.tmps[t]? = a0.tmps[t]?) → a'.tmps[6]? = some (.bool true) → a'.defers = a0.defers → Below W0.heap.size W0 w' → Q .normal a' w') : (Code.region 6 ops true).wp Tryd.prog Q a0 W0 := by
  subst hops
  have hn : Region.noSelect ops_ord6 = true := by kernel_rfl
  refine beginO (by kernel_rfl) ?_
  have hB0 : Below W0.heap.size W0 W0.drew := (Below.refl _ _).drew
  have hF0 : Fr 100 14 a0 a0 := frHere hz
  refine stepP (op := .move (.tmp 12)) (d := 68) (g := none) (i := 0) (v := .bool true) hn (by kernel_rfl) (opIs_of (by kernel_rfl)) hQ guard_none (fun o ho w hw => run_move' ((hF0.low 12 (by decide)).trans L12) ho) hF0 (by decide) (by decide) hB0 ?_
  intro a1 hF1 hs68 kp
  clear kp hF0
  refine stepP (op := .move (.tmp 68)) (d := 69) (g := none) (i := 1) (v := .bool true) hn (by kernel_rfl) (opIs_of (by kernel_rfl)) hQ guard_none (fun o ho w hw => run_move' hs68 ho) hF1 (by decide) (by decide) hB0 ?_
  intro a2 hF2 hs69 kp
  clear kp hF1 hs68
  refine stepP (op := .move (.tmp 13)) (d := 70) (g := some (1, true)) (i := 2) (v := .bool true) hn (by kernel_rfl) (opIs_of (by kernel_rfl)) hQ (guard_of (j := 1) (d := 69) (by kernel_rfl) hs69) (fun o ho w hw => run_move' ((hF2.low 13 (by decide)).trans L13) ho) hF2 (by decide) (by decide) hB0 ?_
  intro a3 hF3 hs70 kp
  replace hs69 := kp 69 _ (by decide) hs69
  clear kp hF2
  refine stepP (op := .pick (.tmp 69) (.tmp 70) (.const (.bool false))) (d := 71) (g := none) (i := 3) (v := .bool true) hn (by kernel_rfl) (opIs_of (by kernel_rfl)) hQ guard_none (fun o ho w hw => run_pick' (x := true) hs69 hs70 ho) hF3 (by decide) (by decide) hB0 ?_
  intro a4 hF4 hs71 kp
  clear kp hF3 hs69 hs70
  refine stepP (op := .move (.tmp 71)) (d := 72) (g := none) (i := 4) (v := .bool true) hn (by kernel_rfl) (opIs_of (by kernel_rfl)) hQ guard_none (fun o ho w hw => run_move' hs71 ho) hF4 (by decide) (by decide) hB0 ?_
  intro a5 hF5 hs72 kp
  clear kp hF4 hs71
  refine stepP (op := .load 27 (.tmp 8)) (d := 73) (g := some (4, true)) (i := 5) (v := .agg #[.bool b8, .slice A8 k8 c8]) hn (by kernel_rfl) (opIs_of (by kernel_rfl)) hQ (guard_of (j := 4) (d := 72) (by kernel_rfl) hs72) (fun o ho w hw => run_loadB X8 hw ((hF5.low 8 (by decide)).trans L8) ho) hF5 (by decide) (by decide) hB0 ?_
  intro a6 hF6 hs73 kp
  replace hs72 := kp 72 _ (by decide) hs72
  clear kp hF5
  refine stepP (op := .load 27 (.tmp 10)) (d := 74) (g := some (4, true)) (i := 6) (v := .agg #[.bool b10, .slice A10 k10 c10]) hn (by kernel_rfl) (opIs_of (by kernel_rfl)) hQ (guard_of (j := 4) (d := 72) (by kernel_rfl) hs72) (fun o ho w hw => run_loadB X10 hw ((hF6.low 10 (by decide)).trans L10) ho) hF6 (by decide) (by decide) hB0 ?_
  intro a7 hF7 hs74 kp
  replace hs72 := kp 72 _ (by decide) hs72
  replace hs73 := kp 73 _ (by decide) hs73
  clear kp hF6
  refine stepP (op := .load 27 (.tmp 9)) (d := 76) (g := some (4, true)) (i := 8) (v := .agg #[.bool b9, .slice A9 k9 c9]) hn (by kernel_rfl) (opIs_of (by kernel_rfl)) hQ (guard_of (j := 4) (d := 72) (by kernel_rfl) hs72) (fun o ho w hw => run_loadB X9 hw ((hF7.low 9 (by decide)).trans L9) ho) hF7 (by decide) (by decide) hB0 ?_
  intro a8 hF8 hs76 kp
  replace hs72 := kp 72 _ (by decide) hs72
  replace hs73 := kp 73 _ (by decide) hs73
  replace hs74 := kp 74 _ (by decide) hs74
  clear kp hF7
  refine stepP (op := .load 27 (.tmp 10)) (d := 77) (g := some (4, true)) (i := 9) (v := .agg #[.bool b10, .slice A10 k10 c10]) hn (by kernel_rfl) (opIs_of (by kernel_rfl)) hQ (guard_of (j := 4) (d := 72) (by kernel_rfl) hs72) (fun o ho w hw => run_loadB X10 hw ((hF8.low 10 (by decide)).trans L10) ho) hF8 (by decide) (by decide) hB0 ?_
  intro a9 hF9 hs77 kp
  replace hs72 := kp 72 _ (by decide) hs72
  replace hs73 := kp 73 _ (by decide) hs73
  replace hs74 := kp 74 _ (by decide) hs74
  replace hs76 := kp 76 _ (by decide) hs76
  clear kp hF8
  refine stepP (op := .move (.tmp 11)) (d := 80) (g := some (4, true)) (i := 12) (v := .int .i64 ((cmpI z8 z9))) hn (by kernel_rfl) (opIs_of (by kernel_rfl)) hQ (guard_of (j := 4) (d := 72) (by kernel_rfl) hs72) (fun o ho w hw => run_move' ((hF9.low 11 (by decide)).trans L11) ho) hF9 (by decide) (by decide) hB0 ?_
  intro a10 hF10 hs80 kp
  replace hs72 := kp 72 _ (by decide) hs72
  replace hs73 := kp 73 _ (by decide) hs73
  replace hs74 := kp 74 _ (by decide) hs74
  replace hs76 := kp 76 _ (by decide) hs76
  replace hs77 := kp 77 _ (by decide) hs77
  clear kp hF9
  refine stepC (op := .call { callee := .value (.func 15), args := #[.tmp 73, .tmp 74], argTypes := #[27, 27] }) (d := 75) (g := some (4, true)) (i := 7) (fun v w' => IntAt w' v (z8 + z10)) (by kernel_rfl) (opIs_of (by kernel_rfl)) (guard_of (j := 4) (d := 72) (by kernel_rfl) hs72) (fun o ho => run_callAdd hs73 hs74 ho) hF10 (by decide) (by decide) hB0 (cAdd ((X8.into hB0).int) ((X10.into hB0).int) S8 S10 (by decide) (by decide)) ?_
  intro v75 a11 w1 hF11 hs75 kp hv75 hb hB1
  replace hs72 := kp 72 _ (by decide) hs72
  replace hs76 := kp 76 _ (by decide) hs76
  replace hs77 := kp 77 _ (by decide) hs77
  replace hs80 := kp 80 _ (by decide) hs80
  clear hb
  clear kp hF10 hs73 hs74
  refine stepC (op := .call { callee := .value (.func 15), args := #[.tmp 76, .tmp 77], argTypes := #[27, 27] }) (d := 78) (g := some (4, true)) (i := 10) (fun v w' => IntAt w' v (z9 + z10)) (by kernel_rfl) (opIs_of (by kernel_rfl)) (guard_of (j := 4) (d := 72) (by kernel_rfl) hs72) (fun o ho => run_callAdd hs76 hs77 ho) hF11 (by decide) (by decide) hB1 (cAdd ((X9.into hB1).int) ((X10.into hB1).int) S9 S10 (by decide) (by decide)) ?_
  intro v78 a12 w2 hF12 hs78 kp hv78 hb hB2
  replace hs72 := kp 72 _ (by decide) hs72
  replace hs80 := kp 80 _ (by decide) hs80
  replace hs75 := kp 75 _ (by decide) hs75
  replace hv75 := hv75.into hb
  clear hb
  clear kp hF11 hs76 hs77
  refine stepC (op := .call { callee := .value (.func 26), args := #[.tmp 75, .tmp 78], argTypes := #[27, 27] }) (d := 79) (g := some (4, true)) (i := 11) (fun v _ => v = .int .i64 (cmpI (z8 + z10) (z9 + z10))) (by kernel_rfl) (opIs_of (by kernel_rfl)) (guard_of (j := 4) (d := 72) (by kernel_rfl) hs72) (fun o ho => run_callCmp hs75 hs78 ho) hF12 (by decide) (by decide) hB2 (cCmp (hv75) (hv78) (S8.add S10) (S9.add S10) (by decide) (by decide)) ?_
  rintro v79 a13 w3 hF13 hs79 kp rfl hb hB3
  replace hs72 := kp 72 _ (by decide) hs72
  replace hs80 := kp 80 _ (by decide) hs80
  clear hb
  clear kp hF12 hs75 hs78 hv75 hv78
  refine stepP (op := .binOp .eql 3 (.tmp 79) (.tmp 80) 3) (d := 81) (g := some (4, true)) (i := 13) (v := .bool true) hn (by kernel_rfl) (opIs_of (by kernel_rfl)) hQ (guard_of (j := 4) (d := 72) (by kernel_rfl) hs72) (fun o ho w hw => by rw [run_eqII hs79 hs80 ho]; exact congrArg (fun b => Result.ok (Next.value (Value.bool b)) _) (cmp_add _ _ _)) hF13 (by decide) (by decide) hB3 ?_
  intro a14 hF14 hs81 kp
  replace hs72 := kp 72 _ (by decide) hs72
  clear kp hF13 hs80 hs79
  refine stepP (op := .pick (.tmp 72) (.tmp 81) (.const (.bool false))) (d := 82) (g := none) (i := 14) (v := .bool true) hn (by kernel_rfl) (opIs_of (by kernel_rfl)) hQ guard_none (fun o ho w hw => run_pick' (x := true) hs72 hs81 ho) hF14 (by decide) (by decide) hB3 ?_
  intro a15 hF15 hs82 kp
  clear kp hF14 hs72 hs81
  refine stepP (op := .move (.tmp 82)) (d := 83) (g := none) (i := 15) (v := .bool true) hn (by kernel_rfl) (opIs_of (by kernel_rfl)) hQ guard_none (fun o ho w hw => run_move' hs82 ho) hF15 (by decide) (by decide) hB3 ?_
  intro a16 hF16 hs83 kp
  clear kp hF15 hs82
  refine stepP (op := .load 27 (.tmp 8)) (d := 84) (g := some (15, true)) (i := 16) (v := .agg #[.bool b8, .slice A8 k8 c8]) hn (by kernel_rfl) (opIs_of (by kernel_rfl)) hQ (guard_of (j := 15) (d := 83) (by kernel_rfl) hs83) (fun o ho w hw => run_loadB X8 hw ((hF16.low 8 (by decide)).trans L8) ho) hF16 (by decide) (by decide) hB3 ?_
  intro a17 hF17 hs84 kp
  replace hs83 := kp 83 _ (by decide) hs83
  clear kp hF16
  refine stepP (op := .load 27 (.tmp 10)) (d := 85) (g := some (15, true)) (i := 17) (v := .agg #[.bool b10, .slice A10 k10 c10]) hn (by kernel_rfl) (opIs_of (by kernel_rfl)) hQ (guard_of (j := 15) (d := 83) (by kernel_rfl) hs83) (fun o ho w hw => run_loadB X10 hw ((hF17.low 10 (by decide)).trans L10) ho) hF17 (by decide) (by decide) hB3 ?_
  intro a18 hF18 hs85 kp
  replace hs83 := kp 83 _ (by decide) hs83
  replace hs84 := kp 84 _ (by decide) hs84
  clear kp hF17
  refine stepP (op := .load 27 (.tmp 9)) (d := 87) (g := some (15, true)) (i := 19) (v := .agg #[.bool b9, .slice A9 k9 c9]) hn (by kernel_rfl) (opIs_of (by kernel_rfl)) hQ (guard_of (j := 15) (d := 83) (by kernel_rfl) hs83) (fun o ho w hw => run_loadB X9 hw ((hF18.low 9 (by decide)).trans L9) ho) hF18 (by decide) (by decide) hB3 ?_
  intro a19 hF19 hs87 kp
  replace hs83 := kp 83 _ (by decide) hs83
  replace hs84 := kp 84 _ (by decide) hs84
  replace hs85 := kp 85 _ (by decide) hs85
  clear kp hF18
  refine stepP (op := .load 27 (.tmp 10)) (d := 88) (g := some (15, true)) (i := 20) (v := .agg #[.bool b10, .slice A10 k10 c10]) hn (by kernel_rfl) (opIs_of (by kernel_rfl)) hQ (guard_of (j := 15) (d := 83) (by kernel_rfl) hs83) (fun o ho w hw => run_loadB X10 hw ((hF19.low 10 (by decide)).trans L10) ho) hF19 (by decide) (by decide) hB3 ?_
  intro a20 hF20 hs88 kp
  replace hs83 := kp 83 _ (by decide) hs83
  replace hs84 := kp 84 _ (by decide) hs84
  replace hs85 := kp 85 _ (by decide) hs85
  replace hs87 := kp 87 _ (by decide) hs87
  clear kp hF19
  refine stepP (op := .move (.tmp 11)) (d := 91) (g := some (15, true)) (i := 23) (v := .int .i64 ((cmpI z8 z9))) hn (by kernel_rfl) (opIs_of (by kernel_rfl)) hQ (guard_of (j := 15) (d := 83) (by kernel_rfl) hs83) (fun o ho w hw => run_move' ((hF20.low 11 (by decide)).trans L11) ho) hF20 (by decide) (by decide) hB3 ?_
  intro a21 hF21 hs91 kp
  replace hs83 := kp 83 _ (by decide) hs83
  replace hs84 := kp 84 _ (by decide) hs84
  replace hs85 := kp 85 _ (by decide) hs85
  replace hs87 := kp 87 _ (by decide) hs87
  replace hs88 := kp 88 _ (by decide) hs88
  clear kp hF20
  refine stepP (op := .load 27 (.tmp 10)) (d := 92) (g := some (15, true)) (i := 24) (v := .agg #[.bool b10, .slice A10 k10 c10]) hn (by kernel_rfl) (opIs_of (by kernel_rfl)) hQ (guard_of (j := 15) (d := 83) (by kernel_rfl) hs83) (fun o ho w hw => run_loadB X10 hw ((hF21.low 10 (by decide)).trans L10) ho) hF21 (by decide) (by decide) hB3 ?_
  intro a22 hF22 hs92 kp
  replace hs83 := kp 83 _ (by decide) hs83
  replace hs84 := kp 84 _ (by decide) hs84
  replace hs85 := kp 85 _ (by decide) hs85
  replace hs87 := kp 87 _ (by decide) hs87
  replace hs88 := kp 88 _ (by decide) hs88
  replace hs91 := kp 91 _ (by decide) hs91
  clear kp hF21
  refine stepC (op := .call { callee := .value (.func 17), args := #[.tmp 84, .tmp 85], argTypes := #[27, 27] }) (d := 86) (g := some (15, true)) (i := 18) (fun v w' => IntAt w' v (z8 * z10)) (by kernel_rfl) (opIs_of (by kernel_rfl)) (guard_of (j := 15) (d := 83) (by kernel_rfl) hs83) (fun o ho => run_callMul hs84 hs85 ho) hF22 (by decide) (by decide) hB3 (cMul ((X8.into hB3).int) ((X10.into hB3).int) S8 S10 (by decide) (by decide)) ?_
  intro v86 a23 w4 hF23 hs86 kp hv86 hb hB4
  replace hs83 := kp 83 _ (by decide) hs83
  replace hs87 := kp 87 _ (by decide) hs87
  replace hs88 := kp 88 _ (by decide) hs88
  replace hs91 := kp 91 _ (by decide) hs91
  replace hs92 := kp 92 _ (by decide) hs92
  clear hb
  clear kp hF22 hs84 hs85
  refine stepC (op := .call { callee := .value (.func 17), args := #[.tmp 87, .tmp 88], argTypes := #[27, 27] }) (d := 89) (g := some (15, true)) (i := 21) (fun v w' => IntAt w' v (z9 * z10)) (by kernel_rfl) (opIs_of (by kernel_rfl)) (guard_of (j := 15) (d := 83) (by kernel_rfl) hs83) (fun o ho => run_callMul hs87 hs88 ho) hF23 (by decide) (by decide) hB4 (cMul ((X9.into hB4).int) ((X10.into hB4).int) S9 S10 (by decide) (by decide)) ?_
  intro v89 a24 w5 hF24 hs89 kp hv89 hb hB5
  replace hs83 := kp 83 _ (by decide) hs83
  replace hs91 := kp 91 _ (by decide) hs91
  replace hs92 := kp 92 _ (by decide) hs92
  replace hs86 := kp 86 _ (by decide) hs86
  replace hv86 := hv86.into hb
  clear hb
  clear kp hF23 hs87 hs88
  refine stepC (op := .call { callee := .value (.func 26), args := #[.tmp 86, .tmp 89], argTypes := #[27, 27] }) (d := 90) (g := some (15, true)) (i := 22) (fun v _ => v = .int .i64 (cmpI (z8 * z10) (z9 * z10))) (by kernel_rfl) (opIs_of (by kernel_rfl)) (guard_of (j := 15) (d := 83) (by kernel_rfl) hs83) (fun o ho => run_callCmp hs86 hs89 ho) hF24 (by decide) (by decide) hB5 (cCmp (hv86) (hv89) (S8.mul S10) (S9.mul S10) (by decide) (by decide)) ?_
  rintro v90 a25 w6 hF25 hs90 kp rfl hb hB6
  replace hs83 := kp 83 _ (by decide) hs83
  replace hs91 := kp 91 _ (by decide) hs91
  replace hs92 := kp 92 _ (by decide) hs92
  clear hb
  clear kp hF24 hs86 hs89 hv86 hv89
  refine stepC (op := .call { callee := .value (.func 28), args := #[.tmp 92], argTypes := #[27] }) (d := 93) (g := some (15, true)) (i := 25) (fun v _ => v = .int .i64 (Int.sign z10)) (by kernel_rfl) (opIs_of (by kernel_rfl)) (guard_of (j := 15) (d := 83) (by kernel_rfl) hs83) (fun o ho => run_callSign hs92 ho) hF25 (by decide) (by decide) hB6 (cSign ((X10.into hB6).int) S10 (by decide)) ?_
  rintro v93 a26 w7 hF26 hs93 kp rfl hb hB7
  replace hs83 := kp 83 _ (by decide) hs83
  replace hs91 := kp 91 _ (by decide) hs91
  replace hs90 := kp 90 _ (by decide) hs90
  clear hb
  clear kp hF25 hs92
  refine stepP (op := .binOp .mul 3 (.tmp 91) (.tmp 93) 3) (d := 94) (g := some (15, true)) (i := 26) (v := .int .i64 ((cmpI z8 z9 * Int.sign z10))) hn (by kernel_rfl) (opIs_of (by kernel_rfl)) hQ (guard_of (j := 15) (d := 83) (by kernel_rfl) hs83) (fun o ho w hw => run_mulII hs91 hs93 (cmp_wrap _ _ _) ho) hF26 (by decide) (by decide) hB7 ?_
  intro a27 hF27 hs94 kp
  replace hs83 := kp 83 _ (by decide) hs83
  replace hs90 := kp 90 _ (by decide) hs90
  clear kp hF26 hs91 hs93
  refine stepP (op := .binOp .eql 3 (.tmp 90) (.tmp 94) 3) (d := 95) (g := some (15, true)) (i := 27) (v := .bool true) hn (by kernel_rfl) (opIs_of (by kernel_rfl)) hQ (guard_of (j := 15) (d := 83) (by kernel_rfl) hs83) (fun o ho w hw => by rw [run_eqII hs90 hs94 ho]; exact congrArg (fun b => Result.ok (Next.value (Value.bool b)) _) (cmp_mul _ _ _)) hF27 (by decide) (by decide) hB7 ?_
  intro a28 hF28 hs95 kp
  replace hs83 := kp 83 _ (by decide) hs83
  clear kp hF27 hs90 hs94
  refine stepP (op := .pick (.tmp 83) (.tmp 95) (.const (.bool false))) (d := 96) (g := none) (i := 28) (v := .bool true) hn (by kernel_rfl) (opIs_of (by kernel_rfl)) hQ guard_none (fun o ho w hw => run_pick' (x := true) hs83 hs95 ho) hF28 (by decide) (by decide) hB7 ?_
  intro a29 hF29 hs96 kp
  clear kp hF28 hs83 hs95
  refine stepP (op := .move (.tmp 96)) (d := 97) (g := none) (i := 29) (v := .bool true) hn (by kernel_rfl) (opIs_of (by kernel_rfl)) hQ guard_none (fun o ho w hw => run_move' hs96 ho) hF29 (by decide) (by decide) hB7 ?_
  intro a30 hF30 hs97 kp
  clear kp hF29 hs96
  refine stepP (op := .move (.tmp 7)) (d := 98) (g := some (29, true)) (i := 30) (v := .bool true) hn (by kernel_rfl) (opIs_of (by kernel_rfl)) hQ (guard_of (j := 29) (d := 97) (by kernel_rfl) hs97) (fun o ho w hw => run_move' ((hF30.low 7 (by decide)).trans L7) ho) hF30 (by decide) (by decide) hB7 ?_
  intro a31 hF31 hs98 kp
  replace hs97 := kp 97 _ (by decide) hs97
  clear kp hF30
  refine stepP (op := .pick (.tmp 97) (.tmp 98) (.const (.bool false))) (d := 99) (g := none) (i := 31) (v := .bool true) hn (by kernel_rfl) (opIs_of (by kernel_rfl)) hQ guard_none (fun o ho w hw => run_pick' (x := true) hs97 hs98 ho) hF31 (by decide) (by decide) hB7 ?_
  intro a32 hF32 hs99 kp
  clear kp hF31 hs97 hs98
  exact stepEnd (op := .assign (.tmp 99)) (d := 6) (i := 32) (v := .bool true) hn (by kernel_rfl) (opIs_of (by kernel_rfl)) hQ (fun o ho w hw => run_assign' hs99 ho) hF32 (by decide) hB7 (by kernel_rfl) fin
end Go.Proofs.YtjajmonhcnmidaaDoor
