/- The three drawn regions of IntegerRing (written by wip/tools/gen_ring.py). -/
import Derived.Test.YtjajmonhcnmidaaDoorRg
namespace Go.Proofs.YtjajmonhcnmidaaDoor
open Go.RowKit

noncomputable def ops_ring4 : Array Oper := match Tryd.f5.body with | some c => regionOf 4 c | none => #[]
theorem ring4 {Q : Exit → Act → World → Prop} {W0 : World} {a0 : Act} {z10 z8 z9 : Int} {g8 : Nat} {b8 : Bool} {A8 : Option Addr} {k8 c8 : Nat} {g9 : Nat} {b9 : Bool} {A9 : Option Addr} {k9 c9 : Nat} {g10 : Nat} {b10 : Bool} {A10 : Option Addr} {k10 c10 : Nat} {ops : Array Oper} (hops : ops = ops_ring4)
    (hQ : ∀ c d v a w, Q (.panic c) (a.put d v) w → Q (.panic c) a w) (hz : a0.tmps.size = 125)
    (L8 : a0.tmps[8]? = some (.pointer (some ⟨g8, 0, none⟩))) (X8 : BoxI W0 g8 (.agg #[.bool b8, .slice A8 k8 c8]) (z8)) (S8 : Sm (z8) 12)
    (L9 : a0.tmps[9]? = some (.pointer (some ⟨g9, 0, none⟩))) (X9 : BoxI W0 g9 (.agg #[.bool b9, .slice A9 k9 c9]) (z9)) (S9 : Sm (z9) 12)
    (L10 : a0.tmps[10]? = some (.pointer (some ⟨g10, 0, none⟩))) (X10 : BoxI W0 g10 (.agg #[.bool b10, .slice A10 k10 c10]) (z10)) (S10 : Sm (z10) 12)
    (fin : ∀ a' w', a'.tmps.size = 125 → (∀ t, t < 14 → 12 ≠ t → a'.tmps[t]? = a0.tmps[t]?) → a'.tmps[12]? = some (.bool true) → a'.defers = a0.defers → Below W0.heap.size W0 w' → Q .normal a' w') : (Code.region 4 ops true).wp Tryd.prog Q a0 W0 := by
  subst hops
  have hn : Region.noSelect ops_ring4 = true := by kernel_rfl
  refine beginO (by kernel_rfl) ?_
  have hB0 : Below W0.heap.size W0 W0.drew := (Below.refl _ _).drew
  have hF0 : Fr 125 14 a0 a0 := frHere hz
  refine stepP (op := .load 27 (.tmp 8)) (d := 24) (g := none) (i := 0) (v := .agg #[.bool b8, .slice A8 k8 c8]) hn (by kernel_rfl) (opIs_of (by kernel_rfl)) hQ guard_none (fun o ho w hw => run_loadB X8 hw ((hF0.low 8 (by decide)).trans L8) ho) hF0 (by decide) (by decide) hB0 ?_
  intro a1 hF1 hs24 kp
  clear kp hF0
  refine stepP (op := .load 27 (.tmp 9)) (d := 25) (g := none) (i := 1) (v := .agg #[.bool b9, .slice A9 k9 c9]) hn (by kernel_rfl) (opIs_of (by kernel_rfl)) hQ guard_none (fun o ho w hw => run_loadB X9 hw ((hF1.low 9 (by decide)).trans L9) ho) hF1 (by decide) (by decide) hB0 ?_
  intro a2 hF2 hs25 kp
  replace hs24 := kp 24 _ (by decide) hs24
  clear kp hF1
  refine stepP (op := .load 27 (.tmp 9)) (d := 27) (g := none) (i := 3) (v := .agg #[.bool b9, .slice A9 k9 c9]) hn (by kernel_rfl) (opIs_of (by kernel_rfl)) hQ guard_none (fun o ho w hw => run_loadB X9 hw ((hF2.low 9 (by decide)).trans L9) ho) hF2 (by decide) (by decide) hB0 ?_
  intro a3 hF3 hs27 kp
  replace hs24 := kp 24 _ (by decide) hs24
  replace hs25 := kp 25 _ (by decide) hs25
  clear kp hF2
  refine stepP (op := .load 27 (.tmp 8)) (d := 28) (g := none) (i := 4) (v := .agg #[.bool b8, .slice A8 k8 c8]) hn (by kernel_rfl) (opIs_of (by kernel_rfl)) hQ guard_none (fun o ho w hw => run_loadB X8 hw ((hF3.low 8 (by decide)).trans L8) ho) hF3 (by decide) (by decide) hB0 ?_
  intro a4 hF4 hs28 kp
  replace hs24 := kp 24 _ (by decide) hs24
  replace hs25 := kp 25 _ (by decide) hs25
  replace hs27 := kp 27 _ (by decide) hs27
  clear kp hF3
  refine stepC (op := .call { callee := .value (.func 15), args := #[.tmp 24, .tmp 25], argTypes := #[27, 27] }) (d := 26) (g := none) (i := 2) (fun v w' => IntAt w' v (z8 + z9)) (by kernel_rfl) (opIs_of (by kernel_rfl)) guard_none (fun o ho => run_callAdd hs24 hs25 ho) hF4 (by decide) (by decide) hB0 (cAdd ((X8.into hB0).int) ((X9.into hB0).int) S8 S9 (by decide) (by decide)) ?_
  intro v26 a5 w1 hF5 hs26 kp hv26 hb hB1
  replace hs27 := kp 27 _ (by decide) hs27
  replace hs28 := kp 28 _ (by decide) hs28
  clear hb
  clear kp hF4 hs24 hs25
  refine stepC (op := .call { callee := .value (.func 15), args := #[.tmp 27, .tmp 28], argTypes := #[27, 27] }) (d := 29) (g := none) (i := 5) (fun v w' => IntAt w' v (z9 + z8)) (by kernel_rfl) (opIs_of (by kernel_rfl)) guard_none (fun o ho => run_callAdd hs27 hs28 ho) hF5 (by decide) (by decide) hB1 (cAdd ((X9.into hB1).int) ((X8.into hB1).int) S9 S8 (by decide) (by decide)) ?_
  intro v29 a6 w2 hF6 hs29 kp hv29 hb hB2
  replace hs26 := kp 26 _ (by decide) hs26
  replace hv26 := hv26.into hb
  clear hb
  clear kp hF5 hs27 hs28
  refine stepC (op := .call { callee := .value (.func 21), args := #[.tmp 26, .tmp 29], argTypes := #[27, 27] }) (d := 30) (g := none) (i := 6) (fun v _ => v = .bool true) (by kernel_rfl) (opIs_of (by kernel_rfl)) guard_none (fun o ho => run_callSame hs26 hs29 ho) hF6 (by decide) (by decide) hB2 (cSameT (hv26) (hv29) (S8.add S9) (S9.add S8) (by decide) (by decide) (Int.add_comm _ _)) ?_
  rintro v30 a7 w3 hF7 hs30 kp rfl hb hB3
  clear hb
  clear kp hF6 hs26 hs29 hv26 hv29
  refine stepP (op := .move (.tmp 30)) (d := 31) (g := none) (i := 7) (v := .bool true) hn (by kernel_rfl) (opIs_of (by kernel_rfl)) hQ guard_none (fun o ho w hw => run_move' hs30 ho) hF7 (by decide) (by decide) hB3 ?_
  intro a8 hF8 hs31 kp
  clear kp hF7 hs30
  refine stepP (op := .load 27 (.tmp 8)) (d := 32) (g := some (7, true)) (i := 8) (v := .agg #[.bool b8, .slice A8 k8 c8]) hn (by kernel_rfl) (opIs_of (by kernel_rfl)) hQ (guard_of (j := 7) (d := 31) (by kernel_rfl) hs31) (fun o ho w hw => run_loadB X8 hw ((hF8.low 8 (by decide)).trans L8) ho) hF8 (by decide) (by decide) hB3 ?_
  intro a9 hF9 hs32 kp
  replace hs31 := kp 31 _ (by decide) hs31
  clear kp hF8
  refine stepP (op := .load 27 (.tmp 9)) (d := 33) (g := some (7, true)) (i := 9) (v := .agg #[.bool b9, .slice A9 k9 c9]) hn (by kernel_rfl) (opIs_of (by kernel_rfl)) hQ (guard_of (j := 7) (d := 31) (by kernel_rfl) hs31) (fun o ho w hw => run_loadB X9 hw ((hF9.low 9 (by decide)).trans L9) ho) hF9 (by decide) (by decide) hB3 ?_
  intro a10 hF10 hs33 kp
  replace hs31 := kp 31 _ (by decide) hs31
  replace hs32 := kp 32 _ (by decide) hs32
  clear kp hF9
  refine stepP (op := .load 27 (.tmp 10)) (d := 35) (g := some (7, true)) (i := 11) (v := .agg #[.bool b10, .slice A10 k10 c10]) hn (by kernel_rfl) (opIs_of (by kernel_rfl)) hQ (guard_of (j := 7) (d := 31) (by kernel_rfl) hs31) (fun o ho w hw => run_loadB X10 hw ((hF10.low 10 (by decide)).trans L10) ho) hF10 (by decide) (by decide) hB3 ?_
  intro a11 hF11 hs35 kp
  replace hs31 := kp 31 _ (by decide) hs31
  replace hs32 := kp 32 _ (by decide) hs32
  replace hs33 := kp 33 _ (by decide) hs33
  clear kp hF10
  refine stepP (op := .load 27 (.tmp 8)) (d := 37) (g := some (7, true)) (i := 13) (v := .agg #[.bool b8, .slice A8 k8 c8]) hn (by kernel_rfl) (opIs_of (by kernel_rfl)) hQ (guard_of (j := 7) (d := 31) (by kernel_rfl) hs31) (fun o ho w hw => run_loadB X8 hw ((hF11.low 8 (by decide)).trans L8) ho) hF11 (by decide) (by decide) hB3 ?_
  intro a12 hF12 hs37 kp
  replace hs31 := kp 31 _ (by decide) hs31
  replace hs32 := kp 32 _ (by decide) hs32
  replace hs33 := kp 33 _ (by decide) hs33
  replace hs35 := kp 35 _ (by decide) hs35
  clear kp hF11
  refine stepP (op := .load 27 (.tmp 9)) (d := 38) (g := some (7, true)) (i := 14) (v := .agg #[.bool b9, .slice A9 k9 c9]) hn (by kernel_rfl) (opIs_of (by kernel_rfl)) hQ (guard_of (j := 7) (d := 31) (by kernel_rfl) hs31) (fun o ho w hw => run_loadB X9 hw ((hF12.low 9 (by decide)).trans L9) ho) hF12 (by decide) (by decide) hB3 ?_
  intro a13 hF13 hs38 kp
  replace hs31 := kp 31 _ (by decide) hs31
  replace hs32 := kp 32 _ (by decide) hs32
  replace hs33 := kp 33 _ (by decide) hs33
  replace hs35 := kp 35 _ (by decide) hs35
  replace hs37 := kp 37 _ (by decide) hs37
  clear kp hF12
  refine stepP (op := .load 27 (.tmp 10)) (d := 39) (g := some (7, true)) (i := 15) (v := .agg #[.bool b10, .slice A10 k10 c10]) hn (by kernel_rfl) (opIs_of (by kernel_rfl)) hQ (guard_of (j := 7) (d := 31) (by kernel_rfl) hs31) (fun o ho w hw => run_loadB X10 hw ((hF13.low 10 (by decide)).trans L10) ho) hF13 (by decide) (by decide) hB3 ?_
  intro a14 hF14 hs39 kp
  replace hs31 := kp 31 _ (by decide) hs31
  replace hs32 := kp 32 _ (by decide) hs32
  replace hs33 := kp 33 _ (by decide) hs33
  replace hs35 := kp 35 _ (by decide) hs35
  replace hs37 := kp 37 _ (by decide) hs37
  replace hs38 := kp 38 _ (by decide) hs38
  clear kp hF13
  refine stepC (op := .call { callee := .value (.func 15), args := #[.tmp 32, .tmp 33], argTypes := #[27, 27] }) (d := 34) (g := some (7, true)) (i := 10) (fun v w' => IntAt w' v (z8 + z9)) (by kernel_rfl) (opIs_of (by kernel_rfl)) (guard_of (j := 7) (d := 31) (by kernel_rfl) hs31) (fun o ho => run_callAdd hs32 hs33 ho) hF14 (by decide) (by decide) hB3 (cAdd ((X8.into hB3).int) ((X9.into hB3).int) S8 S9 (by decide) (by decide)) ?_
  intro v34 a15 w4 hF15 hs34 kp hv34 hb hB4
  replace hs31 := kp 31 _ (by decide) hs31
  replace hs35 := kp 35 _ (by decide) hs35
  replace hs37 := kp 37 _ (by decide) hs37
  replace hs38 := kp 38 _ (by decide) hs38
  replace hs39 := kp 39 _ (by decide) hs39
  clear hb
  clear kp hF14 hs32 hs33
  refine stepC (op := .call { callee := .value (.func 15), args := #[.tmp 34, .tmp 35], argTypes := #[27, 27] }) (d := 36) (g := some (7, true)) (i := 12) (fun v w' => IntAt w' v ((z8 + z9) + z10)) (by kernel_rfl) (opIs_of (by kernel_rfl)) (guard_of (j := 7) (d := 31) (by kernel_rfl) hs31) (fun o ho => run_callAdd hs34 hs35 ho) hF15 (by decide) (by decide) hB4 (cAdd (hv34) ((X10.into hB4).int) (S8.add S9) S10 (by decide) (by decide)) ?_
  intro v36 a16 w5 hF16 hs36 kp hv36 hb hB5
  replace hs31 := kp 31 _ (by decide) hs31
  replace hs37 := kp 37 _ (by decide) hs37
  replace hs38 := kp 38 _ (by decide) hs38
  replace hs39 := kp 39 _ (by decide) hs39
  clear hb
  clear kp hF15 hs35 hs34 hv34
  refine stepC (op := .call { callee := .value (.func 15), args := #[.tmp 38, .tmp 39], argTypes := #[27, 27] }) (d := 40) (g := some (7, true)) (i := 16) (fun v w' => IntAt w' v (z9 + z10)) (by kernel_rfl) (opIs_of (by kernel_rfl)) (guard_of (j := 7) (d := 31) (by kernel_rfl) hs31) (fun o ho => run_callAdd hs38 hs39 ho) hF16 (by decide) (by decide) hB5 (cAdd ((X9.into hB5).int) ((X10.into hB5).int) S9 S10 (by decide) (by decide)) ?_
  intro v40 a17 w6 hF17 hs40 kp hv40 hb hB6
  replace hs31 := kp 31 _ (by decide) hs31
  replace hs37 := kp 37 _ (by decide) hs37
  replace hs36 := kp 36 _ (by decide) hs36
  replace hv36 := hv36.into hb
  clear hb
  clear kp hF16 hs38 hs39
  refine stepC (op := .call { callee := .value (.func 15), args := #[.tmp 37, .tmp 40], argTypes := #[27, 27] }) (d := 41) (g := some (7, true)) (i := 17) (fun v w' => IntAt w' v (z8 + (z9 + z10))) (by kernel_rfl) (opIs_of (by kernel_rfl)) (guard_of (j := 7) (d := 31) (by kernel_rfl) hs31) (fun o ho => run_callAdd hs37 hs40 ho) hF17 (by decide) (by decide) hB6 (cAdd ((X8.into hB6).int) (hv40) S8 (S9.add S10) (by decide) (by decide)) ?_
  intro v41 a18 w7 hF18 hs41 kp hv41 hb hB7
  replace hs31 := kp 31 _ (by decide) hs31
  replace hs36 := kp 36 _ (by decide) hs36
  replace hv36 := hv36.into hb
  clear hb
  clear kp hF17 hs37 hs40 hv40
  refine stepC (op := .call { callee := .value (.func 21), args := #[.tmp 36, .tmp 41], argTypes := #[27, 27] }) (d := 42) (g := some (7, true)) (i := 18) (fun v _ => v = .bool true) (by kernel_rfl) (opIs_of (by kernel_rfl)) (guard_of (j := 7) (d := 31) (by kernel_rfl) hs31) (fun o ho => run_callSame hs36 hs41 ho) hF18 (by decide) (by decide) hB7 (cSameT (hv36) (hv41) ((S8.add S9).add S10) (S8.add (S9.add S10)) (by decide) (by decide) (Int.add_assoc _ _ _)) ?_
  rintro v42 a19 w8 hF19 hs42 kp rfl hb hB8
  replace hs31 := kp 31 _ (by decide) hs31
  clear hb
  clear kp hF18 hs36 hs41 hv36 hv41
  refine stepP (op := .pick (.tmp 31) (.tmp 42) (.const (.bool false))) (d := 43) (g := none) (i := 19) (v := .bool true) hn (by kernel_rfl) (opIs_of (by kernel_rfl)) hQ guard_none (fun o ho w hw => run_pick' (x := true) hs31 hs42 ho) hF19 (by decide) (by decide) hB8 ?_
  intro a20 hF20 hs43 kp
  clear kp hF19 hs31 hs42
  refine stepP (op := .move (.tmp 43)) (d := 44) (g := none) (i := 20) (v := .bool true) hn (by kernel_rfl) (opIs_of (by kernel_rfl)) hQ guard_none (fun o ho w hw => run_move' hs43 ho) hF20 (by decide) (by decide) hB8 ?_
  intro a21 hF21 hs44 kp
  clear kp hF20 hs43
  refine stepP (op := .load 27 (.tmp 8)) (d := 45) (g := some (20, true)) (i := 21) (v := .agg #[.bool b8, .slice A8 k8 c8]) hn (by kernel_rfl) (opIs_of (by kernel_rfl)) hQ (guard_of (j := 20) (d := 44) (by kernel_rfl) hs44) (fun o ho w hw => run_loadB X8 hw ((hF21.low 8 (by decide)).trans L8) ho) hF21 (by decide) (by decide) hB8 ?_
  intro a22 hF22 hs45 kp
  replace hs44 := kp 44 _ (by decide) hs44
  clear kp hF21
  refine stepP (op := .load 27 (.tmp 8)) (d := 48) (g := some (20, true)) (i := 24) (v := .agg #[.bool b8, .slice A8 k8 c8]) hn (by kernel_rfl) (opIs_of (by kernel_rfl)) hQ (guard_of (j := 20) (d := 44) (by kernel_rfl) hs44) (fun o ho w hw => run_loadB X8 hw ((hF22.low 8 (by decide)).trans L8) ho) hF22 (by decide) (by decide) hB8 ?_
  intro a23 hF23 hs48 kp
  replace hs44 := kp 44 _ (by decide) hs44
  replace hs45 := kp 45 _ (by decide) hs45
  clear kp hF22
  refine stepC (op := .call { callee := .value (.func 30), args := #[.const (.int .i64 0)], argTypes := #[2] }) (d := 46) (g := some (20, true)) (i := 22) (fun v w' => IntAt w' v 0) (by kernel_rfl) (opIs_of (by kernel_rfl)) (guard_of (j := 20) (d := 44) (by kernel_rfl) hs44) (fun o ho => run_call1 ho) hF23 (by decide) (by decide) hB8 (cOf 0 (by omega) (by omega)) ?_
  intro v46 a24 w9 hF24 hs46 kp hv46 hb hB9
  replace hs44 := kp 44 _ (by decide) hs44
  replace hs45 := kp 45 _ (by decide) hs45
  replace hs48 := kp 48 _ (by decide) hs48
  clear hb
  clear kp hF23
  refine stepC (op := .call { callee := .value (.func 15), args := #[.tmp 45, .tmp 46], argTypes := #[27, 27] }) (d := 47) (g := some (20, true)) (i := 23) (fun v w' => IntAt w' v (z8 + 0)) (by kernel_rfl) (opIs_of (by kernel_rfl)) (guard_of (j := 20) (d := 44) (by kernel_rfl) hs44) (fun o ho => run_callAdd hs45 hs46 ho) hF24 (by decide) (by decide) hB9 (cAdd ((X8.into hB9).int) (hv46) S8 (Sm.of 0 (by decide)) (by decide) (by decide)) ?_
  intro v47 a25 w10 hF25 hs47 kp hv47 hb hB10
  replace hs44 := kp 44 _ (by decide) hs44
  replace hs48 := kp 48 _ (by decide) hs48
  clear hb
  clear kp hF24 hs45 hs46 hv46
  refine stepC (op := .call { callee := .value (.func 21), args := #[.tmp 47, .tmp 48], argTypes := #[27, 27] }) (d := 49) (g := some (20, true)) (i := 25) (fun v _ => v = .bool true) (by kernel_rfl) (opIs_of (by kernel_rfl)) (guard_of (j := 20) (d := 44) (by kernel_rfl) hs44) (fun o ho => run_callSame hs47 hs48 ho) hF25 (by decide) (by decide) hB10 (cSameT (hv47) ((X8.into hB10).int) (S8.add (Sm.of 0 (by decide))) S8 (by decide) (by decide) (Int.add_zero _)) ?_
  rintro v49 a26 w11 hF26 hs49 kp rfl hb hB11
  replace hs44 := kp 44 _ (by decide) hs44
  clear hb
  clear kp hF25 hs48 hs47 hv47
  refine stepP (op := .pick (.tmp 44) (.tmp 49) (.const (.bool false))) (d := 50) (g := none) (i := 26) (v := .bool true) hn (by kernel_rfl) (opIs_of (by kernel_rfl)) hQ guard_none (fun o ho w hw => run_pick' (x := true) hs44 hs49 ho) hF26 (by decide) (by decide) hB11 ?_
  intro a27 hF27 hs50 kp
  clear kp hF26 hs44 hs49
  refine stepP (op := .move (.tmp 50)) (d := 51) (g := none) (i := 27) (v := .bool true) hn (by kernel_rfl) (opIs_of (by kernel_rfl)) hQ guard_none (fun o ho w hw => run_move' hs50 ho) hF27 (by decide) (by decide) hB11 ?_
  intro a28 hF28 hs51 kp
  clear kp hF27 hs50
  refine stepP (op := .load 27 (.tmp 8)) (d := 52) (g := some (27, true)) (i := 28) (v := .agg #[.bool b8, .slice A8 k8 c8]) hn (by kernel_rfl) (opIs_of (by kernel_rfl)) hQ (guard_of (j := 27) (d := 51) (by kernel_rfl) hs51) (fun o ho w hw => run_loadB X8 hw ((hF28.low 8 (by decide)).trans L8) ho) hF28 (by decide) (by decide) hB11 ?_
  intro a29 hF29 hs52 kp
  replace hs51 := kp 51 _ (by decide) hs51
  clear kp hF28
  refine stepP (op := .load 27 (.tmp 8)) (d := 53) (g := some (27, true)) (i := 29) (v := .agg #[.bool b8, .slice A8 k8 c8]) hn (by kernel_rfl) (opIs_of (by kernel_rfl)) hQ (guard_of (j := 27) (d := 51) (by kernel_rfl) hs51) (fun o ho w hw => run_loadB X8 hw ((hF29.low 8 (by decide)).trans L8) ho) hF29 (by decide) (by decide) hB11 ?_
  intro a30 hF30 hs53 kp
  replace hs51 := kp 51 _ (by decide) hs51
  replace hs52 := kp 52 _ (by decide) hs52
  clear kp hF29
  refine stepC (op := .call { callee := .value (.func 18), args := #[.tmp 53], argTypes := #[27] }) (d := 54) (g := some (27, true)) (i := 30) (fun v w' => IntAt w' v (-z8)) (by kernel_rfl) (opIs_of (by kernel_rfl)) (guard_of (j := 27) (d := 51) (by kernel_rfl) hs51) (fun o ho => run_callNeg hs53 ho) hF30 (by decide) (by decide) hB11 (cNeg ((X8.into hB11).int) S8 (by decide)) ?_
  intro v54 a31 w12 hF31 hs54 kp hv54 hb hB12
  replace hs51 := kp 51 _ (by decide) hs51
  replace hs52 := kp 52 _ (by decide) hs52
  clear hb
  clear kp hF30 hs53
  refine stepC (op := .call { callee := .value (.func 15), args := #[.tmp 52, .tmp 54], argTypes := #[27, 27] }) (d := 55) (g := some (27, true)) (i := 31) (fun v w' => IntAt w' v (z8 + (-z8))) (by kernel_rfl) (opIs_of (by kernel_rfl)) (guard_of (j := 27) (d := 51) (by kernel_rfl) hs51) (fun o ho => run_callAdd hs52 hs54 ho) hF31 (by decide) (by decide) hB12 (cAdd ((X8.into hB12).int) (hv54) S8 S8.neg (by decide) (by decide)) ?_
  intro v55 a32 w13 hF32 hs55 kp hv55 hb hB13
  replace hs51 := kp 51 _ (by decide) hs51
  clear hb
  clear kp hF31 hs52 hs54 hv54
  refine stepC (op := .call { callee := .value (.func 28), args := #[.tmp 55], argTypes := #[27] }) (d := 56) (g := some (27, true)) (i := 32) (fun v _ => v = .int .i64 (Int.sign (z8 + (-z8)))) (by kernel_rfl) (opIs_of (by kernel_rfl)) (guard_of (j := 27) (d := 51) (by kernel_rfl) hs51) (fun o ho => run_callSign hs55 ho) hF32 (by decide) (by decide) hB13 (cSign (hv55) (S8.add S8.neg) (by decide)) ?_
  rintro v56 a33 w14 hF33 hs56 kp rfl hb hB14
  replace hs51 := kp 51 _ (by decide) hs51
  clear hb
  clear kp hF32 hs55 hv55
  refine stepP (op := .binOp .eql 3 (.tmp 56) (.const (.int .i64 0)) 3) (d := 57) (g := some (27, true)) (i := 33) (v := .bool true) hn (by kernel_rfl) (opIs_of (by kernel_rfl)) hQ (guard_of (j := 27) (d := 51) (by kernel_rfl) hs51) (fun o ho w hw => by rw [run_eqI' hs56 ho]; exact congrArg (fun b => Result.ok (Next.value (Value.bool b)) w) (by simp [Int.add_right_neg])) hF33 (by decide) (by decide) hB14 ?_
  intro a34 hF34 hs57 kp
  replace hs51 := kp 51 _ (by decide) hs51
  clear kp hF33 hs56
  refine stepP (op := .pick (.tmp 51) (.tmp 57) (.const (.bool false))) (d := 58) (g := none) (i := 34) (v := .bool true) hn (by kernel_rfl) (opIs_of (by kernel_rfl)) hQ guard_none (fun o ho w hw => run_pick' (x := true) hs51 hs57 ho) hF34 (by decide) (by decide) hB14 ?_
  intro a35 hF35 hs58 kp
  clear kp hF34 hs51 hs57
  refine stepP (op := .move (.tmp 58)) (d := 59) (g := none) (i := 35) (v := .bool true) hn (by kernel_rfl) (opIs_of (by kernel_rfl)) hQ guard_none (fun o ho w hw => run_move' hs58 ho) hF35 (by decide) (by decide) hB14 ?_
  intro a36 hF36 hs59 kp
  clear kp hF35 hs58
  refine stepP (op := .load 27 (.tmp 8)) (d := 60) (g := some (35, true)) (i := 36) (v := .agg #[.bool b8, .slice A8 k8 c8]) hn (by kernel_rfl) (opIs_of (by kernel_rfl)) hQ (guard_of (j := 35) (d := 59) (by kernel_rfl) hs59) (fun o ho w hw => run_loadB X8 hw ((hF36.low 8 (by decide)).trans L8) ho) hF36 (by decide) (by decide) hB14 ?_
  intro a37 hF37 hs60 kp
  replace hs59 := kp 59 _ (by decide) hs59
  clear kp hF36
  refine stepP (op := .load 27 (.tmp 9)) (d := 61) (g := some (35, true)) (i := 37) (v := .agg #[.bool b9, .slice A9 k9 c9]) hn (by kernel_rfl) (opIs_of (by kernel_rfl)) hQ (guard_of (j := 35) (d := 59) (by kernel_rfl) hs59) (fun o ho w hw => run_loadB X9 hw ((hF37.low 9 (by decide)).trans L9) ho) hF37 (by decide) (by decide) hB14 ?_
  intro a38 hF38 hs61 kp
  replace hs59 := kp 59 _ (by decide) hs59
  replace hs60 := kp 60 _ (by decide) hs60
  clear kp hF37
  refine stepP (op := .load 27 (.tmp 9)) (d := 63) (g := some (35, true)) (i := 39) (v := .agg #[.bool b9, .slice A9 k9 c9]) hn (by kernel_rfl) (opIs_of (by kernel_rfl)) hQ (guard_of (j := 35) (d := 59) (by kernel_rfl) hs59) (fun o ho w hw => run_loadB X9 hw ((hF38.low 9 (by decide)).trans L9) ho) hF38 (by decide) (by decide) hB14 ?_
  intro a39 hF39 hs63 kp
  replace hs59 := kp 59 _ (by decide) hs59
  replace hs60 := kp 60 _ (by decide) hs60
  replace hs61 := kp 61 _ (by decide) hs61
  clear kp hF38
  refine stepP (op := .load 27 (.tmp 8)) (d := 65) (g := some (35, true)) (i := 41) (v := .agg #[.bool b8, .slice A8 k8 c8]) hn (by kernel_rfl) (opIs_of (by kernel_rfl)) hQ (guard_of (j := 35) (d := 59) (by kernel_rfl) hs59) (fun o ho w hw => run_loadB X8 hw ((hF39.low 8 (by decide)).trans L8) ho) hF39 (by decide) (by decide) hB14 ?_
  intro a40 hF40 hs65 kp
  replace hs59 := kp 59 _ (by decide) hs59
  replace hs60 := kp 60 _ (by decide) hs60
  replace hs61 := kp 61 _ (by decide) hs61
  replace hs63 := kp 63 _ (by decide) hs63
  clear kp hF39
  refine stepC (op := .call { callee := .value (.func 15), args := #[.tmp 60, .tmp 61], argTypes := #[27, 27] }) (d := 62) (g := some (35, true)) (i := 38) (fun v w' => IntAt w' v (z8 + z9)) (by kernel_rfl) (opIs_of (by kernel_rfl)) (guard_of (j := 35) (d := 59) (by kernel_rfl) hs59) (fun o ho => run_callAdd hs60 hs61 ho) hF40 (by decide) (by decide) hB14 (cAdd ((X8.into hB14).int) ((X9.into hB14).int) S8 S9 (by decide) (by decide)) ?_
  intro v62 a41 w15 hF41 hs62 kp hv62 hb hB15
  replace hs59 := kp 59 _ (by decide) hs59
  replace hs63 := kp 63 _ (by decide) hs63
  replace hs65 := kp 65 _ (by decide) hs65
  clear hb
  clear kp hF40 hs60 hs61
  refine stepC (op := .call { callee := .value (.func 16), args := #[.tmp 62, .tmp 63], argTypes := #[27, 27] }) (d := 64) (g := some (35, true)) (i := 40) (fun v w' => IntAt w' v ((z8 + z9) - z9)) (by kernel_rfl) (opIs_of (by kernel_rfl)) (guard_of (j := 35) (d := 59) (by kernel_rfl) hs59) (fun o ho => run_callSub hs62 hs63 ho) hF41 (by decide) (by decide) hB15 (cSub (hv62) ((X9.into hB15).int) (S8.add S9) S9 (by decide) (by decide)) ?_
  intro v64 a42 w16 hF42 hs64 kp hv64 hb hB16
  replace hs59 := kp 59 _ (by decide) hs59
  replace hs65 := kp 65 _ (by decide) hs65
  clear hb
  clear kp hF41 hs63 hs62 hv62
  refine stepC (op := .call { callee := .value (.func 21), args := #[.tmp 64, .tmp 65], argTypes := #[27, 27] }) (d := 66) (g := some (35, true)) (i := 42) (fun v _ => v = .bool true) (by kernel_rfl) (opIs_of (by kernel_rfl)) (guard_of (j := 35) (d := 59) (by kernel_rfl) hs59) (fun o ho => run_callSame hs64 hs65 ho) hF42 (by decide) (by decide) hB16 (cSameT (hv64) ((X8.into hB16).int) ((S8.add S9).sub S9) S8 (by decide) (by decide) (Int.add_sub_cancel _ _)) ?_
  rintro v66 a43 w17 hF43 hs66 kp rfl hb hB17
  replace hs59 := kp 59 _ (by decide) hs59
  clear hb
  clear kp hF42 hs65 hs64 hv64
  refine stepP (op := .pick (.tmp 59) (.tmp 66) (.const (.bool false))) (d := 67) (g := none) (i := 43) (v := .bool true) hn (by kernel_rfl) (opIs_of (by kernel_rfl)) hQ guard_none (fun o ho w hw => run_pick' (x := true) hs59 hs66 ho) hF43 (by decide) (by decide) hB17 ?_
  intro a44 hF44 hs67 kp
  clear kp hF43 hs59 hs66
  exact stepEnd (op := .assign (.tmp 67)) (d := 12) (i := 44) (v := .bool true) hn (by kernel_rfl) (opIs_of (by kernel_rfl)) hQ (fun o ho w hw => run_assign' hs67 ho) hF44 (by decide) hB17 (by kernel_rfl) fin
noncomputable def ops_ring5 : Array Oper := match Tryd.f5.body with | some c => regionOf 5 c | none => #[]
theorem ring5 {Q : Exit → Act → World → Prop} {W0 : World} {a0 : Act} {z10 z8 z9 : Int} {g8 : Nat} {b8 : Bool} {A8 : Option Addr} {k8 c8 : Nat} {g9 : Nat} {b9 : Bool} {A9 : Option Addr} {k9 c9 : Nat} {g10 : Nat} {b10 : Bool} {A10 : Option Addr} {k10 c10 : Nat} {g11 : Nat} {b11 : Bool} {A11 : Option Addr} {k11 c11 : Nat} {ops : Array Oper} (hops : ops = ops_ring5)
    (hQ : ∀ c d v a w, Q (.panic c) (a.put d v) w → Q (.panic c) a w) (hz : a0.tmps.size = 125)
    (L8 : a0.tmps[8]? = some (.pointer (some ⟨g8, 0, none⟩))) (X8 : BoxI W0 g8 (.agg #[.bool b8, .slice A8 k8 c8]) (z8)) (S8 : Sm (z8) 12)
    (L9 : a0.tmps[9]? = some (.pointer (some ⟨g9, 0, none⟩))) (X9 : BoxI W0 g9 (.agg #[.bool b9, .slice A9 k9 c9]) (z9)) (S9 : Sm (z9) 12)
    (L10 : a0.tmps[10]? = some (.pointer (some ⟨g10, 0, none⟩))) (X10 : BoxI W0 g10 (.agg #[.bool b10, .slice A10 k10 c10]) (z10)) (S10 : Sm (z10) 12)
    (L11 : a0.tmps[11]? = some (.pointer (some ⟨g11, 0, none⟩))) (X11 : BoxI W0 g11 (.agg #[.bool b11, .slice A11 k11 c11]) ((z8 * z9))) (S11 : Sm ((z8 * z9)) 24)
    (fin : ∀ a' w', a'.tmps.size = 125 → (∀ t, t < 14 → 13 ≠ t → a'.tmps[t]? = a0.tmps[t]?) → a'.tmps[13]? = some (.bool true) → a'.defers = a0.defers → Below W0.heap.size W0 w' → Q .normal a' w') : (Code.region 5 ops true).wp Tryd.prog Q a0 W0 := by
  subst hops
  have hn : Region.noSelect ops_ring5 = true := by kernel_rfl
  refine beginO (by kernel_rfl) ?_
  have hB0 : Below W0.heap.size W0 W0.drew := (Below.refl _ _).drew
  have hF0 : Fr 125 14 a0 a0 := frHere hz
  refine stepP (op := .load 27 (.tmp 11)) (d := 68) (g := none) (i := 0) (v := .agg #[.bool b11, .slice A11 k11 c11]) hn (by kernel_rfl) (opIs_of (by kernel_rfl)) hQ guard_none (fun o ho w hw => run_loadB X11 hw ((hF0.low 11 (by decide)).trans L11) ho) hF0 (by decide) (by decide) hB0 ?_
  intro a1 hF1 hs68 kp
  clear kp hF0
  refine stepP (op := .load 27 (.tmp 9)) (d := 69) (g := none) (i := 1) (v := .agg #[.bool b9, .slice A9 k9 c9]) hn (by kernel_rfl) (opIs_of (by kernel_rfl)) hQ guard_none (fun o ho w hw => run_loadB X9 hw ((hF1.low 9 (by decide)).trans L9) ho) hF1 (by decide) (by decide) hB0 ?_
  intro a2 hF2 hs69 kp
  replace hs68 := kp 68 _ (by decide) hs68
  clear kp hF1
  refine stepP (op := .load 27 (.tmp 8)) (d := 70) (g := none) (i := 2) (v := .agg #[.bool b8, .slice A8 k8 c8]) hn (by kernel_rfl) (opIs_of (by kernel_rfl)) hQ guard_none (fun o ho w hw => run_loadB X8 hw ((hF2.low 8 (by decide)).trans L8) ho) hF2 (by decide) (by decide) hB0 ?_
  intro a3 hF3 hs70 kp
  replace hs68 := kp 68 _ (by decide) hs68
  replace hs69 := kp 69 _ (by decide) hs69
  clear kp hF2
  refine stepC (op := .call { callee := .value (.func 17), args := #[.tmp 69, .tmp 70], argTypes := #[27, 27] }) (d := 71) (g := none) (i := 3) (fun v w' => IntAt w' v (z9 * z8)) (by kernel_rfl) (opIs_of (by kernel_rfl)) guard_none (fun o ho => run_callMul hs69 hs70 ho) hF3 (by decide) (by decide) hB0 (cMul ((X9.into hB0).int) ((X8.into hB0).int) S9 S8 (by decide) (by decide)) ?_
  intro v71 a4 w1 hF4 hs71 kp hv71 hb hB1
  replace hs68 := kp 68 _ (by decide) hs68
  clear hb
  clear kp hF3 hs69 hs70
  refine stepC (op := .call { callee := .value (.func 21), args := #[.tmp 68, .tmp 71], argTypes := #[27, 27] }) (d := 72) (g := none) (i := 4) (fun v _ => v = .bool true) (by kernel_rfl) (opIs_of (by kernel_rfl)) guard_none (fun o ho => run_callSame hs68 hs71 ho) hF4 (by decide) (by decide) hB1 (cSameT ((X11.into hB1).int) (hv71) S11 (S9.mul S8) (by decide) (by decide) (Int.mul_comm _ _)) ?_
  rintro v72 a5 w2 hF5 hs72 kp rfl hb hB2
  clear hb
  clear kp hF4 hs68 hs71 hv71
  refine stepP (op := .move (.tmp 72)) (d := 73) (g := none) (i := 5) (v := .bool true) hn (by kernel_rfl) (opIs_of (by kernel_rfl)) hQ guard_none (fun o ho w hw => run_move' hs72 ho) hF5 (by decide) (by decide) hB2 ?_
  intro a6 hF6 hs73 kp
  clear kp hF5 hs72
  refine stepP (op := .load 27 (.tmp 11)) (d := 74) (g := some (5, true)) (i := 6) (v := .agg #[.bool b11, .slice A11 k11 c11]) hn (by kernel_rfl) (opIs_of (by kernel_rfl)) hQ (guard_of (j := 5) (d := 73) (by kernel_rfl) hs73) (fun o ho w hw => run_loadB X11 hw ((hF6.low 11 (by decide)).trans L11) ho) hF6 (by decide) (by decide) hB2 ?_
  intro a7 hF7 hs74 kp
  replace hs73 := kp 73 _ (by decide) hs73
  clear kp hF6
  refine stepP (op := .load 27 (.tmp 10)) (d := 75) (g := some (5, true)) (i := 7) (v := .agg #[.bool b10, .slice A10 k10 c10]) hn (by kernel_rfl) (opIs_of (by kernel_rfl)) hQ (guard_of (j := 5) (d := 73) (by kernel_rfl) hs73) (fun o ho w hw => run_loadB X10 hw ((hF7.low 10 (by decide)).trans L10) ho) hF7 (by decide) (by decide) hB2 ?_
  intro a8 hF8 hs75 kp
  replace hs73 := kp 73 _ (by decide) hs73
  replace hs74 := kp 74 _ (by decide) hs74
  clear kp hF7
  refine stepP (op := .load 27 (.tmp 8)) (d := 77) (g := some (5, true)) (i := 9) (v := .agg #[.bool b8, .slice A8 k8 c8]) hn (by kernel_rfl) (opIs_of (by kernel_rfl)) hQ (guard_of (j := 5) (d := 73) (by kernel_rfl) hs73) (fun o ho w hw => run_loadB X8 hw ((hF8.low 8 (by decide)).trans L8) ho) hF8 (by decide) (by decide) hB2 ?_
  intro a9 hF9 hs77 kp
  replace hs73 := kp 73 _ (by decide) hs73
  replace hs74 := kp 74 _ (by decide) hs74
  replace hs75 := kp 75 _ (by decide) hs75
  clear kp hF8
  refine stepP (op := .load 27 (.tmp 9)) (d := 78) (g := some (5, true)) (i := 10) (v := .agg #[.bool b9, .slice A9 k9 c9]) hn (by kernel_rfl) (opIs_of (by kernel_rfl)) hQ (guard_of (j := 5) (d := 73) (by kernel_rfl) hs73) (fun o ho w hw => run_loadB X9 hw ((hF9.low 9 (by decide)).trans L9) ho) hF9 (by decide) (by decide) hB2 ?_
  intro a10 hF10 hs78 kp
  replace hs73 := kp 73 _ (by decide) hs73
  replace hs74 := kp 74 _ (by decide) hs74
  replace hs75 := kp 75 _ (by decide) hs75
  replace hs77 := kp 77 _ (by decide) hs77
  clear kp hF9
  refine stepP (op := .load 27 (.tmp 10)) (d := 79) (g := some (5, true)) (i := 11) (v := .agg #[.bool b10, .slice A10 k10 c10]) hn (by kernel_rfl) (opIs_of (by kernel_rfl)) hQ (guard_of (j := 5) (d := 73) (by kernel_rfl) hs73) (fun o ho w hw => run_loadB X10 hw ((hF10.low 10 (by decide)).trans L10) ho) hF10 (by decide) (by decide) hB2 ?_
  intro a11 hF11 hs79 kp
  replace hs73 := kp 73 _ (by decide) hs73
  replace hs74 := kp 74 _ (by decide) hs74
  replace hs75 := kp 75 _ (by decide) hs75
  replace hs77 := kp 77 _ (by decide) hs77
  replace hs78 := kp 78 _ (by decide) hs78
  clear kp hF10
  refine stepC (op := .call { callee := .value (.func 17), args := #[.tmp 74, .tmp 75], argTypes := #[27, 27] }) (d := 76) (g := some (5, true)) (i := 8) (fun v w' => IntAt w' v ((z8 * z9) * z10)) (by kernel_rfl) (opIs_of (by kernel_rfl)) (guard_of (j := 5) (d := 73) (by kernel_rfl) hs73) (fun o ho => run_callMul hs74 hs75 ho) hF11 (by decide) (by decide) hB2 (cMul ((X11.into hB2).int) ((X10.into hB2).int) S11 S10 (by decide) (by decide)) ?_
  intro v76 a12 w3 hF12 hs76 kp hv76 hb hB3
  replace hs73 := kp 73 _ (by decide) hs73
  replace hs77 := kp 77 _ (by decide) hs77
  replace hs78 := kp 78 _ (by decide) hs78
  replace hs79 := kp 79 _ (by decide) hs79
  clear hb
  clear kp hF11 hs74 hs75
  refine stepC (op := .call { callee := .value (.func 17), args := #[.tmp 78, .tmp 79], argTypes := #[27, 27] }) (d := 80) (g := some (5, true)) (i := 12) (fun v w' => IntAt w' v (z9 * z10)) (by kernel_rfl) (opIs_of (by kernel_rfl)) (guard_of (j := 5) (d := 73) (by kernel_rfl) hs73) (fun o ho => run_callMul hs78 hs79 ho) hF12 (by decide) (by decide) hB3 (cMul ((X9.into hB3).int) ((X10.into hB3).int) S9 S10 (by decide) (by decide)) ?_
  intro v80 a13 w4 hF13 hs80 kp hv80 hb hB4
  replace hs73 := kp 73 _ (by decide) hs73
  replace hs77 := kp 77 _ (by decide) hs77
  replace hs76 := kp 76 _ (by decide) hs76
  replace hv76 := hv76.into hb
  clear hb
  clear kp hF12 hs78 hs79
  refine stepC (op := .call { callee := .value (.func 17), args := #[.tmp 77, .tmp 80], argTypes := #[27, 27] }) (d := 81) (g := some (5, true)) (i := 13) (fun v w' => IntAt w' v (z8 * (z9 * z10))) (by kernel_rfl) (opIs_of (by kernel_rfl)) (guard_of (j := 5) (d := 73) (by kernel_rfl) hs73) (fun o ho => run_callMul hs77 hs80 ho) hF13 (by decide) (by decide) hB4 (cMul ((X8.into hB4).int) (hv80) S8 (S9.mul S10) (by decide) (by decide)) ?_
  intro v81 a14 w5 hF14 hs81 kp hv81 hb hB5
  replace hs73 := kp 73 _ (by decide) hs73
  replace hs76 := kp 76 _ (by decide) hs76
  replace hv76 := hv76.into hb
  clear hb
  clear kp hF13 hs77 hs80 hv80
  refine stepC (op := .call { callee := .value (.func 21), args := #[.tmp 76, .tmp 81], argTypes := #[27, 27] }) (d := 82) (g := some (5, true)) (i := 14) (fun v _ => v = .bool true) (by kernel_rfl) (opIs_of (by kernel_rfl)) (guard_of (j := 5) (d := 73) (by kernel_rfl) hs73) (fun o ho => run_callSame hs76 hs81 ho) hF14 (by decide) (by decide) hB5 (cSameT (hv76) (hv81) (S11.mul S10) (S8.mul (S9.mul S10)) (by decide) (by decide) (Int.mul_assoc _ _ _)) ?_
  rintro v82 a15 w6 hF15 hs82 kp rfl hb hB6
  replace hs73 := kp 73 _ (by decide) hs73
  clear hb
  clear kp hF14 hs76 hs81 hv76 hv81
  refine stepP (op := .pick (.tmp 73) (.tmp 82) (.const (.bool false))) (d := 83) (g := none) (i := 15) (v := .bool true) hn (by kernel_rfl) (opIs_of (by kernel_rfl)) hQ guard_none (fun o ho w hw => run_pick' (x := true) hs73 hs82 ho) hF15 (by decide) (by decide) hB6 ?_
  intro a16 hF16 hs83 kp
  clear kp hF15 hs73 hs82
  refine stepP (op := .move (.tmp 83)) (d := 84) (g := none) (i := 16) (v := .bool true) hn (by kernel_rfl) (opIs_of (by kernel_rfl)) hQ guard_none (fun o ho w hw => run_move' hs83 ho) hF16 (by decide) (by decide) hB6 ?_
  intro a17 hF17 hs84 kp
  clear kp hF16 hs83
  refine stepP (op := .load 27 (.tmp 8)) (d := 85) (g := some (16, true)) (i := 17) (v := .agg #[.bool b8, .slice A8 k8 c8]) hn (by kernel_rfl) (opIs_of (by kernel_rfl)) hQ (guard_of (j := 16) (d := 84) (by kernel_rfl) hs84) (fun o ho w hw => run_loadB X8 hw ((hF17.low 8 (by decide)).trans L8) ho) hF17 (by decide) (by decide) hB6 ?_
  intro a18 hF18 hs85 kp
  replace hs84 := kp 84 _ (by decide) hs84
  clear kp hF17
  refine stepP (op := .load 27 (.tmp 8)) (d := 88) (g := some (16, true)) (i := 20) (v := .agg #[.bool b8, .slice A8 k8 c8]) hn (by kernel_rfl) (opIs_of (by kernel_rfl)) hQ (guard_of (j := 16) (d := 84) (by kernel_rfl) hs84) (fun o ho w hw => run_loadB X8 hw ((hF18.low 8 (by decide)).trans L8) ho) hF18 (by decide) (by decide) hB6 ?_
  intro a19 hF19 hs88 kp
  replace hs84 := kp 84 _ (by decide) hs84
  replace hs85 := kp 85 _ (by decide) hs85
  clear kp hF18
  refine stepC (op := .call { callee := .value (.func 30), args := #[.const (.int .i64 1)], argTypes := #[2] }) (d := 86) (g := some (16, true)) (i := 18) (fun v w' => IntAt w' v 1) (by kernel_rfl) (opIs_of (by kernel_rfl)) (guard_of (j := 16) (d := 84) (by kernel_rfl) hs84) (fun o ho => run_call1 ho) hF19 (by decide) (by decide) hB6 (cOf 1 (by omega) (by omega)) ?_
  intro v86 a20 w7 hF20 hs86 kp hv86 hb hB7
  replace hs84 := kp 84 _ (by decide) hs84
  replace hs85 := kp 85 _ (by decide) hs85
  replace hs88 := kp 88 _ (by decide) hs88
  clear hb
  clear kp hF19
  refine stepC (op := .call { callee := .value (.func 17), args := #[.tmp 85, .tmp 86], argTypes := #[27, 27] }) (d := 87) (g := some (16, true)) (i := 19) (fun v w' => IntAt w' v (z8 * 1)) (by kernel_rfl) (opIs_of (by kernel_rfl)) (guard_of (j := 16) (d := 84) (by kernel_rfl) hs84) (fun o ho => run_callMul hs85 hs86 ho) hF20 (by decide) (by decide) hB7 (cMul ((X8.into hB7).int) (hv86) S8 (Sm.of 1 (by decide)) (by decide) (by decide)) ?_
  intro v87 a21 w8 hF21 hs87 kp hv87 hb hB8
  replace hs84 := kp 84 _ (by decide) hs84
  replace hs88 := kp 88 _ (by decide) hs88
  clear hb
  clear kp hF20 hs85 hs86 hv86
  refine stepC (op := .call { callee := .value (.func 21), args := #[.tmp 87, .tmp 88], argTypes := #[27, 27] }) (d := 89) (g := some (16, true)) (i := 21) (fun v _ => v = .bool true) (by kernel_rfl) (opIs_of (by kernel_rfl)) (guard_of (j := 16) (d := 84) (by kernel_rfl) hs84) (fun o ho => run_callSame hs87 hs88 ho) hF21 (by decide) (by decide) hB8 (cSameT (hv87) ((X8.into hB8).int) (S8.mul (Sm.of 1 (by decide))) S8 (by decide) (by decide) (Int.mul_one _)) ?_
  rintro v89 a22 w9 hF22 hs89 kp rfl hb hB9
  replace hs84 := kp 84 _ (by decide) hs84
  clear hb
  clear kp hF21 hs88 hs87 hv87
  refine stepP (op := .pick (.tmp 84) (.tmp 89) (.const (.bool false))) (d := 90) (g := none) (i := 22) (v := .bool true) hn (by kernel_rfl) (opIs_of (by kernel_rfl)) hQ guard_none (fun o ho w hw => run_pick' (x := true) hs84 hs89 ho) hF22 (by decide) (by decide) hB9 ?_
  intro a23 hF23 hs90 kp
  clear kp hF22 hs84 hs89
  refine stepP (op := .move (.tmp 90)) (d := 91) (g := none) (i := 23) (v := .bool true) hn (by kernel_rfl) (opIs_of (by kernel_rfl)) hQ guard_none (fun o ho w hw => run_move' hs90 ho) hF23 (by decide) (by decide) hB9 ?_
  intro a24 hF24 hs91 kp
  clear kp hF23 hs90
  refine stepP (op := .load 27 (.tmp 8)) (d := 92) (g := some (23, true)) (i := 24) (v := .agg #[.bool b8, .slice A8 k8 c8]) hn (by kernel_rfl) (opIs_of (by kernel_rfl)) hQ (guard_of (j := 23) (d := 91) (by kernel_rfl) hs91) (fun o ho w hw => run_loadB X8 hw ((hF24.low 8 (by decide)).trans L8) ho) hF24 (by decide) (by decide) hB9 ?_
  intro a25 hF25 hs92 kp
  replace hs91 := kp 91 _ (by decide) hs91
  clear kp hF24
  refine stepP (op := .load 27 (.tmp 9)) (d := 93) (g := some (23, true)) (i := 25) (v := .agg #[.bool b9, .slice A9 k9 c9]) hn (by kernel_rfl) (opIs_of (by kernel_rfl)) hQ (guard_of (j := 23) (d := 91) (by kernel_rfl) hs91) (fun o ho w hw => run_loadB X9 hw ((hF25.low 9 (by decide)).trans L9) ho) hF25 (by decide) (by decide) hB9 ?_
  intro a26 hF26 hs93 kp
  replace hs91 := kp 91 _ (by decide) hs91
  replace hs92 := kp 92 _ (by decide) hs92
  clear kp hF25
  refine stepP (op := .load 27 (.tmp 10)) (d := 94) (g := some (23, true)) (i := 26) (v := .agg #[.bool b10, .slice A10 k10 c10]) hn (by kernel_rfl) (opIs_of (by kernel_rfl)) hQ (guard_of (j := 23) (d := 91) (by kernel_rfl) hs91) (fun o ho w hw => run_loadB X10 hw ((hF26.low 10 (by decide)).trans L10) ho) hF26 (by decide) (by decide) hB9 ?_
  intro a27 hF27 hs94 kp
  replace hs91 := kp 91 _ (by decide) hs91
  replace hs92 := kp 92 _ (by decide) hs92
  replace hs93 := kp 93 _ (by decide) hs93
  clear kp hF26
  refine stepP (op := .load 27 (.tmp 11)) (d := 97) (g := some (23, true)) (i := 29) (v := .agg #[.bool b11, .slice A11 k11 c11]) hn (by kernel_rfl) (opIs_of (by kernel_rfl)) hQ (guard_of (j := 23) (d := 91) (by kernel_rfl) hs91) (fun o ho w hw => run_loadB X11 hw ((hF27.low 11 (by decide)).trans L11) ho) hF27 (by decide) (by decide) hB9 ?_
  intro a28 hF28 hs97 kp
  replace hs91 := kp 91 _ (by decide) hs91
  replace hs92 := kp 92 _ (by decide) hs92
  replace hs93 := kp 93 _ (by decide) hs93
  replace hs94 := kp 94 _ (by decide) hs94
  clear kp hF27
  refine stepP (op := .load 27 (.tmp 8)) (d := 98) (g := some (23, true)) (i := 30) (v := .agg #[.bool b8, .slice A8 k8 c8]) hn (by kernel_rfl) (opIs_of (by kernel_rfl)) hQ (guard_of (j := 23) (d := 91) (by kernel_rfl) hs91) (fun o ho w hw => run_loadB X8 hw ((hF28.low 8 (by decide)).trans L8) ho) hF28 (by decide) (by decide) hB9 ?_
  intro a29 hF29 hs98 kp
  replace hs91 := kp 91 _ (by decide) hs91
  replace hs92 := kp 92 _ (by decide) hs92
  replace hs93 := kp 93 _ (by decide) hs93
  replace hs94 := kp 94 _ (by decide) hs94
  replace hs97 := kp 97 _ (by decide) hs97
  clear kp hF28
  refine stepP (op := .load 27 (.tmp 10)) (d := 99) (g := some (23, true)) (i := 31) (v := .agg #[.bool b10, .slice A10 k10 c10]) hn (by kernel_rfl) (opIs_of (by kernel_rfl)) hQ (guard_of (j := 23) (d := 91) (by kernel_rfl) hs91) (fun o ho w hw => run_loadB X10 hw ((hF29.low 10 (by decide)).trans L10) ho) hF29 (by decide) (by decide) hB9 ?_
  intro a30 hF30 hs99 kp
  replace hs91 := kp 91 _ (by decide) hs91
  replace hs92 := kp 92 _ (by decide) hs92
  replace hs93 := kp 93 _ (by decide) hs93
  replace hs94 := kp 94 _ (by decide) hs94
  replace hs97 := kp 97 _ (by decide) hs97
  replace hs98 := kp 98 _ (by decide) hs98
  clear kp hF29
  refine stepC (op := .call { callee := .value (.func 15), args := #[.tmp 93, .tmp 94], argTypes := #[27, 27] }) (d := 95) (g := some (23, true)) (i := 27) (fun v w' => IntAt w' v (z9 + z10)) (by kernel_rfl) (opIs_of (by kernel_rfl)) (guard_of (j := 23) (d := 91) (by kernel_rfl) hs91) (fun o ho => run_callAdd hs93 hs94 ho) hF30 (by decide) (by decide) hB9 (cAdd ((X9.into hB9).int) ((X10.into hB9).int) S9 S10 (by decide) (by decide)) ?_
  intro v95 a31 w10 hF31 hs95 kp hv95 hb hB10
  replace hs91 := kp 91 _ (by decide) hs91
  replace hs92 := kp 92 _ (by decide) hs92
  replace hs97 := kp 97 _ (by decide) hs97
  replace hs98 := kp 98 _ (by decide) hs98
  replace hs99 := kp 99 _ (by decide) hs99
  clear hb
  clear kp hF30 hs93 hs94
  refine stepC (op := .call { callee := .value (.func 17), args := #[.tmp 92, .tmp 95], argTypes := #[27, 27] }) (d := 96) (g := some (23, true)) (i := 28) (fun v w' => IntAt w' v (z8 * (z9 + z10))) (by kernel_rfl) (opIs_of (by kernel_rfl)) (guard_of (j := 23) (d := 91) (by kernel_rfl) hs91) (fun o ho => run_callMul hs92 hs95 ho) hF31 (by decide) (by decide) hB10 (cMul ((X8.into hB10).int) (hv95) S8 (S9.add S10) (by decide) (by decide)) ?_
  intro v96 a32 w11 hF32 hs96 kp hv96 hb hB11
  replace hs91 := kp 91 _ (by decide) hs91
  replace hs97 := kp 97 _ (by decide) hs97
  replace hs98 := kp 98 _ (by decide) hs98
  replace hs99 := kp 99 _ (by decide) hs99
  clear hb
  clear kp hF31 hs92 hs95 hv95
  refine stepC (op := .call { callee := .value (.func 17), args := #[.tmp 98, .tmp 99], argTypes := #[27, 27] }) (d := 100) (g := some (23, true)) (i := 32) (fun v w' => IntAt w' v (z8 * z10)) (by kernel_rfl) (opIs_of (by kernel_rfl)) (guard_of (j := 23) (d := 91) (by kernel_rfl) hs91) (fun o ho => run_callMul hs98 hs99 ho) hF32 (by decide) (by decide) hB11 (cMul ((X8.into hB11).int) ((X10.into hB11).int) S8 S10 (by decide) (by decide)) ?_
  intro v100 a33 w12 hF33 hs100 kp hv100 hb hB12
  replace hs91 := kp 91 _ (by decide) hs91
  replace hs97 := kp 97 _ (by decide) hs97
  replace hs96 := kp 96 _ (by decide) hs96
  replace hv96 := hv96.into hb
  clear hb
  clear kp hF32 hs98 hs99
  refine stepC (op := .call { callee := .value (.func 15), args := #[.tmp 97, .tmp 100], argTypes := #[27, 27] }) (d := 101) (g := some (23, true)) (i := 33) (fun v w' => IntAt w' v ((z8 * z9) + (z8 * z10))) (by kernel_rfl) (opIs_of (by kernel_rfl)) (guard_of (j := 23) (d := 91) (by kernel_rfl) hs91) (fun o ho => run_callAdd hs97 hs100 ho) hF33 (by decide) (by decide) hB12 (cAdd ((X11.into hB12).int) (hv100) S11 (S8.mul S10) (by decide) (by decide)) ?_
  intro v101 a34 w13 hF34 hs101 kp hv101 hb hB13
  replace hs91 := kp 91 _ (by decide) hs91
  replace hs96 := kp 96 _ (by decide) hs96
  replace hv96 := hv96.into hb
  clear hb
  clear kp hF33 hs97 hs100 hv100
  refine stepC (op := .call { callee := .value (.func 21), args := #[.tmp 96, .tmp 101], argTypes := #[27, 27] }) (d := 102) (g := some (23, true)) (i := 34) (fun v _ => v = .bool true) (by kernel_rfl) (opIs_of (by kernel_rfl)) (guard_of (j := 23) (d := 91) (by kernel_rfl) hs91) (fun o ho => run_callSame hs96 hs101 ho) hF34 (by decide) (by decide) hB13 (cSameT (hv96) (hv101) (S8.mul (S9.add S10)) (S11.add (S8.mul S10)) (by decide) (by decide) (Int.mul_add _ _ _)) ?_
  rintro v102 a35 w14 hF35 hs102 kp rfl hb hB14
  replace hs91 := kp 91 _ (by decide) hs91
  clear hb
  clear kp hF34 hs96 hs101 hv96 hv101
  refine stepP (op := .pick (.tmp 91) (.tmp 102) (.const (.bool false))) (d := 103) (g := none) (i := 35) (v := .bool true) hn (by kernel_rfl) (opIs_of (by kernel_rfl)) hQ guard_none (fun o ho w hw => run_pick' (x := true) hs91 hs102 ho) hF35 (by decide) (by decide) hB14 ?_
  intro a36 hF36 hs103 kp
  clear kp hF35 hs91 hs102
  exact stepEnd (op := .assign (.tmp 103)) (d := 13) (i := 36) (v := .bool true) hn (by kernel_rfl) (opIs_of (by kernel_rfl)) hQ (fun o ho w hw => run_assign' hs103 ho) hF36 (by decide) hB14 (by kernel_rfl) fin
noncomputable def ops_ring6a : Array Oper := match Tryd.f5.body with | some c => regionOf 6 c | none => #[]
theorem ring6a {Q : Exit → Act → World → Prop} {W0 : World} {a0 : Act} {z10 z8 z9 : Int} {g8 : Nat} {b8 : Bool} {A8 : Option Addr} {k8 c8 : Nat} {g9 : Nat} {b9 : Bool} {A9 : Option Addr} {k9 c9 : Nat} {g10 : Nat} {b10 : Bool} {A10 : Option Addr} {k10 c10 : Nat} {g11 : Nat} {b11 : Bool} {A11 : Option Addr} {k11 c11 : Nat} {ops : Array Oper} (hops : ops = ops_ring6a)
    (hQ : ∀ c d v a w, Q (.panic c) (a.put d v) w → Q (.panic c) a w) (hz : a0.tmps.size = 125)
    (L8 : a0.tmps[8]? = some (.pointer (some ⟨g8, 0, none⟩))) (X8 : BoxI W0 g8 (.agg #[.bool b8, .slice A8 k8 c8]) (z8)) (S8 : Sm (z8) 12)
    (L9 : a0.tmps[9]? = some (.pointer (some ⟨g9, 0, none⟩))) (X9 : BoxI W0 g9 (.agg #[.bool b9, .slice A9 k9 c9]) (z9)) (S9 : Sm (z9) 12)
    (L10 : a0.tmps[10]? = some (.pointer (some ⟨g10, 0, none⟩))) (X10 : BoxI W0 g10 (.agg #[.bool b10, .slice A10 k10 c10]) (z10)) (S10 : Sm (z10) 12)
    (L11 : a0.tmps[11]? = some (.pointer (some ⟨g11, 0, none⟩))) (X11 : BoxI W0 g11 (.agg #[.bool b11, .slice A11 k11 c11]) ((z8 * z9))) (S11 : Sm ((z8 * z9)) 24)
    (L12 : a0.tmps[12]? = some (.bool true))
    (L13 : a0.tmps[13]? = some (.bool true))
    (L7 : a0.tmps[7]? = some (.bool true))
    (h8 : z8 = 0)
    (fin : ∀ a' w', a'.tmps.size = 125 → (∀ t, t < 14 → 6 ≠ t → a'.tmps[t]? = a0.tmps[t]?) → a'.tmps[6]? = some (.bool true) → a'.defers = a0.defers → Below W0.heap.size W0 w' → Q .normal a' w') : (Code.region 6 ops true).wp Tryd.prog Q a0 W0 := by
  subst hops
  have hn : Region.noSelect ops_ring6a = true := by kernel_rfl
  refine beginO (by kernel_rfl) ?_
  have hB0 : Below W0.heap.size W0 W0.drew := (Below.refl _ _).drew
  have hF0 : Fr 125 14 a0 a0 := frHere hz
  refine stepP (op := .move (.tmp 12)) (d := 104) (g := none) (i := 0) (v := .bool true) hn (by kernel_rfl) (opIs_of (by kernel_rfl)) hQ guard_none (fun o ho w hw => run_move' ((hF0.low 12 (by decide)).trans L12) ho) hF0 (by decide) (by decide) hB0 ?_
  intro a1 hF1 hs104 kp
  clear kp hF0
  refine stepP (op := .move (.tmp 104)) (d := 105) (g := none) (i := 1) (v := .bool true) hn (by kernel_rfl) (opIs_of (by kernel_rfl)) hQ guard_none (fun o ho w hw => run_move' hs104 ho) hF1 (by decide) (by decide) hB0 ?_
  intro a2 hF2 hs105 kp
  clear kp hF1 hs104
  refine stepP (op := .move (.tmp 13)) (d := 106) (g := some (1, true)) (i := 2) (v := .bool true) hn (by kernel_rfl) (opIs_of (by kernel_rfl)) hQ (guard_of (j := 1) (d := 105) (by kernel_rfl) hs105) (fun o ho w hw => run_move' ((hF2.low 13 (by decide)).trans L13) ho) hF2 (by decide) (by decide) hB0 ?_
  intro a3 hF3 hs106 kp
  replace hs105 := kp 105 _ (by decide) hs105
  clear kp hF2
  refine stepP (op := .pick (.tmp 105) (.tmp 106) (.const (.bool false))) (d := 107) (g := none) (i := 3) (v := .bool true) hn (by kernel_rfl) (opIs_of (by kernel_rfl)) hQ guard_none (fun o ho w hw => run_pick' (x := true) hs105 hs106 ho) hF3 (by decide) (by decide) hB0 ?_
  intro a4 hF4 hs107 kp
  clear kp hF3 hs105 hs106
  refine stepP (op := .move (.tmp 107)) (d := 108) (g := none) (i := 4) (v := .bool true) hn (by kernel_rfl) (opIs_of (by kernel_rfl)) hQ guard_none (fun o ho w hw => run_move' hs107 ho) hF4 (by decide) (by decide) hB0 ?_
  intro a5 hF5 hs108 kp
  clear kp hF4 hs107
  refine stepP (op := .load 27 (.tmp 11)) (d := 109) (g := some (4, true)) (i := 5) (v := .agg #[.bool b11, .slice A11 k11 c11]) hn (by kernel_rfl) (opIs_of (by kernel_rfl)) hQ (guard_of (j := 4) (d := 108) (by kernel_rfl) hs108) (fun o ho w hw => run_loadB X11 hw ((hF5.low 11 (by decide)).trans L11) ho) hF5 (by decide) (by decide) hB0 ?_
  intro a6 hF6 hs109 kp
  replace hs108 := kp 108 _ (by decide) hs108
  clear kp hF5
  refine stepP (op := .load 27 (.tmp 8)) (d := 112) (g := some (4, true)) (i := 8) (v := .agg #[.bool b8, .slice A8 k8 c8]) hn (by kernel_rfl) (opIs_of (by kernel_rfl)) hQ (guard_of (j := 4) (d := 108) (by kernel_rfl) hs108) (fun o ho w hw => run_loadB X8 hw ((hF6.low 8 (by decide)).trans L8) ho) hF6 (by decide) (by decide) hB0 ?_
  intro a7 hF7 hs112 kp
  replace hs108 := kp 108 _ (by decide) hs108
  replace hs109 := kp 109 _ (by decide) hs109
  clear kp hF6
  refine stepC (op := .call { callee := .value (.func 28), args := #[.tmp 109], argTypes := #[27] }) (d := 110) (g := some (4, true)) (i := 6) (fun v _ => v = .int .i64 (Int.sign (z8 * z9))) (by kernel_rfl) (opIs_of (by kernel_rfl)) (guard_of (j := 4) (d := 108) (by kernel_rfl) hs108) (fun o ho => run_callSign hs109 ho) hF7 (by decide) (by decide) hB0 (cSign ((X11.into hB0).int) S11 (by decide)) ?_
  rintro v110 a8 w1 hF8 hs110 kp rfl hb hB1
  replace hs108 := kp 108 _ (by decide) hs108
  replace hs112 := kp 112 _ (by decide) hs112
  clear hb
  clear kp hF7 hs109
  refine stepP (op := .binOp .eql 3 (.tmp 110) (.const (.int .i64 0)) 3) (d := 111) (g := some (4, true)) (i := 7) (v := .bool true) hn (by kernel_rfl) (opIs_of (by kernel_rfl)) hQ (guard_of (j := 4) (d := 108) (by kernel_rfl) hs108) (fun o ho w hw => by rw [run_eqI' hs110 ho]; exact congrArg (fun b => Result.ok (Next.value (Value.bool b)) w) (by simp [h8])) hF8 (by decide) (by decide) hB1 ?_
  intro a9 hF9 hs111 kp
  replace hs108 := kp 108 _ (by decide) hs108
  replace hs112 := kp 112 _ (by decide) hs112
  clear kp hF8 hs110
  refine stepC (op := .call { callee := .value (.func 28), args := #[.tmp 112], argTypes := #[27] }) (d := 113) (g := some (4, true)) (i := 9) (fun v _ => v = .int .i64 (Int.sign z8)) (by kernel_rfl) (opIs_of (by kernel_rfl)) (guard_of (j := 4) (d := 108) (by kernel_rfl) hs108) (fun o ho => run_callSign hs112 ho) hF9 (by decide) (by decide) hB1 (cSign ((X8.into hB1).int) S8 (by decide)) ?_
  rintro v113 a10 w2 hF10 hs113 kp rfl hb hB2
  replace hs108 := kp 108 _ (by decide) hs108
  replace hs111 := kp 111 _ (by decide) hs111
  clear hb
  clear kp hF9 hs112
  refine stepP (op := .binOp .eql 3 (.tmp 113) (.const (.int .i64 0)) 3) (d := 114) (g := some (4, true)) (i := 10) (v := .bool true) hn (by kernel_rfl) (opIs_of (by kernel_rfl)) hQ (guard_of (j := 4) (d := 108) (by kernel_rfl) hs108) (fun o ho w hw => by rw [run_eqI' hs113 ho]; exact congrArg (fun b => Result.ok (Next.value (Value.bool b)) w) (by simp [h8])) hF10 (by decide) (by decide) hB2 ?_
  intro a11 hF11 hs114 kp
  replace hs108 := kp 108 _ (by decide) hs108
  replace hs111 := kp 111 _ (by decide) hs111
  clear kp hF10 hs113
  refine stepP (op := .move (.tmp 114)) (d := 115) (g := some (4, true)) (i := 11) (v := .bool true) hn (by kernel_rfl) (opIs_of (by kernel_rfl)) hQ (guard_of (j := 4) (d := 108) (by kernel_rfl) hs108) (fun o ho w hw => run_move' hs114 ho) hF11 (by decide) (by decide) hB2 ?_
  intro a12 hF12 hs115 kp
  replace hs108 := kp 108 _ (by decide) hs108
  replace hs111 := kp 111 _ (by decide) hs111
  clear kp hF11 hs114
  refine stepS (op := .load 27 (.tmp 9)) (d := 116) (g := some (11, false)) (i := 12) hn (by kernel_rfl) (opIs_of (by kernel_rfl)) hQ (guard_off (j := 11) (d := 115) (by kernel_rfl) hs115 rfl) hF12 (by decide) hB2 ?_
  intro a13 hF13 kp
  replace hs108 := kp 108 _ (by decide) hs108
  replace hs111 := kp 111 _ (by decide) hs111
  replace hs115 := kp 115 _ (by decide) hs115
  clear kp hF12
  refine stepSC (op := .call { callee := .value (.func 28), args := #[.tmp 116], argTypes := #[27] }) (d := 117) (g := some (11, false)) (i := 13) (by kernel_rfl) (opIs_of (by kernel_rfl)) (guard_off (j := 11) (d := 115) (by kernel_rfl) hs115 rfl) hF13 (by decide) hB2 ?_
  intro a14 hF14 kp
  replace hs108 := kp 108 _ (by decide) hs108
  replace hs111 := kp 111 _ (by decide) hs111
  replace hs115 := kp 115 _ (by decide) hs115
  clear kp hF13
  refine stepS (op := .binOp .eql 3 (.tmp 117) (.const (.int .i64 0)) 3) (d := 118) (g := some (11, false)) (i := 14) hn (by kernel_rfl) (opIs_of (by kernel_rfl)) hQ (guard_off (j := 11) (d := 115) (by kernel_rfl) hs115 rfl) hF14 (by decide) hB2 ?_
  intro a15 hF15 kp
  replace hs108 := kp 108 _ (by decide) hs108
  replace hs111 := kp 111 _ (by decide) hs111
  replace hs115 := kp 115 _ (by decide) hs115
  clear kp hF14
  refine stepP (op := .pick (.tmp 115) (.const (.bool true)) (.tmp 118)) (d := 119) (g := some (4, true)) (i := 15) (v := .bool true) hn (by kernel_rfl) (opIs_of (by kernel_rfl)) hQ (guard_of (j := 4) (d := 108) (by kernel_rfl) hs108) (fun o ho w hw => run_pickOrT hs115 ho) hF15 (by decide) (by decide) hB2 ?_
  intro a16 hF16 hs119 kp
  replace hs108 := kp 108 _ (by decide) hs108
  replace hs111 := kp 111 _ (by decide) hs111
  clear kp hF15 hs115
  refine stepP (op := .binOp .eql 4 (.tmp 111) (.tmp 119) 4) (d := 120) (g := some (4, true)) (i := 16) (v := .bool true) hn (by kernel_rfl) (opIs_of (by kernel_rfl)) hQ (guard_of (j := 4) (d := 108) (by kernel_rfl) hs108) (fun o ho w hw => by rw [run_eqB hs111 hs119 ho]; exact congrArg (fun b => Result.ok (Next.value (Value.bool b)) w) rfl) hF16 (by decide) (by decide) hB2 ?_
  intro a17 hF17 hs120 kp
  replace hs108 := kp 108 _ (by decide) hs108
  clear kp hF16 hs111 hs119
  refine stepP (op := .pick (.tmp 108) (.tmp 120) (.const (.bool false))) (d := 121) (g := none) (i := 17) (v := .bool true) hn (by kernel_rfl) (opIs_of (by kernel_rfl)) hQ guard_none (fun o ho w hw => run_pick' (x := true) hs108 hs120 ho) hF17 (by decide) (by decide) hB2 ?_
  intro a18 hF18 hs121 kp
  clear kp hF17 hs108 hs120
  refine stepP (op := .move (.tmp 121)) (d := 122) (g := none) (i := 18) (v := .bool true) hn (by kernel_rfl) (opIs_of (by kernel_rfl)) hQ guard_none (fun o ho w hw => run_move' hs121 ho) hF18 (by decide) (by decide) hB2 ?_
  intro a19 hF19 hs122 kp
  clear kp hF18 hs121
  refine stepP (op := .move (.tmp 7)) (d := 123) (g := some (18, true)) (i := 19) (v := .bool true) hn (by kernel_rfl) (opIs_of (by kernel_rfl)) hQ (guard_of (j := 18) (d := 122) (by kernel_rfl) hs122) (fun o ho w hw => run_move' ((hF19.low 7 (by decide)).trans L7) ho) hF19 (by decide) (by decide) hB2 ?_
  intro a20 hF20 hs123 kp
  replace hs122 := kp 122 _ (by decide) hs122
  clear kp hF19
  refine stepP (op := .pick (.tmp 122) (.tmp 123) (.const (.bool false))) (d := 124) (g := none) (i := 20) (v := .bool true) hn (by kernel_rfl) (opIs_of (by kernel_rfl)) hQ guard_none (fun o ho w hw => run_pick' (x := true) hs122 hs123 ho) hF20 (by decide) (by decide) hB2 ?_
  intro a21 hF21 hs124 kp
  clear kp hF20 hs122 hs123
  exact stepEnd (op := .assign (.tmp 124)) (d := 6) (i := 21) (v := .bool true) hn (by kernel_rfl) (opIs_of (by kernel_rfl)) hQ (fun o ho w hw => run_assign' hs124 ho) hF21 (by decide) hB2 (by kernel_rfl) fin
theorem ring6b {Q : Exit → Act → World → Prop} {W0 : World} {a0 : Act} {z10 z8 z9 : Int} {g8 : Nat} {b8 : Bool} {A8 : Option Addr} {k8 c8 : Nat} {g9 : Nat} {b9 : Bool} {A9 : Option Addr} {k9 c9 : Nat} {g10 : Nat} {b10 : Bool} {A10 : Option Addr} {k10 c10 : Nat} {g11 : Nat} {b11 : Bool} {A11 : Option Addr} {k11 c11 : Nat} {ops : Array Oper} (hops : ops = ops_ring6a)
    (hQ : ∀ c d v a w, Q (.panic c) (a.put d v) w → Q (.panic c) a w) (hz : a0.tmps.size = 125)
    (L8 : a0.tmps[8]? = some (.pointer (some ⟨g8, 0, none⟩))) (X8 : BoxI W0 g8 (.agg #[.bool b8, .slice A8 k8 c8]) (z8)) (S8 : Sm (z8) 12)
    (L9 : a0.tmps[9]? = some (.pointer (some ⟨g9, 0, none⟩))) (X9 : BoxI W0 g9 (.agg #[.bool b9, .slice A9 k9 c9]) (z9)) (S9 : Sm (z9) 12)
    (L10 : a0.tmps[10]? = some (.pointer (some ⟨g10, 0, none⟩))) (X10 : BoxI W0 g10 (.agg #[.bool b10, .slice A10 k10 c10]) (z10)) (S10 : Sm (z10) 12)
    (L11 : a0.tmps[11]? = some (.pointer (some ⟨g11, 0, none⟩))) (X11 : BoxI W0 g11 (.agg #[.bool b11, .slice A11 k11 c11]) ((z8 * z9))) (S11 : Sm ((z8 * z9)) 24)
    (L12 : a0.tmps[12]? = some (.bool true))
    (L13 : a0.tmps[13]? = some (.bool true))
    (L7 : a0.tmps[7]? = some (.bool true))
    (h8 : z8 ≠ 0) (h9 : z9 = 0)
    (fin : ∀ a' w', a'.tmps.size = 125 → (∀ t, t < 14 → 6 ≠ t → a'.tmps[t]? = a0.tmps[t]?) → a'.tmps[6]? = some (.bool true) → a'.defers = a0.defers → Below W0.heap.size W0 w' → Q .normal a' w') : (Code.region 6 ops true).wp Tryd.prog Q a0 W0 := by
  subst hops
  have hn : Region.noSelect ops_ring6a = true := by kernel_rfl
  refine beginO (by kernel_rfl) ?_
  have hB0 : Below W0.heap.size W0 W0.drew := (Below.refl _ _).drew
  have hF0 : Fr 125 14 a0 a0 := frHere hz
  refine stepP (op := .move (.tmp 12)) (d := 104) (g := none) (i := 0) (v := .bool true) hn (by kernel_rfl) (opIs_of (by kernel_rfl)) hQ guard_none (fun o ho w hw => run_move' ((hF0.low 12 (by decide)).trans L12) ho) hF0 (by decide) (by decide) hB0 ?_
  intro a1 hF1 hs104 kp
  clear kp hF0
  refine stepP (op := .move (.tmp 104)) (d := 105) (g := none) (i := 1) (v := .bool true) hn (by kernel_rfl) (opIs_of (by kernel_rfl)) hQ guard_none (fun o ho w hw => run_move' hs104 ho) hF1 (by decide) (by decide) hB0 ?_
  intro a2 hF2 hs105 kp
  clear kp hF1 hs104
  refine stepP (op := .move (.tmp 13)) (d := 106) (g := some (1, true)) (i := 2) (v := .bool true) hn (by kernel_rfl) (opIs_of (by kernel_rfl)) hQ (guard_of (j := 1) (d := 105) (by kernel_rfl) hs105) (fun o ho w hw => run_move' ((hF2.low 13 (by decide)).trans L13) ho) hF2 (by decide) (by decide) hB0 ?_
  intro a3 hF3 hs106 kp
  replace hs105 := kp 105 _ (by decide) hs105
  clear kp hF2
  refine stepP (op := .pick (.tmp 105) (.tmp 106) (.const (.bool false))) (d := 107) (g := none) (i := 3) (v := .bool true) hn (by kernel_rfl) (opIs_of (by kernel_rfl)) hQ guard_none (fun o ho w hw => run_pick' (x := true) hs105 hs106 ho) hF3 (by decide) (by decide) hB0 ?_
  intro a4 hF4 hs107 kp
  clear kp hF3 hs105 hs106
  refine stepP (op := .move (.tmp 107)) (d := 108) (g := none) (i := 4) (v := .bool true) hn (by kernel_rfl) (opIs_of (by kernel_rfl)) hQ guard_none (fun o ho w hw => run_move' hs107 ho) hF4 (by decide) (by decide) hB0 ?_
  intro a5 hF5 hs108 kp
  clear kp hF4 hs107
  refine stepP (op := .load 27 (.tmp 11)) (d := 109) (g := some (4, true)) (i := 5) (v := .agg #[.bool b11, .slice A11 k11 c11]) hn (by kernel_rfl) (opIs_of (by kernel_rfl)) hQ (guard_of (j := 4) (d := 108) (by kernel_rfl) hs108) (fun o ho w hw => run_loadB X11 hw ((hF5.low 11 (by decide)).trans L11) ho) hF5 (by decide) (by decide) hB0 ?_
  intro a6 hF6 hs109 kp
  replace hs108 := kp 108 _ (by decide) hs108
  clear kp hF5
  refine stepP (op := .load 27 (.tmp 8)) (d := 112) (g := some (4, true)) (i := 8) (v := .agg #[.bool b8, .slice A8 k8 c8]) hn (by kernel_rfl) (opIs_of (by kernel_rfl)) hQ (guard_of (j := 4) (d := 108) (by kernel_rfl) hs108) (fun o ho w hw => run_loadB X8 hw ((hF6.low 8 (by decide)).trans L8) ho) hF6 (by decide) (by decide) hB0 ?_
  intro a7 hF7 hs112 kp
  replace hs108 := kp 108 _ (by decide) hs108
  replace hs109 := kp 109 _ (by decide) hs109
  clear kp hF6
  refine stepC (op := .call { callee := .value (.func 28), args := #[.tmp 109], argTypes := #[27] }) (d := 110) (g := some (4, true)) (i := 6) (fun v _ => v = .int .i64 (Int.sign (z8 * z9))) (by kernel_rfl) (opIs_of (by kernel_rfl)) (guard_of (j := 4) (d := 108) (by kernel_rfl) hs108) (fun o ho => run_callSign hs109 ho) hF7 (by decide) (by decide) hB0 (cSign ((X11.into hB0).int) S11 (by decide)) ?_
  rintro v110 a8 w1 hF8 hs110 kp rfl hb hB1
  replace hs108 := kp 108 _ (by decide) hs108
  replace hs112 := kp 112 _ (by decide) hs112
  clear hb
  clear kp hF7 hs109
  refine stepP (op := .binOp .eql 3 (.tmp 110) (.const (.int .i64 0)) 3) (d := 111) (g := some (4, true)) (i := 7) (v := .bool true) hn (by kernel_rfl) (opIs_of (by kernel_rfl)) hQ (guard_of (j := 4) (d := 108) (by kernel_rfl) hs108) (fun o ho w hw => by rw [run_eqI' hs110 ho]; exact congrArg (fun b => Result.ok (Next.value (Value.bool b)) w) (by simp [h9])) hF8 (by decide) (by decide) hB1 ?_
  intro a9 hF9 hs111 kp
  replace hs108 := kp 108 _ (by decide) hs108
  replace hs112 := kp 112 _ (by decide) hs112
  clear kp hF8 hs110
  refine stepC (op := .call { callee := .value (.func 28), args := #[.tmp 112], argTypes := #[27] }) (d := 113) (g := some (4, true)) (i := 9) (fun v _ => v = .int .i64 (Int.sign z8)) (by kernel_rfl) (opIs_of (by kernel_rfl)) (guard_of (j := 4) (d := 108) (by kernel_rfl) hs108) (fun o ho => run_callSign hs112 ho) hF9 (by decide) (by decide) hB1 (cSign ((X8.into hB1).int) S8 (by decide)) ?_
  rintro v113 a10 w2 hF10 hs113 kp rfl hb hB2
  replace hs108 := kp 108 _ (by decide) hs108
  replace hs111 := kp 111 _ (by decide) hs111
  clear hb
  clear kp hF9 hs112
  refine stepP (op := .binOp .eql 3 (.tmp 113) (.const (.int .i64 0)) 3) (d := 114) (g := some (4, true)) (i := 10) (v := .bool false) hn (by kernel_rfl) (opIs_of (by kernel_rfl)) hQ (guard_of (j := 4) (d := 108) (by kernel_rfl) hs108) (fun o ho w hw => by rw [run_eqI' hs113 ho]; exact congrArg (fun b => Result.ok (Next.value (Value.bool b)) w) (by simpa using h8)) hF10 (by decide) (by decide) hB2 ?_
  intro a11 hF11 hs114 kp
  replace hs108 := kp 108 _ (by decide) hs108
  replace hs111 := kp 111 _ (by decide) hs111
  clear kp hF10 hs113
  refine stepP (op := .move (.tmp 114)) (d := 115) (g := some (4, true)) (i := 11) (v := .bool false) hn (by kernel_rfl) (opIs_of (by kernel_rfl)) hQ (guard_of (j := 4) (d := 108) (by kernel_rfl) hs108) (fun o ho w hw => run_move' hs114 ho) hF11 (by decide) (by decide) hB2 ?_
  intro a12 hF12 hs115 kp
  replace hs108 := kp 108 _ (by decide) hs108
  replace hs111 := kp 111 _ (by decide) hs111
  clear kp hF11 hs114
  refine stepP (op := .load 27 (.tmp 9)) (d := 116) (g := some (11, false)) (i := 12) (v := .agg #[.bool b9, .slice A9 k9 c9]) hn (by kernel_rfl) (opIs_of (by kernel_rfl)) hQ (guard_of (j := 11) (d := 115) (by kernel_rfl) hs115) (fun o ho w hw => run_loadB X9 hw ((hF12.low 9 (by decide)).trans L9) ho) hF12 (by decide) (by decide) hB2 ?_
  intro a13 hF13 hs116 kp
  replace hs108 := kp 108 _ (by decide) hs108
  replace hs111 := kp 111 _ (by decide) hs111
  replace hs115 := kp 115 _ (by decide) hs115
  clear kp hF12
  refine stepC (op := .call { callee := .value (.func 28), args := #[.tmp 116], argTypes := #[27] }) (d := 117) (g := some (11, false)) (i := 13) (fun v _ => v = .int .i64 (Int.sign z9)) (by kernel_rfl) (opIs_of (by kernel_rfl)) (guard_of (j := 11) (d := 115) (by kernel_rfl) hs115) (fun o ho => run_callSign hs116 ho) hF13 (by decide) (by decide) hB2 (cSign ((X9.into hB2).int) S9 (by decide)) ?_
  rintro v117 a14 w3 hF14 hs117 kp rfl hb hB3
  replace hs108 := kp 108 _ (by decide) hs108
  replace hs111 := kp 111 _ (by decide) hs111
  replace hs115 := kp 115 _ (by decide) hs115
  clear hb
  clear kp hF13 hs116
  refine stepP (op := .binOp .eql 3 (.tmp 117) (.const (.int .i64 0)) 3) (d := 118) (g := some (11, false)) (i := 14) (v := .bool true) hn (by kernel_rfl) (opIs_of (by kernel_rfl)) hQ (guard_of (j := 11) (d := 115) (by kernel_rfl) hs115) (fun o ho w hw => by rw [run_eqI' hs117 ho]; exact congrArg (fun b => Result.ok (Next.value (Value.bool b)) w) (by simp [h9])) hF14 (by decide) (by decide) hB3 ?_
  intro a15 hF15 hs118 kp
  replace hs108 := kp 108 _ (by decide) hs108
  replace hs111 := kp 111 _ (by decide) hs111
  replace hs115 := kp 115 _ (by decide) hs115
  clear kp hF14 hs117
  refine stepP (op := .pick (.tmp 115) (.const (.bool true)) (.tmp 118)) (d := 119) (g := some (4, true)) (i := 15) (v := .bool true) hn (by kernel_rfl) (opIs_of (by kernel_rfl)) hQ (guard_of (j := 4) (d := 108) (by kernel_rfl) hs108) (fun o ho w hw => run_pickOrF (x := true) hs115 hs118 ho) hF15 (by decide) (by decide) hB3 ?_
  intro a16 hF16 hs119 kp
  replace hs108 := kp 108 _ (by decide) hs108
  replace hs111 := kp 111 _ (by decide) hs111
  clear kp hF15 hs115 hs118
  refine stepP (op := .binOp .eql 4 (.tmp 111) (.tmp 119) 4) (d := 120) (g := some (4, true)) (i := 16) (v := .bool true) hn (by kernel_rfl) (opIs_of (by kernel_rfl)) hQ (guard_of (j := 4) (d := 108) (by kernel_rfl) hs108) (fun o ho w hw => by rw [run_eqB hs111 hs119 ho]; exact congrArg (fun b => Result.ok (Next.value (Value.bool b)) w) rfl) hF16 (by decide) (by decide) hB3 ?_
  intro a17 hF17 hs120 kp
  replace hs108 := kp 108 _ (by decide) hs108
  clear kp hF16 hs111 hs119
  refine stepP (op := .pick (.tmp 108) (.tmp 120) (.const (.bool false))) (d := 121) (g := none) (i := 17) (v := .bool true) hn (by kernel_rfl) (opIs_of (by kernel_rfl)) hQ guard_none (fun o ho w hw => run_pick' (x := true) hs108 hs120 ho) hF17 (by decide) (by decide) hB3 ?_
  intro a18 hF18 hs121 kp
  clear kp hF17 hs108 hs120
  refine stepP (op := .move (.tmp 121)) (d := 122) (g := none) (i := 18) (v := .bool true) hn (by kernel_rfl) (opIs_of (by kernel_rfl)) hQ guard_none (fun o ho w hw => run_move' hs121 ho) hF18 (by decide) (by decide) hB3 ?_
  intro a19 hF19 hs122 kp
  clear kp hF18 hs121
  refine stepP (op := .move (.tmp 7)) (d := 123) (g := some (18, true)) (i := 19) (v := .bool true) hn (by kernel_rfl) (opIs_of (by kernel_rfl)) hQ (guard_of (j := 18) (d := 122) (by kernel_rfl) hs122) (fun o ho w hw => run_move' ((hF19.low 7 (by decide)).trans L7) ho) hF19 (by decide) (by decide) hB3 ?_
  intro a20 hF20 hs123 kp
  replace hs122 := kp 122 _ (by decide) hs122
  clear kp hF19
  refine stepP (op := .pick (.tmp 122) (.tmp 123) (.const (.bool false))) (d := 124) (g := none) (i := 20) (v := .bool true) hn (by kernel_rfl) (opIs_of (by kernel_rfl)) hQ guard_none (fun o ho w hw => run_pick' (x := true) hs122 hs123 ho) hF20 (by decide) (by decide) hB3 ?_
  intro a21 hF21 hs124 kp
  clear kp hF20 hs122 hs123
  exact stepEnd (op := .assign (.tmp 124)) (d := 6) (i := 21) (v := .bool true) hn (by kernel_rfl) (opIs_of (by kernel_rfl)) hQ (fun o ho w hw => run_assign' hs124 ho) hF21 (by decide) hB3 (by kernel_rfl) fin
theorem ring6c {Q : Exit → Act → World → Prop} {W0 : World} {a0 : Act} {z10 z8 z9 : Int} {g8 : Nat} {b8 : Bool} {A8 : Option Addr} {k8 c8 : Nat} {g9 : Nat} {b9 : Bool} {A9 : Option Addr} {k9 c9 : Nat} {g10 : Nat} {b10 : Bool} {A10 : Option Addr} {k10 c10 : Nat} {g11 : Nat} {b11 : Bool} {A11 : Option Addr} {k11 c11 : Nat} {ops : Array Oper} (hops : ops = ops_ring6a)
    (hQ : ∀ c d v a w, Q (.panic c) (a.put d v) w → Q (.panic c) a w) (hz : a0.tmps.size = 125)
    (L8 : a0.tmps[8]? = some (.pointer (some ⟨g8, 0, none⟩))) (X8 : BoxI W0 g8 (.agg #[.bool b8, .slice A8 k8 c8]) (z8)) (S8 : Sm (z8) 12)
    (L9 : a0.tmps[9]? = some (.pointer (some ⟨g9, 0, none⟩))) (X9 : BoxI W0 g9 (.agg #[.bool b9, .slice A9 k9 c9]) (z9)) (S9 : Sm (z9) 12)
    (L10 : a0.tmps[10]? = some (.pointer (some ⟨g10, 0, none⟩))) (X10 : BoxI W0 g10 (.agg #[.bool b10, .slice A10 k10 c10]) (z10)) (S10 : Sm (z10) 12)
    (L11 : a0.tmps[11]? = some (.pointer (some ⟨g11, 0, none⟩))) (X11 : BoxI W0 g11 (.agg #[.bool b11, .slice A11 k11 c11]) ((z8 * z9))) (S11 : Sm ((z8 * z9)) 24)
    (L12 : a0.tmps[12]? = some (.bool true))
    (L13 : a0.tmps[13]? = some (.bool true))
    (L7 : a0.tmps[7]? = some (.bool true))
    (h8 : z8 ≠ 0) (h9 : z9 ≠ 0)
    (fin : ∀ a' w', a'.tmps.size = 125 → (∀ t, t < 14 → 6 ≠ t → a'.tmps[t]? = a0.tmps[t]?) → a'.tmps[6]? = some (.bool true) → a'.defers = a0.defers → Below W0.heap.size W0 w' → Q .normal a' w') : (Code.region 6 ops true).wp Tryd.prog Q a0 W0 := by
  subst hops
  have hn : Region.noSelect ops_ring6a = true := by kernel_rfl
  refine beginO (by kernel_rfl) ?_
  have hB0 : Below W0.heap.size W0 W0.drew := (Below.refl _ _).drew
  have hF0 : Fr 125 14 a0 a0 := frHere hz
  refine stepP (op := .move (.tmp 12)) (d := 104) (g := none) (i := 0) (v := .bool true) hn (by kernel_rfl) (opIs_of (by kernel_rfl)) hQ guard_none (fun o ho w hw => run_move' ((hF0.low 12 (by decide)).trans L12) ho) hF0 (by decide) (by decide) hB0 ?_
  intro a1 hF1 hs104 kp
  clear kp hF0
  refine stepP (op := .move (.tmp 104)) (d := 105) (g := none) (i := 1) (v := .bool true) hn (by kernel_rfl) (opIs_of (by kernel_rfl)) hQ guard_none (fun o ho w hw => run_move' hs104 ho) hF1 (by decide) (by decide) hB0 ?_
  intro a2 hF2 hs105 kp
  clear kp hF1 hs104
  refine stepP (op := .move (.tmp 13)) (d := 106) (g := some (1, true)) (i := 2) (v := .bool true) hn (by kernel_rfl) (opIs_of (by kernel_rfl)) hQ (guard_of (j := 1) (d := 105) (by kernel_rfl) hs105) (fun o ho w hw => run_move' ((hF2.low 13 (by decide)).trans L13) ho) hF2 (by decide) (by decide) hB0 ?_
  intro a3 hF3 hs106 kp
  replace hs105 := kp 105 _ (by decide) hs105
  clear kp hF2
  refine stepP (op := .pick (.tmp 105) (.tmp 106) (.const (.bool false))) (d := 107) (g := none) (i := 3) (v := .bool true) hn (by kernel_rfl) (opIs_of (by kernel_rfl)) hQ guard_none (fun o ho w hw => run_pick' (x := true) hs105 hs106 ho) hF3 (by decide) (by decide) hB0 ?_
  intro a4 hF4 hs107 kp
  clear kp hF3 hs105 hs106
  refine stepP (op := .move (.tmp 107)) (d := 108) (g := none) (i := 4) (v := .bool true) hn (by kernel_rfl) (opIs_of (by kernel_rfl)) hQ guard_none (fun o ho w hw => run_move' hs107 ho) hF4 (by decide) (by decide) hB0 ?_
  intro a5 hF5 hs108 kp
  clear kp hF4 hs107
  refine stepP (op := .load 27 (.tmp 11)) (d := 109) (g := some (4, true)) (i := 5) (v := .agg #[.bool b11, .slice A11 k11 c11]) hn (by kernel_rfl) (opIs_of (by kernel_rfl)) hQ (guard_of (j := 4) (d := 108) (by kernel_rfl) hs108) (fun o ho w hw => run_loadB X11 hw ((hF5.low 11 (by decide)).trans L11) ho) hF5 (by decide) (by decide) hB0 ?_
  intro a6 hF6 hs109 kp
  replace hs108 := kp 108 _ (by decide) hs108
  clear kp hF5
  refine stepP (op := .load 27 (.tmp 8)) (d := 112) (g := some (4, true)) (i := 8) (v := .agg #[.bool b8, .slice A8 k8 c8]) hn (by kernel_rfl) (opIs_of (by kernel_rfl)) hQ (guard_of (j := 4) (d := 108) (by kernel_rfl) hs108) (fun o ho w hw => run_loadB X8 hw ((hF6.low 8 (by decide)).trans L8) ho) hF6 (by decide) (by decide) hB0 ?_
  intro a7 hF7 hs112 kp
  replace hs108 := kp 108 _ (by decide) hs108
  replace hs109 := kp 109 _ (by decide) hs109
  clear kp hF6
  refine stepC (op := .call { callee := .value (.func 28), args := #[.tmp 109], argTypes := #[27] }) (d := 110) (g := some (4, true)) (i := 6) (fun v _ => v = .int .i64 (Int.sign (z8 * z9))) (by kernel_rfl) (opIs_of (by kernel_rfl)) (guard_of (j := 4) (d := 108) (by kernel_rfl) hs108) (fun o ho => run_callSign hs109 ho) hF7 (by decide) (by decide) hB0 (cSign ((X11.into hB0).int) S11 (by decide)) ?_
  rintro v110 a8 w1 hF8 hs110 kp rfl hb hB1
  replace hs108 := kp 108 _ (by decide) hs108
  replace hs112 := kp 112 _ (by decide) hs112
  clear hb
  clear kp hF7 hs109
  refine stepP (op := .binOp .eql 3 (.tmp 110) (.const (.int .i64 0)) 3) (d := 111) (g := some (4, true)) (i := 7) (v := .bool false) hn (by kernel_rfl) (opIs_of (by kernel_rfl)) hQ (guard_of (j := 4) (d := 108) (by kernel_rfl) hs108) (fun o ho w hw => by rw [run_eqI' hs110 ho]; exact congrArg (fun b => Result.ok (Next.value (Value.bool b)) w) (by simpa [Int.sign_eq_zero_iff_zero] using And.intro h8 h9)) hF8 (by decide) (by decide) hB1 ?_
  intro a9 hF9 hs111 kp
  replace hs108 := kp 108 _ (by decide) hs108
  replace hs112 := kp 112 _ (by decide) hs112
  clear kp hF8 hs110
  refine stepC (op := .call { callee := .value (.func 28), args := #[.tmp 112], argTypes := #[27] }) (d := 113) (g := some (4, true)) (i := 9) (fun v _ => v = .int .i64 (Int.sign z8)) (by kernel_rfl) (opIs_of (by kernel_rfl)) (guard_of (j := 4) (d := 108) (by kernel_rfl) hs108) (fun o ho => run_callSign hs112 ho) hF9 (by decide) (by decide) hB1 (cSign ((X8.into hB1).int) S8 (by decide)) ?_
  rintro v113 a10 w2 hF10 hs113 kp rfl hb hB2
  replace hs108 := kp 108 _ (by decide) hs108
  replace hs111 := kp 111 _ (by decide) hs111
  clear hb
  clear kp hF9 hs112
  refine stepP (op := .binOp .eql 3 (.tmp 113) (.const (.int .i64 0)) 3) (d := 114) (g := some (4, true)) (i := 10) (v := .bool false) hn (by kernel_rfl) (opIs_of (by kernel_rfl)) hQ (guard_of (j := 4) (d := 108) (by kernel_rfl) hs108) (fun o ho w hw => by rw [run_eqI' hs113 ho]; exact congrArg (fun b => Result.ok (Next.value (Value.bool b)) w) (by simpa using h8)) hF10 (by decide) (by decide) hB2 ?_
  intro a11 hF11 hs114 kp
  replace hs108 := kp 108 _ (by decide) hs108
  replace hs111 := kp 111 _ (by decide) hs111
  clear kp hF10 hs113
  refine stepP (op := .move (.tmp 114)) (d := 115) (g := some (4, true)) (i := 11) (v := .bool false) hn (by kernel_rfl) (opIs_of (by kernel_rfl)) hQ (guard_of (j := 4) (d := 108) (by kernel_rfl) hs108) (fun o ho w hw => run_move' hs114 ho) hF11 (by decide) (by decide) hB2 ?_
  intro a12 hF12 hs115 kp
  replace hs108 := kp 108 _ (by decide) hs108
  replace hs111 := kp 111 _ (by decide) hs111
  clear kp hF11 hs114
  refine stepP (op := .load 27 (.tmp 9)) (d := 116) (g := some (11, false)) (i := 12) (v := .agg #[.bool b9, .slice A9 k9 c9]) hn (by kernel_rfl) (opIs_of (by kernel_rfl)) hQ (guard_of (j := 11) (d := 115) (by kernel_rfl) hs115) (fun o ho w hw => run_loadB X9 hw ((hF12.low 9 (by decide)).trans L9) ho) hF12 (by decide) (by decide) hB2 ?_
  intro a13 hF13 hs116 kp
  replace hs108 := kp 108 _ (by decide) hs108
  replace hs111 := kp 111 _ (by decide) hs111
  replace hs115 := kp 115 _ (by decide) hs115
  clear kp hF12
  refine stepC (op := .call { callee := .value (.func 28), args := #[.tmp 116], argTypes := #[27] }) (d := 117) (g := some (11, false)) (i := 13) (fun v _ => v = .int .i64 (Int.sign z9)) (by kernel_rfl) (opIs_of (by kernel_rfl)) (guard_of (j := 11) (d := 115) (by kernel_rfl) hs115) (fun o ho => run_callSign hs116 ho) hF13 (by decide) (by decide) hB2 (cSign ((X9.into hB2).int) S9 (by decide)) ?_
  rintro v117 a14 w3 hF14 hs117 kp rfl hb hB3
  replace hs108 := kp 108 _ (by decide) hs108
  replace hs111 := kp 111 _ (by decide) hs111
  replace hs115 := kp 115 _ (by decide) hs115
  clear hb
  clear kp hF13 hs116
  refine stepP (op := .binOp .eql 3 (.tmp 117) (.const (.int .i64 0)) 3) (d := 118) (g := some (11, false)) (i := 14) (v := .bool false) hn (by kernel_rfl) (opIs_of (by kernel_rfl)) hQ (guard_of (j := 11) (d := 115) (by kernel_rfl) hs115) (fun o ho w hw => by rw [run_eqI' hs117 ho]; exact congrArg (fun b => Result.ok (Next.value (Value.bool b)) w) (by simpa using h9)) hF14 (by decide) (by decide) hB3 ?_
  intro a15 hF15 hs118 kp
  replace hs108 := kp 108 _ (by decide) hs108
  replace hs111 := kp 111 _ (by decide) hs111
  replace hs115 := kp 115 _ (by decide) hs115
  clear kp hF14 hs117
  refine stepP (op := .pick (.tmp 115) (.const (.bool true)) (.tmp 118)) (d := 119) (g := some (4, true)) (i := 15) (v := .bool false) hn (by kernel_rfl) (opIs_of (by kernel_rfl)) hQ (guard_of (j := 4) (d := 108) (by kernel_rfl) hs108) (fun o ho w hw => run_pickOrF (x := false) hs115 hs118 ho) hF15 (by decide) (by decide) hB3 ?_
  intro a16 hF16 hs119 kp
  replace hs108 := kp 108 _ (by decide) hs108
  replace hs111 := kp 111 _ (by decide) hs111
  clear kp hF15 hs115 hs118
  refine stepP (op := .binOp .eql 4 (.tmp 111) (.tmp 119) 4) (d := 120) (g := some (4, true)) (i := 16) (v := .bool true) hn (by kernel_rfl) (opIs_of (by kernel_rfl)) hQ (guard_of (j := 4) (d := 108) (by kernel_rfl) hs108) (fun o ho w hw => by rw [run_eqB hs111 hs119 ho]; exact congrArg (fun b => Result.ok (Next.value (Value.bool b)) w) rfl) hF16 (by decide) (by decide) hB3 ?_
  intro a17 hF17 hs120 kp
  replace hs108 := kp 108 _ (by decide) hs108
  clear kp hF16 hs111 hs119
  refine stepP (op := .pick (.tmp 108) (.tmp 120) (.const (.bool false))) (d := 121) (g := none) (i := 17) (v := .bool true) hn (by kernel_rfl) (opIs_of (by kernel_rfl)) hQ guard_none (fun o ho w hw => run_pick' (x := true) hs108 hs120 ho) hF17 (by decide) (by decide) hB3 ?_
  intro a18 hF18 hs121 kp
  clear kp hF17 hs108 hs120
  refine stepP (op := .move (.tmp 121)) (d := 122) (g := none) (i := 18) (v := .bool true) hn (by kernel_rfl) (opIs_of (by kernel_rfl)) hQ guard_none (fun o ho w hw => run_move' hs121 ho) hF18 (by decide) (by decide) hB3 ?_
  intro a19 hF19 hs122 kp
  clear kp hF18 hs121
  refine stepP (op := .move (.tmp 7)) (d := 123) (g := some (18, true)) (i := 19) (v := .bool true) hn (by kernel_rfl) (opIs_of (by kernel_rfl)) hQ (guard_of (j := 18) (d := 122) (by kernel_rfl) hs122) (fun o ho w hw => run_move' ((hF19.low 7 (by decide)).trans L7) ho) hF19 (by decide) (by decide) hB3 ?_
  intro a20 hF20 hs123 kp
  replace hs122 := kp 122 _ (by decide) hs122
  clear kp hF19
  refine stepP (op := .pick (.tmp 122) (.tmp 123) (.const (.bool false))) (d := 124) (g := none) (i := 20) (v := .bool true) hn (by kernel_rfl) (opIs_of (by kernel_rfl)) hQ guard_none (fun o ho w hw => run_pick' (x := true) hs122 hs123 ho) hF20 (by decide) (by decide) hB3 ?_
  intro a21 hF21 hs124 kp
  clear kp hF20 hs122 hs123
  exact stepEnd (op := .assign (.tmp 124)) (d := 6) (i := 21) (v := .bool true) hn (by kernel_rfl) (opIs_of (by kernel_rfl)) hQ (fun o ho w hw => run_assign' hs124 ho) hF21 (by decide) hB3 (by kernel_rfl) fin
end Go.Proofs.YtjajmonhcnmidaaDoor
