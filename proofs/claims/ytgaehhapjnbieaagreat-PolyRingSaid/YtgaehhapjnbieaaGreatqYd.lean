/- PolyRing: sums and products satisfy the axioms of a commutative ring without zero divisors. No condition. -/
import Derived.Test.YtgaehhapjnbieaaGreatqYb
import Derived.ProofKit
import Derived.ChangeSlices
import Derived.Carry
import Derived.Handed
import Derived.SizedLaws
import Derived.OpenShut
import Derived.Deep.Slices
import Derived.Lib.SmallJoins
import Derived.WideKeyPair
import Derived.Test.YtgaehhapjnbieaaGreatRows
set_option linter.unusedSectionVars false
set_option linter.unusedVariables false
set_option linter.unusedSimpArgs false
namespace Go.Proofs.YtgaehhapjnbieaaGreat
open Go.ChangeShapes Go.WideShapes Go.ChangeAt Go.RowKit Go.Joins
theorem ownN : ownKnob Tryz.prog.godebug = none := by kernel_rfl
theorem laidOutN : laidOutB Tryz.prog = true := by kernel_rfl
theorem cellsP2 : Tryz.prog.cellsOf 24 = 2 := by kernel_rfl
theorem cellsI8 : Tryz.prog.cellsOf 23 = 1 := by kernel_rfl
theorem bytesP2 : Tryz.prog.bytesOf 24 = 2 := by kernel_rfl
theorem cellsSP : Tryz.prog.cellsOf 22 = 1 := by kernel_rfl
theorem cellsT3 : Tryz.prog.cellsOf 26 = 5 := by kernel_rfl
theorem intRat_num (z : Int) : ((z : Int) : Rat).num = z := by simp
set_option maxRecDepth 100000 in
theorem prs_open {H : Type} {enc : TypeId × Value → H} {W : World} {m : Nat} {c : Value} {y : DataW H × List MemPlace} (hy0 : DataW.trod enc Tryz.prog W 0 (fun _ => true) true m 22 [c] = some y)
    (hw : ∀ n ∈ DataW.weights Tryz.prog 22 y.1, n ≤ reachBytes) : ∃ l : List Rat, (XP.prs l).p (fun _ => False) W [c] ∧ l.length ≤ 1000000000000000 := by
  rcases Go.Deep.open_slice Tryz.underlying22 hy0 with ⟨hcs, _⟩ | ⟨a, len, cap, mm, n, D, Pl, hcs, _, hl, hm, hmm, hx0, hx⟩
  · simp only [List.cons.injEq, and_true] at hcs
    subst hcs
    exact ⟨[], ⟨none, 0, rfl, Nat.le_refl _, fun q hq => (by cases hq), fun h => absurd rfl h⟩, Nat.zero_le _⟩
  · simp only [List.cons.injEq, and_true] at hcs
    subst hcs
    have hmm : mm = cap := hmm
    have hlen : len ≤ 500000000000000 := by
      have := hw ((len + (cap - len)) * 2) (by
        rw [hx0]
        simp [DataW.weights, Tryz.underlying22, bytesP2, hmm])
      have e : reachBytes = 140737488351232 := by kernel_rfl
      omega
    have hel : ∀ i, i < len → ∃ z : Int × Int, W.cell? (a.add (2 * i)) = some (.int .i8 z.1) ∧ W.cell? (a.add (2 * i + 1)) = some (.int .i8 z.2) ∧ (-128 ≤ z.1 ∧ z.1 ≤ 127) ∧ (-128 ≤ z.2 ∧ z.2 ≤ 127) := fun i hi => by
      obtain ⟨cs', h1, h2⟩ := hx i (by omega)
      rw [cellsP2] at h1
      obtain ⟨_, hlen2, hcell⟩ := World.cells?_some h1
      obtain ⟨xs, k, _, _, _, hxl, hxs⟩ := DataW.trod_array Tryz.underlying24 h2
      match cs', hlen2, xs, hxl with
      | [u, v], _, [x0, x1], _ =>
        have e0 : DataW.trod enc Tryz.prog W 0 (fun _ => true) true k 23 [u] = some x0 := by
          have := hxs 0 (by omega)
          rw [cellsI8] at this
          exact this
        have e1 : DataW.trod enc Tryz.prog W 0 (fun _ => true) true k 23 [v] = some x1 := by
          have := hxs 1 (by omega)
          rw [cellsI8] at this
          exact this
        obtain ⟨z0, k0, _, w0⟩ := DataW.trod_int Tryz.underlying23 e0
        obtain ⟨z1, k1, _, w1⟩ := DataW.trod_int Tryz.underlying23 e1
        have k0 := (List.cons.inj k0).1
        have k1 := (List.cons.inj k1).1
        subst k0
        subst k1
        have c0 := hcell 0 (by omega)
        have c1 := hcell 1 (by omega)
        rw [Go.Deep.add_add, Nat.mul_comm] at c0 c1
        exact ⟨(z0, z1), c0, c1, bounds_i8 w0, bounds_i8 w1⟩
    obtain ⟨f, hf⟩ := Go.Deep.choose_lt hel
    have hn : ∀ q ∈ (List.range (2 * len)).map (fun j => if j % 2 = 0 then ((f (j / 2)).1 : Rat) else ((f (j / 2)).2 : Rat)), -128 ≤ q.num ∧ q.num ≤ 127 := fun q hq => by
      obtain ⟨j, hj, rfl⟩ := List.mem_map.1 hq
      have hj : j < 2 * len := by simpa using hj
      obtain ⟨_, _, b1, b2⟩ := hf (j / 2) (by omega)
      split
      · rw [intRat_num]; exact b1
      · rw [intRat_num]; exact b2
    refine ⟨(List.range (2 * len)).map (fun j => if j % 2 = 0 then ((f (j / 2)).1 : Rat) else ((f (j / 2)).2 : Rat)), ⟨some a, cap, ?_, ?_, hn, fun h0 => ?_⟩, ?_⟩
    · simp
    · simpa using hl
    · have h0 : 0 < len := by simp at h0; omega
      have hc0 := (hf 0 h0).1
      have hs : a.spot = none := by
        have h : W.cell? a = some _ := hc0
        unfold World.cell? at h
        split at h
        · split at h
          · cases h
          · rename_i hsp
            simpa using hsp
        · cases h
      have hb := World.block_lt_of_cell? _ _ hc0
      obtain ⟨g, off, sp⟩ := a
      have hs : sp = none := hs
      subst hs
      rw [block_of_add'] at hb
      refine ⟨g, off, rfl, id, hb, fun j v hj => ?_⟩
      rw [List.getElem?_map, List.getElem?_map] at hj
      by_cases hlt : j < 2 * len
      · rw [List.getElem?_range hlt] at hj
        simp only [Option.map_some, Option.some.injEq] at hj
        subst hj
        obtain ⟨q1, q2, _, _⟩ := hf (j / 2) (by omega)
        have hadd : ∀ k : Nat, (Addr.mk g off none).add k = ⟨g, off + k, none⟩ := fun k => by
          unfold Addr.add
          split
          · rename_i hk; subst hk; rfl
          · rfl
        rw [hadd] at q1 q2
        by_cases hp : j % 2 = 0
        · rw [if_pos hp, intRat_num]
          rw [show 2 * (j / 2) = j by omega] at q1
          exact q1
        · rw [if_neg hp, intRat_num]
          rw [show 2 * (j / 2) + 1 = j by omega] at q2
          exact q2
      · rw [List.getElem?_eq_none (by simpa using hlt)] at hj
        cases hj
    · simp
      omega
def ThreeAt (W : World) (v : Value) (A B C : List Rat) (x0 x1 : Int) : Prop := ∃ s0 s1 s2, v = .agg #[s0, s1, s2, .int .i8 x0, .int .i8 x1] ∧ (XP.prs A).p (fun _ => False) W [s0] ∧ (XP.prs B).p (fun _ => False) W [s1] ∧ (XP.prs C).p (fun _ => False) W [s2] ∧
  A.length ≤ 1000000000000000 ∧ B.length ≤ 1000000000000000 ∧ C.length ≤ 1000000000000000 ∧ (-128 ≤ x0 ∧ x0 ≤ 127) ∧ (-128 ≤ x1 ∧ x1 ≤ 127)
set_option maxRecDepth 100000 in
theorem three_open {H : Type} {enc : TypeId × Value → H} {W : World} {base : Nat} {v : Value} {d : DataW H} {p : List MemPlace}
    (hval : Value.okWide Tryz.prog W .any base 26 v) (h : DataW.Trod enc Tryz.prog W 0 (fun _ => true) true 26 v d p) (hw : ∀ n ∈ d.weights Tryz.prog 26, n ≤ reachBytes) :
    ∃ A B C x0 x1, ThreeAt W v A B C x0 x1 := by
  obtain ⟨cs, rfl, hsz⟩ := okWide_struct Tryz.underlying26 hval
  rw [cellsT3] at hsz
  obtain ⟨l⟩ := cs
  match l, hsz with
  | [c0, c1, c2, c3, c4], _ =>
    obtain ⟨fuel, hf⟩ := h
    obtain ⟨y0, y1, y2, y3, n, hx, _, h0, h1, h2, h3⟩ := trod_struct4 Tryz.underlying26 hf
    have k0 : DataW.trod enc Tryz.prog W 0 (fun _ => true) true n 22 [c0] = some y0 := by simpa [Value.cells, cellsSP] using h0
    have k1 : DataW.trod enc Tryz.prog W 0 (fun _ => true) true n 22 [c1] = some y1 := by simpa [Value.cells, cellsSP] using h1
    have k2 : DataW.trod enc Tryz.prog W 0 (fun _ => true) true n 22 [c2] = some y2 := by simpa [Value.cells, cellsSP] using h2
    have k3 : DataW.trod enc Tryz.prog W 0 (fun _ => true) true n 24 [c3, c4] = some y3 := by simpa [Value.cells, cellsP2] using h3
    have hd : d = .agg [y0.1, y1.1, y2.1, y3.1] := congrArg Prod.fst hx
    subst hd
    obtain ⟨A, a1, a2⟩ := prs_open k0 fun n hn => hw n (by simp only [DataW.weights, Tryz.underlying26]; simp [DataW.weightsEach, hn])
    obtain ⟨B, b1, b2⟩ := prs_open k1 fun n hn => hw n (by simp only [DataW.weights, Tryz.underlying26]; simp [DataW.weightsEach, hn])
    obtain ⟨C, d1, d2⟩ := prs_open k2 fun n hn => hw n (by simp only [DataW.weights, Tryz.underlying26]; simp [DataW.weightsEach, hn])
    obtain ⟨xs, k, _, _, _, hxl, hxs⟩ := DataW.trod_array Tryz.underlying24 k3
    match xs, hxl with
    | [x0, x1], _ =>
      have e0 : DataW.trod enc Tryz.prog W 0 (fun _ => true) true k 23 [c3] = some x0 := by
        have := hxs 0 (by omega)
        rw [cellsI8] at this
        exact this
      have e1 : DataW.trod enc Tryz.prog W 0 (fun _ => true) true k 23 [c4] = some x1 := by
        have := hxs 1 (by omega)
        rw [cellsI8] at this
        exact this
      obtain ⟨z0, q0, _, w0⟩ := DataW.trod_int Tryz.underlying23 e0
      obtain ⟨z1, q1, _, w1⟩ := DataW.trod_int Tryz.underlying23 e1
      have q0 := (List.cons.inj q0).1
      have q1 := (List.cons.inj q1).1
      subst q0
      subst q1
      exact ⟨A, B, C, z0, z1, c0, c1, c2, rfl, a1, b1, d1, a2, b2, d2, bounds_i8 w0, bounds_i8 w1⟩
theorem ThreeAt.rvs {V : VL} {W : World} {v : Value} (h : ThreeAt W v (V.l 3) (V.l 4) (V.l 5) (V.z 6) (V.z 7)) : @RVs (envD V) noR (fun _ => False) W [.agg pd_X] [v] := by
  obtain ⟨s0, s1, s2, rfl, a, b, c, _, _, _, h0, h1⟩ := h
  refine ⟨_, _, rfl, ⟨_, rfl, ?_⟩, rfl⟩
  letI := envD V
  have one : ∀ {c : CE} {u : Value}, (xD V c).p (fun _ => False) W [u] → Rp noR (fun _ => False) W (.ext 1 false c) [u] := fun h => by
    unfold Rp
    exact ⟨rfl, h⟩
  refine Rps.app (l := [_]) (cs := [_]) (Rps.one (one a)) (Rps.app (l := [_]) (cs := [_]) (Rps.one (one b)) (Rps.app (l := [_]) (cs := [_]) (Rps.one (one c)) (Rps.app (l := [_]) (l' := [_]) (cs := [_]) (cs' := [_]) (Rps.one (one ?_)) (Rps.one (one ?_)))))
  · show (XP.i8 (zD V (.i 6 0))).p _ W _
    rw [show zD V (.i 6 0) = V.z 6 by simp [zD]]
    exact ⟨rfl, h0⟩
  · show (XP.i8 (zD V (.i 7 0))).p _ W _
    rw [show zD V (.i 7 0) = V.z 7 by simp [zD]]
    exact ⟨rfl, h1⟩
theorem prs_bd {l : List Rat} {M : Nat → Prop} {w : World} {cs : List Value} (h : (XP.prs l).p M w cs) : ∀ q ∈ l, -128 ≤ q.num ∧ q.num ≤ 127 := by
  obtain ⟨_, _, _, _, h, _⟩ := h
  exact h
theorem law_post {H : Type} {enc : TypeId × Value → H} {f : Func} {s : ChangeSpec} {W W' : World} {args : Array Value} {v : Value} {ds gs : List (DataW H)} {before : List MemPlace}
    (hW : DataW.Whole enc Tryz.prog f.params.toList s.vars false W args.toList ds gs before) (hb : Below W.heap.size W W')
    (hres : DataW.TrodAll enc Tryz.prog W' W.heap.size (fun _ => false) false f.resultTypes.toList (v.resultList f.resultTypes.size) (s.fn H (ds ++ gs)).results [])
    (hargs : DataW.TrodAll enc Tryz.prog W' 0 (fun b => decide (b < W.heap.size)) true f.params.toList args.toList (s.fn H (ds ++ gs)).args before)
    (hvars : DataW.TrodVars enc Tryz.prog W' (fun b => decide (b < W.heap.size)) s.vars (s.fn H (ds ++ gs)).vars []) : s.post enc Tryz.prog f false true false false W args v W' :=
  ⟨ds, gs, before, [], before, [], hW, hres, hargs, hvars, World.keptBut_mono (fun p hp => ⟨hp, .inr (.inl hp)⟩) (hb.frame (· ∈ before)), fun h => by cases h⟩
end Go.Proofs.YtgaehhapjnbieaaGreat
namespace Go.Proofs.YtgaehhapjnbieaaGreat
open Go.RowKit
theorem subC_len (a b : List Rat) : (subC a b).length ≤ max a.length b.length := by
  have := trimC_len ((List.range (max a.length b.length)).map fun i => a.getD i 0 - b.getD i 0)
  unfold subC
  simpa using this
theorem one_bd : ∀ y ∈ [(1 : Rat)], RSm y 1 := fun y hy => by
  rw [List.mem_singleton] at hy
  subst hy
  exact ⟨by show (1 : Int).natAbs < 4294967296 ^ 1; decide, by show ((1 : Nat) : Int).natAbs < 4294967296 ^ 1; decide⟩
theorem one_tr : Trimmed [(1 : Rat)] := .inr (by show (1 : Rat) ≠ 0; decide)
theorem mulL_one {a : List Rat} (ta : Trimmed a) : mulL a [1] = a := (mulL_trimmed ta one_tr).ext ta fun k => by
  rw [mulL_cf, conv_comm]
  have h := conv_single (g := cf a) 1 k 0
  rw [if_pos (Nat.zero_le k), Nat.sub_zero] at h
  have e : conv (cf [1]) (cf a) k = conv (fun i => if i = 0 then 1 else 0) (cf a) k := conv_congr (fun i _ => by cases i <;> rfl) (fun _ _ => rfl)
  rw [e, h]
  grind
def pr_one : CE := .ap 80 (.ap 36 (.lit 1) (.lit 1)) (.lit 0)
def pr_ab : CE := .ap 73 (.v 0) (.v 1)
def pr_s : CE := .ap 71 (.v 0) (.v 1)
def pr_s2 : CE := .ap 71 (.v 1) (.v 0)
def pr_d : CE := .ap 72 pr_s (.v 1)
def pr_ba : CE := .ap 73 (.v 1) (.v 0)
def pr_abc : CE := .ap 73 pr_ab (.v 2)
def pr_bc : CE := .ap 73 (.v 1) (.v 2)
def pr_abc2 : CE := .ap 73 (.v 0) pr_bc
def pr_sc : CE := .ap 73 pr_s (.v 2)
def pr_ac : CE := .ap 73 (.v 0) (.v 2)
def pr_t : CE := .ap 71 pr_ac pr_bc
def pr_m1 : CE := .ap 73 (.v 0) pr_one
def pr_V (a b c A B C : List Rat) (x : Rat) (x0 x1 : Int) : VL := ⟨fun k => match k with | 1 => (a.length : Int) | 2 => (b.length : Int) | 3 => (c.length : Int) | 6 => x0 | 7 => x1 | 30 => (a.length : Int) + b.length | 40 => (([1]).length : Int) | 41 => ((mulL a b).length : Int) | 42 => ((addC a b).length : Int) | 43 => ((addC b a).length : Int) | 44 => ((subC (addC a b) b).length : Int) | 45 => ((mulL b a).length : Int) | 46 => ((mulL (mulL a b) c).length : Int) | 47 => ((mulL b c).length : Int) | 48 => ((mulL a (mulL b c)).length : Int) | 49 => ((mulL (addC a b) c).length : Int) | 50 => ((mulL a c).length : Int) | 51 => ((addC (mulL a c) (mulL b c)).length : Int) | 52 => ((mulL a [1]).length : Int) | _ => 0, fun k => match k with | 0 => a | 1 => b | 2 => c | 3 => A | 4 => B | 5 => C | _ => [], fun k => match k with | 0 => x | _ => 0, fun _ => []⟩
def pr_F (k : List (Nat × Nat × Int)) (z : List (CE × Bool)) : Fa := ⟨k ++ [(1, 0, 400000), (2, 0, 400000), (3, 0, 400000), (40, 0, 400000), (41, 0, 400000), (42, 0, 400000), (43, 0, 400000), (44, 0, 400000), (45, 0, 400000), (46, 0, 400000), (47, 0, 400000), (48, 0, 400000), (49, 0, 400000), (50, 0, 400000), (51, 0, 400000), (52, 0, 400000)], [(.v 0, 1, 0), (.v 1, 2, 0), (.v 2, 3, 0), (pr_one, 40, 0), (pr_ab, 41, 0), (pr_s, 42, 0), (pr_s2, 43, 0), (pr_d, 44, 0), (pr_ba, 45, 0), (pr_abc, 46, 0), (pr_bc, 47, 0), (pr_abc2, 48, 0), (pr_sc, 49, 0), (pr_ac, 50, 0), (pr_t, 51, 0), (pr_m1, 52, 0)], [(.v 0, 1), (.v 1, 1), (.v 2, 1), (pr_one, 1), (pr_ab, 16), (pr_s, 3), (pr_s2, 3), (pr_d, 5), (pr_ba, 16), (pr_abc, 181), (pr_bc, 16), (pr_abc2, 91), (pr_sc, 26), (pr_ac, 16), (pr_t, 33), (pr_m1, 16)], z, [], [(.lit 1, 0)], [(1, 2, 30)]⟩
def pr_K : List (CE × Nat) := [(.v 0, 5), (.v 1, 5), (pr_ab, 10), (pr_s, 5)]
def pr_E : List (CE × CE × Bool) := [(pr_s, pr_s2, true), (pr_d, .v 0, true), (pr_ab, pr_ba, true), (pr_abc, pr_abc2, true), (pr_sc, pr_t, true), (pr_m1, .v 0, true)]
noncomputable def pr_L (F : Fa) : List PE := [pd_san, pd_made, pAddL F, pSubL F, pMulL F pr_K, pEqualL F pr_E]
noncomputable def pr_f : Func := Tryz.f4
noncomputable def pr_c : Code := bodyOf pr_f
noncomputable def pr_r (F : Fa) := runF (tbF F (pr_L F)) plainL 100 100 (.run pr_c) [] (begS pr_f.ntmps [.agg pd_X])
set_option maxRecDepth 100000
def pr_F0 : Fa := pr_F [(0, 1, -1), (0, 2, -1), (41, 30, -1), (30, 41, 1), (0, 41, -1)] []
theorem pr_e0 : pr_r pr_F0 = some (.done .ret (stopS (pr_r pr_F0))) := by kernel_rfl
theorem pr_x0 : endA pr_f (stopS (pr_r pr_F0)) = some (.val (.bool true)) := by kernel_rfl
def pr_F1 : Fa := pr_F [(1, 0, 0), (0, 1, 0), (41, 0, 0), (0, 41, 0)] []
theorem pr_e1 : pr_r pr_F1 = some (.done .ret (stopS (pr_r pr_F1))) := by kernel_rfl
theorem pr_x1 : endA pr_f (stopS (pr_r pr_F1)) = some (.val (.bool true)) := by kernel_rfl
def pr_F2 : Fa := pr_F [(0, 1, -1), (2, 0, 0), (0, 2, 0), (41, 0, 0), (0, 41, 0)] []
theorem pr_e2 : pr_r pr_F2 = some (.done .ret (stopS (pr_r pr_F2))) := by kernel_rfl
theorem pr_x2 : endA pr_f (stopS (pr_r pr_F2)) = some (.val (.bool true)) := by kernel_rfl
theorem pr_b : pr_f.body = some pr_c := by kernel_rfl
theorem pr_n : Nat.ble 1 pr_f.ntmps = true := by kernel_rfl
section
variable {a b c A B C : List Rat} {x : Rat} {x0 x1 : Int}
set_option maxHeartbeats 2000000 in
theorem pr_ok (ha : a.length ≤ 5) (hb : b.length ≤ 5) (hc : c.length ≤ 3) (ta : Trimmed a) (tb : Trimmed b) (tc : Trimmed c) (sa : ∀ y ∈ a, RSm y 1) (sb : ∀ y ∈ b, RSm y 1) (sc : ∀ y ∈ c, RSm y 1) (sx : RSm x 1) (h0 : -128 ≤ x0 ∧ x0 ≤ 127) (h1 : -128 ≤ x1 ∧ x1 ≤ 127) {k : List (Nat × Nat × Int)} {z : List (CE × Bool)} (hk : ∀ y ∈ k, (pr_V a b c A B C x x0 x1).z y.1 ≤ (pr_V a b c A B C x x0 x1).z y.2.1 + y.2.2) (hz : ∀ y ∈ z, decide (qD (pr_V a b c A B C x x0 x1) y.1 = 0) = y.2) : FaOK (pr_V a b c A B C x x0 x1) (pr_F k z) := by
  have l_ab := mulL_le a b
  have l_s := addC_len a b
  have l_s2 := addC_len b a
  have l_d := subC_len (addC a b) b
  have l_ba := mulL_le b a
  have l_abc := mulL_le (mulL a b) c
  have l_bc := mulL_le b c
  have l_abc2 := mulL_le a (mulL b c)
  have l_sc := mulL_le (addC a b) c
  have l_ac := mulL_le a c
  have l_t := addC_len (mulL a c) (mulL b c)
  have l_m1 : (mulL a [1]).length ≤ a.length + 1 := mulL_le a [1]
  have hsm : ∀ k, -1152921504606846976 ≤ (pr_V a b c A B C x x0 x1).z k ∧ (pr_V a b c A B C x x0 x1).z k ≤ 1152921504606846976 := fun k => by
    unfold pr_V
    dsimp only
    split <;> (try simp only [List.length_cons, List.length_nil]) <;> omega
  have d_one : ∀ y ∈ [1], RSm y 1 := one_bd
  have d_ab : ∀ y ∈ mulL a b, RSm y 16 := fun y hy => (mulL_bd (p := 1) (q := 1) (by decide) (by decide) sa sb y hy).mono (by omega)
  have d_s : ∀ y ∈ addC a b, RSm y 3 := fun y hy => (addC_bd (p := 1) (q := 1) (by decide) (by decide) sa sb y hy).mono (by omega)
  have d_s2 : ∀ y ∈ addC b a, RSm y 3 := fun y hy => (addC_bd (p := 1) (q := 1) (by decide) (by decide) sb sa y hy).mono (by omega)
  have d_d : ∀ y ∈ subC (addC a b) b, RSm y 5 := fun y hy => (subC_bd (p := 3) (q := 1) (by decide) (by decide) d_s sb y hy).mono (by omega)
  have d_ba : ∀ y ∈ mulL b a, RSm y 16 := fun y hy => (mulL_bd (p := 1) (q := 1) (by decide) (by decide) sb sa y hy).mono (by omega)
  have d_abc : ∀ y ∈ mulL (mulL a b) c, RSm y 181 := fun y hy => (mulL_bd (p := 16) (q := 1) (by decide) (by decide) d_ab sc y hy).mono (by have := mulL_le a b; have : (mulL a b).length * (16 + 1 + 1) ≤ 10 * 18 := Nat.mul_le_mul_right _ (by omega); omega)
  have d_bc : ∀ y ∈ mulL b c, RSm y 16 := fun y hy => (mulL_bd (p := 1) (q := 1) (by decide) (by decide) sb sc y hy).mono (by omega)
  have d_abc2 : ∀ y ∈ mulL a (mulL b c), RSm y 91 := fun y hy => (mulL_bd (p := 1) (q := 16) (by decide) (by decide) sa d_bc y hy).mono (by omega)
  have d_sc : ∀ y ∈ mulL (addC a b) c, RSm y 26 := fun y hy => (mulL_bd (p := 3) (q := 1) (by decide) (by decide) d_s sc y hy).mono (by have : (addC a b).length * (3 + 1 + 1) ≤ 5 * 5 := Nat.mul_le_mul_right _ (by omega); omega)
  have d_ac : ∀ y ∈ mulL a c, RSm y 16 := fun y hy => (mulL_bd (p := 1) (q := 1) (by decide) (by decide) sa sc y hy).mono (by omega)
  have d_t : ∀ y ∈ addC (mulL a c) (mulL b c), RSm y 33 := fun y hy => (addC_bd (p := 16) (q := 16) (by decide) (by decide) d_ac d_bc y hy).mono (by omega)
  have d_m1 : ∀ y ∈ mulL a [1], RSm y 16 := fun y hy => (mulL_bd (p := 1) (q := 1) (by decide) (by decide) sa one_bd y hy).mono (by omega)
  refine ⟨rfl, hsm, fun y hy => ?_, ?_, ?_, hz, fun _ h => (by cases h), ?_, ?_⟩
  · rcases List.mem_append.1 hy with hy | hy
    · exact hk y hy
    simp only [List.mem_cons, List.not_mem_nil, or_false] at hy
    rcases hy with rfl | rfl | rfl | rfl | rfl | rfl | rfl | rfl | rfl | rfl | rfl | rfl | rfl | rfl | rfl | rfl
    · show (((a).length : Nat) : Int) ≤ 0 + 400000
      omega
    · show (((b).length : Nat) : Int) ≤ 0 + 400000
      omega
    · show (((c).length : Nat) : Int) ≤ 0 + 400000
      omega
    · show ((([1]).length : Nat) : Int) ≤ 0 + 400000
      simp only [List.length_cons, List.length_nil]; omega
    · show (((mulL a b).length : Nat) : Int) ≤ 0 + 400000
      omega
    · show (((addC a b).length : Nat) : Int) ≤ 0 + 400000
      omega
    · show (((addC b a).length : Nat) : Int) ≤ 0 + 400000
      omega
    · show (((subC (addC a b) b).length : Nat) : Int) ≤ 0 + 400000
      omega
    · show (((mulL b a).length : Nat) : Int) ≤ 0 + 400000
      omega
    · show (((mulL (mulL a b) c).length : Nat) : Int) ≤ 0 + 400000
      omega
    · show (((mulL b c).length : Nat) : Int) ≤ 0 + 400000
      omega
    · show (((mulL a (mulL b c)).length : Nat) : Int) ≤ 0 + 400000
      omega
    · show (((mulL (addC a b) c).length : Nat) : Int) ≤ 0 + 400000
      omega
    · show (((mulL a c).length : Nat) : Int) ≤ 0 + 400000
      omega
    · show (((addC (mulL a c) (mulL b c)).length : Nat) : Int) ≤ 0 + 400000
      omega
    · show (((mulL a [1]).length : Nat) : Int) ≤ 0 + 400000
      omega
  · intro y hy
    simp only [pr_F, List.mem_cons, List.not_mem_nil, or_false] at hy
    rcases hy with rfl | rfl | rfl | rfl | rfl | rfl | rfl | rfl | rfl | rfl | rfl | rfl | rfl | rfl | rfl | rfl <;> exact (Int.add_zero _).symm
  · intro y hy
    simp only [pr_F, List.mem_cons, List.not_mem_nil, or_false] at hy
    rcases hy with rfl | rfl | rfl | rfl | rfl | rfl | rfl | rfl | rfl | rfl | rfl | rfl | rfl | rfl | rfl | rfl
    · exact sa
    · exact sb
    · exact sc
    · exact d_one
    · exact d_ab
    · exact d_s
    · exact d_s2
    · exact d_d
    · exact d_ba
    · exact d_abc
    · exact d_bc
    · exact d_abc2
    · exact d_sc
    · exact d_ac
    · exact d_t
    · exact d_m1
  · intro y hy u hu
    simp only [pr_F, List.mem_cons, List.not_mem_nil, or_false] at hy
    subst hy
    cases hu
  · intro y hy
    simp only [pr_F, List.mem_cons, List.not_mem_nil, or_false] at hy
    subst hy
    show (a.length : Int) + b.length = (a.length : Int) + b.length
    rfl
theorem pr_ents (ha : a.length ≤ 5) (hb : b.length ≤ 5) (hc : c.length ≤ 3) (ta : Trimmed a) (tb : Trimmed b) (tc : Trimmed c) (sa : ∀ y ∈ a, RSm y 1) (sb : ∀ y ∈ b, RSm y 1) (sc : ∀ y ∈ c, RSm y 1) (sx : RSm x 1) (h0 : -128 ≤ x0 ∧ x0 ≤ 127) (h1 : -128 ≤ x1 ∧ x1 ≤ 127) {F : Fa} (hF : FaOK (pr_V a b c A B C x x0 x1) F) (hs : @PE.ok (envD (pr_V a b c A B C x x0 x1)) pd_san) (hm : @PE.ok (envD (pr_V a b c A B C x x0 x1)) pd_made) (hn : @PE.ok (envD (pr_V a b c A B C x x0 x1)) pd_num) : ∀ e ∈ pr_L F, @PE.ok (envD (pr_V a b c A B C x x0 x1)) e := fun e he => by
  simp only [pr_L, List.mem_cons, List.not_mem_nil, or_false] at he
  rcases he with rfl | rfl | rfl | rfl | rfl | rfl
  · exact hs
  · exact hm
  · exact pAddL_ok hF
  · exact pSubL_ok hF
  · refine pMulL_ok hF fun k hk => ?_
    simp only [pr_K, List.mem_cons, List.not_mem_nil, or_false] at hk
    rcases hk with rfl | rfl | rfl | rfl
    · exact ha
    · exact hb
    · show (mulL a b).length ≤ 10; have := mulL_le a b; omega
    · show (addC a b).length ≤ 5; have := addC_len a b; omega
  · refine pEqualL_ok hF fun k hk => ?_
    simp only [pr_E, List.mem_cons, List.not_mem_nil, or_false] at hk
    rcases hk with rfl | rfl | rfl | rfl | rfl | rfl
    · exact decide_eq_true (show addC a b = addC b a from addC_comm)
    · exact decide_eq_true (show subC (addC a b) b = a from subC_addC ta)
    · exact decide_eq_true (show mulL a b = mulL b a from mulL_comm ta tb)
    · exact decide_eq_true (show mulL (mulL a b) c = mulL a (mulL b c) from mulL_assoc ta tb tc)
    · exact decide_eq_true (show mulL (addC a b) c = addC (mulL a c) (mulL b c) from mulL_add tc)
    · exact decide_eq_true (show mulL a [1] = a from mulL_one ta)
theorem pr_calls (ha : a.length ≤ 5) (hb : b.length ≤ 5) (hc : c.length ≤ 3) (ta : Trimmed a) (tb : Trimmed b) (tc : Trimmed c) (sa : ∀ y ∈ a, RSm y 1) (sb : ∀ y ∈ b, RSm y 1) (sc : ∀ y ∈ c, RSm y 1) (sx : RSm x 1) (h0 : -128 ≤ x0 ∧ x0 ≤ 127) (h1 : -128 ≤ x1 ∧ x1 ≤ 127) (hs : @PE.ok (envD (pr_V a b c A B C x x0 x1)) pd_san) (hm : @PE.ok (envD (pr_V a b c A B C x x0 x1)) pd_made) (hn : @PE.ok (envD (pr_V a b c A B C x x0 x1)) pd_num)
    {M : Nat → Prop} {w : World} {v : Value} (hm0 : ∀ b, M b → b < w.heap.size) (hv : @RVs (envD (pr_V a b c A B C x x0 x1)) noR M w [.agg pd_X] [v]) : Calls Tryz.prog 4 #[v] w (GivesP (eqF (.bool true)) w) := by
  have go : ∀ (F : Fa), FaOK (pr_V a b c A B C x x0 x1) F → pr_r F = some (.done .ret (stopS (pr_r F))) → endA pr_f (stopS (pr_r F)) = some (.val (.bool true)) → Calls Tryz.prog 4 #[v] w (GivesP (eqF (.bool true)) w) := fun F hF e1 e2 => by
    exact Calls.mono (am_flat .ret (.inr rfl) hF (pr_ents ha hb hc ta tb tc sa sb sc sx h0 h1 hF hs hm hn) Tryz.func4 pr_b (by rfl) rfl (show [AV.agg pd_X].length ≤ pr_f.ntmps from Nat.le_of_ble_eq_true pr_n) e1 e2 hm0 hv) fun e w' ⟨u, e1, e2, e3⟩ => ⟨u, e1, e2, e3⟩
  by_cases a0 : a = []
  · refine go pr_F1 (pr_ok ha hb hc ta tb tc sa sb sc sx h0 h1 (fun y hy => ?_) (fun _ h => (by cases h))) pr_e1 pr_x1
    have e : mulL a b = [] := if_pos (.inl a0)
    simp only [List.mem_cons, List.not_mem_nil, or_false] at hy
    rcases hy with rfl | rfl | rfl | rfl <;> simp [pr_V, a0, e, mulL]
  by_cases b0 : b = []
  · refine go pr_F2 (pr_ok ha hb hc ta tb tc sa sb sc sx h0 h1 (fun y hy => ?_) (fun _ h => (by cases h))) pr_e2 pr_x2
    have e : mulL a b = [] := if_pos (.inr b0)
    have la := List.length_pos_iff.2 a0
    simp only [List.mem_cons, List.not_mem_nil, or_false] at hy
    rcases hy with rfl | rfl | rfl | rfl | rfl <;> simp [pr_V, b0, e, mulL] <;> omega
  · refine go pr_F0 (pr_ok ha hb hc ta tb tc sa sb sc sx h0 h1 (fun y hy => ?_) (fun _ h => (by cases h))) pr_e0 pr_x0
    have e := mulL_len a0 b0
    have la := List.length_pos_iff.2 a0
    have lb := List.length_pos_iff.2 b0
    simp only [List.mem_cons, List.not_mem_nil, or_false] at hy
    rcases hy with rfl | rfl | rfl | rfl | rfl <;> simp [pr_V, e] <;> omega
end
theorem pr_law {W : World} {v : Value} {A B C : List Rat} {x0 x1 : Int} (h : ThreeAt W v A B C x0 x1) : Calls Tryz.prog 4 #[v] W (GivesP (eqF (.bool true)) W) := by
  have hv := ThreeAt.rvs (V := pr_V (madeC A 5) (madeC B 5) (madeC C 3) A B C (numOf x0 x1) x0 x1) h
  obtain ⟨_, _, _, _, a, b, c, kA, kB, kC, h0, h1⟩ := h
  have sm := (pr_ok (a := madeC A 5) (b := madeC B 5) (c := madeC C 3) (A := A) (B := B) (C := C) (x := numOf x0 x1) (k := []) (z := []) madeC_len madeC_len madeC_len madeC_tr madeC_tr madeC_tr (madeC_sm (prs_bd a)) (madeC_sm (prs_bd b)) (madeC_sm (prs_bd c)) (numOf_sm h0 h1) h0 h1 (fun _ h => (by cases h)) (fun _ h => (by cases h))).sm
  exact pr_calls madeC_len madeC_len madeC_len madeC_tr madeC_tr madeC_tr (madeC_sm (prs_bd a)) (madeC_sm (prs_bd b)) (madeC_sm (prs_bd c)) (numOf_sm h0 h1) h0 h1 pd_san_ok (made3_ok rfl sm kA kB kC rfl rfl rfl) (num3_ok rfl sm rfl) (fun _ h => h.elim) hv
end Go.Proofs.YtgaehhapjnbieaaGreat
namespace Go.Proofs.YtgaehhapjnbieaaGreat
open Go.ChangeShapes Go.WideShapes Go.ChangeAt Go.RowKit Go.Joins
set_option maxRecDepth 100000 in
theorem polyRing_lifted (os : Os) (started : os.Started) (H : Type) (enc : TypeId × Value → H) :
    ReturnsInHanded {} Tryz.checked os 4 .any (Rows.polyRingSpec.pre6 enc Tryz.prog Tryz.f4 [] false)
      (Rows.polyRingSpec.post enc Tryz.prog Tryz.f4 false true false false) := by
  refine returnsInHanded_of_change_sized (C := Tryz.checked) ownN started (by kernel_rfl) Tryz.func4 ?_ ?_
  · obtain ⟨w, t, i, a1, a2, a3, a4, ⟨⟨p1, _⟩, p2⟩, a6⟩ := ChangeSpec.witness_at (enc := enc) (C := Tryz.checked) (os := os) (f := 4) (fn := Tryz.f4) (s := Rows.polyRingSpec) (conds := []) (apart := false) (X := fun _ _ => True) false (World.holding Tryz.prog os ⟨#[], #[], []⟩) #[.agg #[.slice none 0 0, .slice none 0 0, .slice none 0 0, .int .i8 0, .int .i8 0]] 8 rfl (by kernel_rfl) (by kernel_rfl) (by kernel_rfl) (by kernel_rfl) (by kernel_rfl) True.intro
    exact ⟨w, t, i, a1, a2, a3, a4, ⟨p1, p2⟩, a6⟩
  intro W base args ds gs before hval0 hW _ hsz0 _
  have hval : ∀ (j : Nat) t v, Tryz.f4.params[j]? = some t → args[j]? = some v → Value.okWide Tryz.prog W .any base t v := hval0
  have hsz : (DataW.weightsEach Tryz.prog (Tryz.f4.params.toList ++ Rows.polyRingSpec.plain.varTypes Tryz.prog) (ds ++ gs)).all (· ≤ reachBytes) = true := hsz0
  have hW' := hW
  obtain ⟨p, q, hA0, hV0, rfl, hfz, hnd⟩ := hW
  have hA : DataW.TrodAll enc Tryz.prog W 0 (fun _ => true) true Tryz.f4.params.toList args.toList ds p := hA0
  have hV : DataW.TrodVars enc Tryz.prog W (fun _ => true) [] gs q := hV0
  rw [Tryz.params4] at hA hval hsz
  obtain ⟨rfl, rfl⟩ := trodVars_none hV
  obtain ⟨v0, d0, rfl, rfl, h0⟩ := trodAll_one hA
  have h0k := h0
  have hw0 : ∀ n ∈ d0.weights Tryz.prog 26, n ≤ reachBytes := fun n hn =>
    of_decide_eq_true (List.all_eq_true.1 hsz _ (DataW.weights_mem_each (j := 0) (t := 26) rfl rfl n hn))
  have hlt0 : ∀ x ∈ p, x.block < W.heap.size := fun x hx => hW'.lt x (by simp [hx])
  obtain ⟨A0, B0, C0, x0, y0, K0⟩ := three_open (hval 0 26 v0 rfl rfl) h0 hw0
  clear hA0 hV0 hval0 hsz0
  refine (pr_law K0).mono fun e W' hpost => ?_
  obtain ⟨u, he, hu, hb⟩ := hpost
  have hu : u = .bool true := hu
  subst hu
  subst he
  have e1 : Rows.polyRingSpec.fn H ([d0] ++ []) = { results := [.lit (.bool true)], args := [d0] } := by simp [Rows.polyRingSpec]
  refine ⟨_, rfl, law_post hW' hb ?_ ?_ ?_⟩
  · rw [e1]; exact trodAll_mk1 (shut_bool Tryz.underlying4 true)
  · rw [e1]
    have := trodAll_mk1 (Below.trod laidOutN (by kernel_rfl) (of_decide_eq_true (by kernel_rfl)) h0k hb hlt0)
    simpa using this
  · rw [e1]; rfl
theorem polyRing_holds : Rows.PolyRingSaid :=
  OpenClaim.holds_of_wide 4 Tryz.f4 rfl rfl rfl rfl rfl rfl rfl ⟨rfl, rfl, rfl, rfl, rfl⟩ rfl rfl rfl rfl rfl (by kernel_rfl) Tryz.func4 (by kernel_rfl)
    (of_decide_eq_true (by kernel_rfl)) (by unfold Func.isWrapper; rw [if_neg (of_decide_eq_false (by kernel_rfl))]; exact ⟨rfl, rfl⟩)
    (fun os started H enc _ => polyRing_lifted os started H enc)
end Go.Proofs.YtgaehhapjnbieaaGreat
