/- Layer 2: what a row's conditions give a walk: the table of powers of ten, raw arguments as limbs, a start that fits, and the row's last step. -/
import Derived.Test.YtdofolejfdfocaaGreatDoorqFmt
import Derived.Test.YtdofolejfdfocaaGreatDoorqQr
import Derived.ProofKit
import Derived.ChangeSlices
import Derived.Carry
import Derived.Handed
import Derived.SizedLaws
import Derived.Lib.SmallJoins
import Derived.Lib.LaidTab
import Derived.Deep.DeepLaidRun
namespace Go.Proofs.YtdofolejfdfocaaGreatDoor
open Go.ChangeShapes Go.WideShapes Go.ChangeAt Go.RowKit Go.Joins

theorem ownN : ownKnob Tryz.prog.godebug = none := by kernel_rfl
theorem laidOutN : laidOutB Tryz.prog = true := by kernel_rfl
theorem gPow : Tryz.prog.globalNamed "internal/strconv.uint64pow10" = some 1 := by kernel_rfl
theorem gPowType : (Tryz.prog.globals[1]?).map (·.type) = some 135 := by kernel_rfl
theorem cellsU64 : Tryz.prog.cellsOf 77 = 1 := by kernel_rfl
theorem cellsPow : Tryz.prog.cellsOf 135 = 20 := by kernel_rfl
theorem cellsU32 : Tryz.prog.cellsOf 76 = 1 := by kernel_rfl
theorem bytesU32 : Tryz.prog.bytesOf 76 = 4 := by kernel_rfl
theorem cellsRaw2 : Tryz.prog.cellsOf 24 = 3 := by kernel_rfl

/-- The third of the listed variables is the table. -/
theorem p10_of_laid {W : World} (h : laidMet Tryz.prog Rows.rationalFieldRow.laid W) : P10 W := by
  obtain ⟨ps, ⟨_, _, _, _, _, q1, _, _, _, _, ⟨_, _, _, _, _, q2, _, _, _, _, ⟨g', t', cs, fuel, p, q3, hg', ht', hvar, hd, _, _⟩, _⟩, _⟩, _⟩ := h
  obtain rfl := Option.some.inj (gPow.symm.trans hg')
  obtain rfl := Option.some.inj (gPowType.symm.trans ht')
  have hd' : DataW.trod (fun _ => ()) Tryz.prog W 0 (fun _ => true) false fuel 135 cs.toList = some (Lib.tabData .u64 Lib.pow10Tab, p) := hd
  show W.var? Tryz.prog "internal/strconv.uint64pow10" = _
  rw [hvar, ← Lib.cells_of_tab Tryz.underlying135 Tryz.underlying77 cellsU64 cellsPow hd']

/-- The cells of a listed table. -/
def datumCells : DataW Unit → Array Value
  | .agg l => (l.map fun
    | .lit (.int k n) => Value.int k n
    | _ => Value.bool false).toArray
  | _ => #[]
/-- The settled world with the three tables laid. -/
noncomputable def laidWorld (os : Os) : World :=
  let w0 := World.holding Tryz.prog os ⟨#[], #[], []⟩
  let put (h : Array Obj) (g : Nat) (cs : Array Value) : Array Obj := h.modify g fun
    | .cells _ t frozen => .cells cs t frozen
    | o => o
  { w0 with heap := put (put (put w0.heap 2 (datumCells Rows.laid_math_bits_deBruijn32tab)) 3 (datumCells Rows.laid_math_bits_deBruijn64tab)) 1 (datumCells Rows.laid_internal_strconv_uint64pow10) }
theorem laid_met (os : Os) (args : Array Value) : laidMet Tryz.prog Rows.rationalFieldRow.laid ((laidWorld os).forCall (fun _ _ => 0) ⟨#[], args, []⟩).memory :=
  laidMet_of_run3 10 (by kernel_rfl) (by kernel_rfl) (by kernel_rfl)

set_option maxRecDepth 100000 in
/-- A slice of limbs that can be read. -/
theorem limbs_open {H : Type} {enc : TypeId × Value → H} {W : World} {m : Nat} {c : Value} {y : DataW H × List MemPlace} (hy0 : DataW.trod enc Tryz.prog W 0 (fun _ => true) true m 22 [c] = some y)
    (hw : ∀ n ∈ DataW.weights Tryz.prog 22 y.1, n ≤ reachBytes) : ∃ (A : Option Addr) (k cp : Nat) (ms : List Nat), c = .slice A k cp ∧ ∀ b, RawArg.Ok ⟨b, A, k, cp, ms⟩ W := by
  rcases open_ints Tryz.underlying22 Tryz.underlying76 cellsU32 hy0 with ⟨hcs, _⟩ | ⟨a, len, cap, zs, hcs, _, hl, hm, hz, hx0, hcell, hwz⟩
  · simp only [List.cons.injEq, and_true] at hcs
    subst hcs
    exact ⟨none, 0, 0, [], rfl, fun b => ⟨rfl, fun h => absurd h (by simp), Nat.le_refl _, L32.nil_, Nat.zero_le _, fun _ => rfl⟩⟩
  · simp only [List.cons.injEq, and_true] at hcs
    subst hcs
    have hlz : len ≤ zs.length := by rw [hz]; split <;> omega
    have hlm : len ≤ 2305843009213693952 := by
      have := hw (zs.length * 4) (by
        rw [hx0]
        simp [DataW.weights, DataW.weightsEach, Tryz.underlying22, bytesU32, lits]
        try omega)
      have e : reachBytes = 140737488351232 := by kernel_rfl
      omega
    have hwf : ∀ n ∈ zs, 0 ≤ n ∧ n < 4294967296 := fun n hn => by
      have := hwz n hn
      simp [Lit.wf, IntKind.min, IntKind.max, IntKind.signed, IntKind.bits, go_sem] at this
      omega
    refine ⟨some a, len, cap, (zs.take len).map Int.toNat, rfl, fun b => ⟨by simp; omega, fun hn => ?_, hl, fun x hx => ?_, by simpa using hlm, fun h => by cases h⟩⟩
    · have h0 : 0 < zs.length := by simp at hn; omega
      have hc0 := hcell 0 h0
      have hb := World.block_lt_of_cell? _ _ hc0
      rw [block_of_add'] at hb
      refine ⟨a, rfl, hb, fun j x hx => ?_⟩
      rw [List.getElem?_map, List.getElem?_take] at hx
      split at hx
      · rename_i hj
        have hj2 : j < zs.length := by omega
        rw [hcell j hj2]
        rw [List.getElem?_eq_getElem hj2] at hx
        simp only [Option.map_some, Option.some.injEq] at hx
        have hw := hwf _ (List.getElem_mem hj2)
        have e : zs.getD j 0 = zs[j] := by simp [List.getD, hj2]
        rw [e, ← hx, Int.toNat_of_nonneg hw.1]
      · simp at hx
    · obtain ⟨n, hn, rfl⟩ := List.mem_map.1 hx
      have := hwf n (List.mem_of_mem_take hn)
      omega
set_option maxRecDepth 100000 in
/-- A raw argument: two slices of limbs and a sign. -/
theorem raw2_open {H : Type} {enc : TypeId × Value → H} {W : World} {base : Nat} {v : Value} {d : DataW H} {p : List MemPlace}
    (hval : Value.okWide Tryz.prog W .any base 24 v) (h : DataW.Trod enc Tryz.prog W 0 (fun _ => true) true 24 v d p) (hw : ∀ n ∈ d.weights Tryz.prog 24, n ≤ reachBytes) :
    ∃ r : Raw2, v = r.val_ ∧ r.Ok W := by
  obtain ⟨c0, c1, c2, y0, y1, y2, m, rfl, rfl, rfl, hy0, hy1, hy2⟩ := open_agg3 Tryz.underlying24 (by kernel_rfl) cellsRaw2 hval h
  obtain ⟨b, h1, _⟩ := DataW.trod_bool Tryz.underlying4 hy2
  simp only [List.cons.injEq, and_true] at h1
  subst h1
  obtain ⟨A, k, c, ms, rfl, H0⟩ := limbs_open hy0 fun n hn => hw n (by simp only [DataW.weights, Tryz.underlying24]; simp [DataW.weightsEach, hn])
  obtain ⟨A', k', c', ms', rfl, H1⟩ := limbs_open hy1 fun n hn => hw n (by simp only [DataW.weights, Tryz.underlying24]; simp [DataW.weightsEach, hn])
  exact ⟨⟨⟨b, A, k, c, ms⟩, ⟨false, A', k', c', ms'⟩⟩, rfl, H0 b, H1 false, rfl⟩

/-- THE LAST STEP: the law has answered true and left all that was there as it was. -/
theorem law_post {H : Type} {enc : TypeId × Value → H} {f : Func} {s : ChangeSpec} {W W' : World} {args : Array Value} {v : Value} {ds gs : List (DataW H)} {before : List MemPlace}
    (hW : DataW.Whole enc Tryz.prog f.params.toList s.vars false W args.toList ds gs before) (hb : Below W.heap.size W W')
    (hres : DataW.TrodAll enc Tryz.prog W' W.heap.size (fun _ => false) false f.resultTypes.toList (v.resultList f.resultTypes.size) (s.fn H (ds ++ gs)).results [])
    (hargs : DataW.TrodAll enc Tryz.prog W' 0 (fun b => decide (b < W.heap.size)) true f.params.toList args.toList (s.fn H (ds ++ gs)).args before)
    (hvars : DataW.TrodVars enc Tryz.prog W' (fun b => decide (b < W.heap.size)) s.vars (s.fn H (ds ++ gs)).vars []) : s.post enc Tryz.prog f false true false false W args v W' :=
  ⟨ds, gs, before, [], before, [], hW, hres, hargs, hvars, World.keptBut_mono (fun p hp => ⟨hp, .inr (.inl hp)⟩) (hb.frame (· ∈ before)), fun h => by cases h⟩
end Go.Proofs.YtdofolejfdfocaaGreatDoor
