/- What a row's conditions give a walk: the table of powers of ten, raw arguments as limbs, a start that fits, and the row's last step. -/
import Derived.Test.YtdofolejfdfocaaDoorqFmt
import Derived.ProofKit
import Derived.ChangeSlices
import Derived.Carry
import Derived.Handed
import Derived.SizedLaws
import Derived.Lib.SmallJoins
import Derived.Lib.LaidTab
import Derived.Deep.DeepLaidRun
namespace Go.Proofs.YtdofolejfdfocaaDoor
open Go.ChangeShapes Go.WideShapes Go.ChangeAt Go.RowKit Go.Joins

theorem ownN : ownKnob Tryd.prog.godebug = none := by kernel_rfl
theorem laidOutN : laidOutB Tryd.prog = true := by kernel_rfl
theorem gPow : Tryd.prog.globalNamed "internal/strconv.uint64pow10" = some 1 := by kernel_rfl
theorem gPowType : (Tryd.prog.globals[1]?).map (·.type) = some 100 := by kernel_rfl
theorem cellsU64 : Tryd.prog.cellsOf 52 = 1 := by kernel_rfl
theorem cellsPow : Tryd.prog.cellsOf 100 = 20 := by kernel_rfl
theorem cellsU32 : Tryd.prog.cellsOf 41 = 1 := by kernel_rfl
theorem bytesU32 : Tryd.prog.bytesOf 41 = 4 := by kernel_rfl
theorem cellsRaw : Tryd.prog.cellsOf 24 = 2 := by kernel_rfl

/-- The third of the listed variables is the table. -/
theorem p10_of_laid {W : World} (h : laidMet Tryd.prog Rows.integerTextRow.laid W) : P10 W := by
  obtain ⟨ps, ⟨_, _, _, _, _, q1, _, _, _, _, ⟨_, _, _, _, _, q2, _, _, _, _, ⟨g', t', cs, fuel, p, q3, hg', ht', hvar, hd, _, _⟩, _⟩, _⟩, _⟩ := h
  obtain rfl := Option.some.inj (gPow.symm.trans hg')
  obtain rfl := Option.some.inj (gPowType.symm.trans ht')
  have hd' : DataW.trod (fun _ => ()) Tryd.prog W 0 (fun _ => true) false fuel 100 cs.toList = some (Lib.tabData .u64 Lib.pow10Tab, p) := hd
  show W.var? Tryd.prog "internal/strconv.uint64pow10" = _
  rw [hvar, ← Lib.cells_of_tab Tryd.underlying100 Tryd.underlying52 cellsU64 cellsPow hd']

/-- The cells of a listed table. -/
def datumCells : DataW Unit → Array Value
  | .agg l => (l.map fun
    | .lit (.int k n) => Value.int k n
    | _ => Value.bool false).toArray
  | _ => #[]
/-- The settled world with the three tables laid. -/
noncomputable def laidWorld (os : Os) : World :=
  let w0 := World.holding Tryd.prog os ⟨#[], #[], []⟩
  let put (h : Array Obj) (g : Nat) (cs : Array Value) : Array Obj := h.modify g fun
    | .cells _ t frozen => .cells cs t frozen
    | o => o
  { w0 with heap := put (put (put w0.heap 2 (datumCells Rows.laid_math_bits_deBruijn32tab)) 3 (datumCells Rows.laid_math_bits_deBruijn64tab)) 1 (datumCells Rows.laid_internal_strconv_uint64pow10) }
theorem laid_met (os : Os) (args : Array Value) : laidMet Tryd.prog Rows.integerTextRow.laid ((laidWorld os).forCall (fun _ _ => 0) ⟨#[], args, []⟩).memory :=
  laidMet_of_run3 10 (by kernel_rfl) (by kernel_rfl) (by kernel_rfl)

set_option maxRecDepth 100000 in
/-- A raw argument: a slice of limbs and a sign. -/
theorem raw_open {H : Type} {enc : TypeId × Value → H} {W : World} {base : Nat} {v : Value} {d : DataW H} {p : List MemPlace}
    (hval : Value.okWide Tryd.prog W .any base 24 v) (h : DataW.Trod enc Tryd.prog W 0 (fun _ => true) true 24 v d p) (hw : ∀ n ∈ d.weights Tryd.prog 24, n ≤ reachBytes) :
    ∃ (A : Option Addr) (k c : Nat) (b : Bool) (ms : List Nat), v = .agg #[.slice A k c, .bool b] ∧ ms.length = k ∧ k ≤ 2305843009213693952 ∧ k ≤ c ∧ L32 ms ∧ RawMem W W.heap.size A ms ∧ (A = none → c = 0) := by
  obtain ⟨c0, c1, y0, y1, m, rfl, rfl, rfl, hy0, hy1⟩ := open_agg2 Tryd.underlying24 (by kernel_rfl) cellsRaw hval h
  obtain ⟨b, h1, _⟩ := DataW.trod_bool Tryd.underlying4 hy1
  simp only [List.cons.injEq, and_true] at h1
  subst h1
  rcases open_ints Tryd.underlying22 Tryd.underlying41 cellsU32 hy0 with ⟨hcs, _⟩ | ⟨a, len, cap, zs, hcs, _, hl, hm, hz, hx0, hcell, hwz⟩
  · simp only [List.cons.injEq, and_true] at hcs
    subst hcs
    exact ⟨none, 0, 0, b, [], rfl, rfl, Nat.zero_le _, Nat.le_refl _, L32.nil_, fun h => absurd h (by simp), fun _ => rfl⟩
  · simp only [List.cons.injEq, and_true] at hcs
    subst hcs
    have hlz : len ≤ zs.length := by rw [hz]; split <;> omega
    have hlm : len ≤ 2305843009213693952 := by
      have := hw (zs.length * 4) (by
        rw [hx0]
        simp [DataW.weights, DataW.weightsEach, Tryd.underlying24, Tryd.underlying22, bytesU32, lits]
        left
        omega)
      have e : reachBytes = 140737488351232 := by kernel_rfl
      omega
    have hwf : ∀ n ∈ zs, 0 ≤ n ∧ n < 4294967296 := fun n hn => by
      have := hwz n hn
      simp [Lit.wf, IntKind.min, IntKind.max, IntKind.signed, IntKind.bits, go_sem] at this
      omega
    refine ⟨some a, len, cap, b, (zs.take len).map Int.toNat, rfl, by simp; omega, by omega, hl, fun x hx => ?_, fun hn => ?_, fun h => by cases h⟩
    · obtain ⟨n, hn, rfl⟩ := List.mem_map.1 hx
      have := hwf n (List.mem_of_mem_take hn)
      omega
    · have h0 : 0 < zs.length := by simp at hn; omega
      have hc0 := hcell 0 h0
      have hb := World.block_lt_of_cell? _ _ hc0
      rw [block_of_add'] at hb
      refine ⟨a, rfl, hb, fun j x hx => ?_⟩
      rw [List.getElem?_map, List.getElem?_take] at hx
      split at hx
      · rename_i hj
        have hj2 : j < zs.length := by omega
        rw [hcell j hj2]
        rw [List.getElem?_eq_getElem hj2] at hx
        simp only [Option.map_some, Option.some.injEq] at hx
        have hw := hwf _ (List.getElem_mem hj2)
        have e : zs.getD j 0 = zs[j] := by simp [List.getD, hj2]
        rw [e, ← hx, Int.toNat_of_nonneg hw.1]
      · simp at hx

/-- THE LAST STEP: the law has answered true and left all that was there as it was. -/
theorem law_post {H : Type} {enc : TypeId × Value → H} {f : Func} {s : ChangeSpec} {W W' : World} {args : Array Value} {v : Value} {ds gs : List (DataW H)} {before : List MemPlace}
    (hW : DataW.Whole enc Tryd.prog f.params.toList s.vars false W args.toList ds gs before) (hb : Below W.heap.size W W')
    (hres : DataW.TrodAll enc Tryd.prog W' W.heap.size (fun _ => false) false f.resultTypes.toList (v.resultList f.resultTypes.size) (s.fn H (ds ++ gs)).results [])
    (hargs : DataW.TrodAll enc Tryd.prog W' 0 (fun b => decide (b < W.heap.size)) true f.params.toList args.toList (s.fn H (ds ++ gs)).args before)
    (hvars : DataW.TrodVars enc Tryd.prog W' (fun b => decide (b < W.heap.size)) s.vars (s.fn H (ds ++ gs)).vars []) : s.post enc Tryd.prog f false true false false W args v W' :=
  ⟨ds, gs, before, [], before, [], hW, hres, hargs, hvars, World.keptBut_mono (fun p hp => ⟨hp, .inr (.inl hp)⟩) (hb.frame (· ∈ before)), fun h => by cases h⟩
end Go.Proofs.YtdofolejfdfocaaDoor
