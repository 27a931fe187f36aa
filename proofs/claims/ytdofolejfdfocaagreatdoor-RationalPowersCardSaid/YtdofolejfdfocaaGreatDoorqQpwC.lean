/- THE CARD OF RationalPowers: for all raw rational numbers, of which the law uses at most two limbs of each numerator and of each denominator, and all pairs of numbers, from which it makes exponents from -9 to 9, the law of RationalPowers answers true and leaves its arguments as they were; the tables that it reads are tied to the program's text. No condition. -/
import Derived.Test.YtdofolejfdfocaaGreatDoorqLift2
import Derived.Test.YtdofolejfdfocaaGreatDoorqQpw
import Derived.Test.YtdofolejfdfocaaGreatDoorCards
import Derived.Test.YtdofolejfdfocaaGreatDoorTie
import Derived.Stop.Joined
import Derived.SevenTiedAt
import Derived.WideKeyPair
namespace Go.Proofs.YtdofolejfdfocaaGreatDoor
open Go.ChangeShapes Go.WideShapes Go.ChangeAt Go.RowKit Go.Joins

theorem arr2Key : WideMaps.ArrKey Tryz.prog 50 3 2 := ⟨Tryz.underlying50, by kernel_rfl, by kernel_rfl, by kernel_rfl⟩
set_option maxRecDepth 100000 in
theorem rationalPowers_lifted (os : Os) (started : os.Started) (H : Type) (enc : TypeId × Value → H) :
    ReturnsInHanded {} Tryz.checked os 7 .any (fun w args => (Rows.rationalPowersSpec.pre enc Tryz.prog Tryz.f7 [] false w args ∧ laidMet Tryz.prog Rows.rationalFieldRow.laid w) ∧ sizedMet enc Tryz.prog Tryz.f7 (OpenSpec.ofChange Rows.rationalPowersSpec) false w args)
      (Rows.rationalPowersSpec.post enc Tryz.prog Tryz.f7 false true false false) := by
  refine returnsInHanded_of_change_and (C := Tryz.checked) (X := fun w _ => laidMet Tryz.prog Rows.rationalFieldRow.laid w) (fun _ _ _ hh h => h.of_heap hh) ownN started (by kernel_rfl) Tryz.func7
    (ChangeSpec.witness_at (enc := enc) (C := Tryz.checked) (os := os) (X := fun w _ => laidMet Tryz.prog Rows.rationalFieldRow.laid w) false (laidWorld os) #[.agg #[.slice none 0 0, .slice none 0 0, .bool false], .agg #[.slice none 0 0, .slice none 0 0, .bool false], .agg #[.int .i64 0, .int .i64 0]] 8 rfl (by kernel_rfl) (by kernel_rfl) (by kernel_rfl) (by kernel_rfl) (by kernel_rfl) (laid_met os _)) ?_
  intro W base args ds gs before hval0 hW _ hsz0 hL _
  have hval : ∀ (j : Nat) t v, Tryz.f7.params[j]? = some t → args[j]? = some v → Value.okWide Tryz.prog W .any base t v := hval0
  have hsz : (DataW.weightsEach Tryz.prog (Tryz.f7.params.toList ++ Rows.rationalPowersSpec.plain.varTypes Tryz.prog) (ds ++ gs)).all (· ≤ reachBytes) = true := hsz0
  have hW' := hW
  obtain ⟨p, q, hA0, hV0, rfl, hfz, hnd⟩ := hW
  have hA : DataW.TrodAll enc Tryz.prog W 0 (fun _ => true) true Tryz.f7.params.toList args.toList ds p := hA0
  have hV : DataW.TrodVars enc Tryz.prog W (fun _ => true) [] gs q := hV0
  rw [Tryz.params7] at hA hval hsz
  obtain ⟨rfl, rfl⟩ := trodVars_none hV
  obtain ⟨v0, v1, v2, d0, d1, d2, p0, p1, p2, rfl, rfl, rfl, h0, h1, h2⟩ := trodAll_three hA
  have h0k := h0
  have hw0 : ∀ n ∈ d0.weights Tryz.prog 24, n ≤ reachBytes := fun n hn =>
    of_decide_eq_true (List.all_eq_true.1 hsz _ (DataW.weights_mem_each (j := 0) (t := 24) rfl rfl n hn))
  have hlt0 : ∀ x ∈ p0, x.block < W.heap.size := fun x hx => hW'.lt x (by simp [hx])
  obtain ⟨r0, rfl, K0⟩ := raw2_open (hval 0 24 v0 rfl rfl) h0 hw0
  have h1k := h1
  have hw1 : ∀ n ∈ d1.weights Tryz.prog 24, n ≤ reachBytes := fun n hn =>
    of_decide_eq_true (List.all_eq_true.1 hsz _ (DataW.weights_mem_each (j := 1) (t := 24) rfl rfl n hn))
  have hlt1 : ∀ x ∈ p1, x.block < W.heap.size := fun x hx => hW'.lt x (by simp [hx])
  obtain ⟨r1, rfl, K1⟩ := raw2_open (hval 1 24 v1 rfl rfl) h1 hw1
  obtain ⟨x2, y2, rfl, rfl, rfl, wx2, wy2⟩ := WideMaps.open_pair arr2Key Tryz.underlying3 (hval 2 50 v2 rfl rfl) h2
  have wx2k := wx2
  simp [Lit.wf, IntKind.min, IntKind.max, IntKind.signed, IntKind.bits, go_sem] at wx2
  clear hA0 hV0 hval0 hsz0
  refine (QPowers_law r0 r1 x2 y2 W K0 K1 (p10_of_laid hL) (by omega) (by omega)).mono fun e W' hpost => ?_
  obtain ⟨u, he, hu, hb⟩ := hpost
  have hu : u = .bool true := hu
  subst hu
  subst he
  have e1 : Rows.rationalPowersSpec.fn H ([d0, d1, .agg [.lit (.int .i64 x2), .lit (.int .i64 y2)]] ++ []) = { results := [.lit (.bool true)], args := [d0, d1, .agg [.lit (.int .i64 x2), .lit (.int .i64 y2)]] } := by simp [Rows.rationalPowersSpec]
  refine ⟨_, rfl, law_post hW' hb ?_ ?_ ?_⟩
  · rw [e1]; exact trodAll_mk1 (shut_bool Tryz.underlying4 true)
  · rw [e1]
    have := trodAll_mk3 (Below.trod laidOutN (by kernel_rfl) (of_decide_eq_true (by kernel_rfl)) h0k hb hlt0) (Below.trod laidOutN (by kernel_rfl) (of_decide_eq_true (by kernel_rfl)) h1k hb hlt1) (WideMaps.shut_pair arr2Key Tryz.underlying3 wx2k wy2)
    simpa using this
  · rw [e1]; rfl

theorem rationalPowers_row : Rows.RationalPowersSaid :=
  OpenClaim.holds_of_wide 7 Tryz.f7 rfl rfl rfl rfl rfl rfl rfl ⟨rfl, rfl, rfl, rfl, rfl⟩ rfl rfl rfl rfl rfl (by kernel_rfl) Tryz.func7 (by kernel_rfl)
    (of_decide_eq_true (by kernel_rfl)) (by unfold Func.isWrapper; rw [if_neg (of_decide_eq_false (by kernel_rfl))]; exact ⟨rfl, rfl⟩)
    (fun os started H enc _ => rationalPowers_lifted os started H enc)

theorem rationalPowers_holds : Rows.RationalPowersCardSaid :=
  Claim7.holds_tied_plain_at .later [] [.data, .data, .data] true Rows.rationalPowersCard.stood.harness false
    rationalPowers_row (fun _ h => by cases h) (by kernel_rfl) (fun _ h => by cases h) rationalPowers_row_tie rfl ⟨rfl, rfl⟩ (by kernel_rfl) rfl
    (fun f fn hf hfn => by
      obtain rfl : f = 7 := Option.some.inj ((show Tryz.prog.funcNamed "quadrature/quadraturelaw02.RationalPowers" = some 7 by kernel_rfl).symm.trans hf) |>.symm
      obtain rfl : fn = Tryz.f7 := (Option.some.inj (Tryz.func7.symm.trans hfn)).symm
      exact ⟨by kernel_rfl, fun j t ht => by
        rw [Tryz.params7] at ht
        rcases j with _ | _ | _ | j
        · obtain rfl : t = 24 := by simpa using ht.symm
          exact (show Tryz.prog.wantsStandIn 24 = false by kernel_rfl)
        · obtain rfl : t = 24 := by simpa using ht.symm
          exact (show Tryz.prog.wantsStandIn 24 = false by kernel_rfl)
        · obtain rfl : t = 50 := by simpa using ht.symm
          exact (show Tryz.prog.wantsStandIn 50 = false by kernel_rfl)
        · simp at ht⟩)
    (by kernel_rfl)
end Go.Proofs.YtdofolejfdfocaaGreatDoor
