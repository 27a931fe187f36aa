/- THE CARD OF IntegerPowers: for all raw integers, of which the law uses at most two limbs and one, and all pairs of exponents, the law of IntegerPowers answers true and leaves its arguments as they were; the tables that it reads are tied to the program's text. No condition. -/
import Derived.Test.YtjajmonhcnmidaaDoorqLift
import Derived.Test.YtjajmonhcnmidaaDoorqPws
import Derived.Test.YtjajmonhcnmidaaDoorqSan
import Derived.Stop.Joined
import Derived.Test.YtjajmonhcnmidaaDoorCards
import Derived.Test.YtjajmonhcnmidaaDoorTie
import Derived.SevenTiedAt
import Derived.WideKeyPair
namespace Go.Proofs.YtjajmonhcnmidaaDoor
open Go.ChangeShapes Go.WideShapes Go.ChangeAt Go.RowKit Go.Joins

theorem arr2Key : WideMaps.ArrKey Tryd.prog 46 3 2 := ⟨Tryd.underlying46, by kernel_rfl, by kernel_rfl, by kernel_rfl⟩
set_option maxRecDepth 100000 in
theorem integerPowers_lifted (os : Os) (started : os.Started) (H : Type) (enc : TypeId × Value → H) :
    ReturnsInHanded {} Tryd.checked os 9 .any (fun w args => (Rows.integerPowersSpec.pre enc Tryd.prog Tryd.f9 [] false w args ∧ laidMet Tryd.prog Rows.integerValidRow.laid w) ∧ sizedMet enc Tryd.prog Tryd.f9 (OpenSpec.ofChange Rows.integerPowersSpec) false w args)
      (Rows.integerPowersSpec.post enc Tryd.prog Tryd.f9 false true false false) := by
  refine returnsInHanded_of_change_and (C := Tryd.checked) (X := fun w _ => laidMet Tryd.prog Rows.integerValidRow.laid w) (fun _ _ _ hh h => h.of_heap hh) ownN started (by kernel_rfl) Tryd.func9
    (ChangeSpec.witness_at (enc := enc) (C := Tryd.checked) (os := os) (X := fun w _ => laidMet Tryd.prog Rows.integerValidRow.laid w) false (laidWorld os) #[.agg #[.slice none 0 0, .bool false], .agg #[.slice none 0 0, .bool false], .agg #[.int .i64 0, .int .i64 0]] 8 rfl (by kernel_rfl) (by kernel_rfl) (by kernel_rfl) (by kernel_rfl) (by kernel_rfl) (laid_met os _)) ?_
  intro W base args ds gs before hval0 hW _ hsz0 hL _
  have hval : ∀ (j : Nat) t v, Tryd.f9.params[j]? = some t → args[j]? = some v → Value.okWide Tryd.prog W .any base t v := hval0
  have hsz : (DataW.weightsEach Tryd.prog (Tryd.f9.params.toList ++ Rows.integerPowersSpec.plain.varTypes Tryd.prog) (ds ++ gs)).all (· ≤ reachBytes) = true := hsz0
  have hW' := hW
  obtain ⟨p, q, hA0, hV0, rfl, hfz, hnd⟩ := hW
  have hA : DataW.TrodAll enc Tryd.prog W 0 (fun _ => true) true Tryd.f9.params.toList args.toList ds p := hA0
  have hV : DataW.TrodVars enc Tryd.prog W (fun _ => true) [] gs q := hV0
  rw [Tryd.params9] at hA hval hsz
  obtain ⟨rfl, rfl⟩ := trodVars_none hV
  obtain ⟨v0, v1, v2, d0, d1, d2, p0, p1, p2, rfl, rfl, rfl, h0, h1, h2⟩ := trodAll_three hA
  have h0k := h0
  have hw0 : ∀ n ∈ d0.weights Tryd.prog 24, n ≤ reachBytes := fun n hn =>
    of_decide_eq_true (List.all_eq_true.1 hsz _ (DataW.weights_mem_each (j := 0) (t := 24) rfl rfl n hn))
  have hlt0 : ∀ x ∈ p0, x.block < W.heap.size := fun x hx => hW'.lt x (by simp [hx])
  obtain ⟨A0, k0, c0, b0, ms0, rfl, hk0, hl0, hc0, h320, hm0, hnil0⟩ := raw_open (hval 0 24 v0 rfl rfl) h0 hw0
  have h1k := h1
  have hw1 : ∀ n ∈ d1.weights Tryd.prog 24, n ≤ reachBytes := fun n hn =>
    of_decide_eq_true (List.all_eq_true.1 hsz _ (DataW.weights_mem_each (j := 1) (t := 24) rfl rfl n hn))
  have hlt1 : ∀ x ∈ p1, x.block < W.heap.size := fun x hx => hW'.lt x (by simp [hx])
  obtain ⟨A1, k1, c1, b1, ms1, rfl, hk1, hl1, hc1, h321, hm1, hnil1⟩ := raw_open (hval 1 24 v1 rfl rfl) h1 hw1
  obtain ⟨x2, y2, rfl, rfl, rfl, wx2, wy2⟩ := WideMaps.open_pair arr2Key Tryd.underlying3 (hval 2 46 v2 rfl rfl) h2
  have wx2k := wx2
  simp [Lit.wf, IntKind.min, IntKind.max, IntKind.signed, IntKind.bits, go_sem] at wx2
  clear hA0 hV0 hval0 hsz0
  refine (Powers_law (fun w h => sanity_any w h) ⟨b0, A0, k0, c0, ms0⟩ ⟨b1, A1, k1, c1, ms1⟩ x2 y2 W ⟨hk0, hm0, hc0, h320, hl0, hnil0⟩ ⟨hk1, hm1, hc1, h321, hl1, hnil1⟩ (p10_of_laid hL) (by omega) (by omega)).mono fun e W' hpost => ?_
  obtain ⟨u, he, hu, hb⟩ := hpost
  have hu : u = .bool true := hu
  subst hu
  subst he
  have e1 : Rows.integerPowersSpec.fn H ([d0, d1, .agg [.lit (.int .i64 x2), .lit (.int .i64 y2)]] ++ []) = { results := [.lit (.bool true)], args := [d0, d1, .agg [.lit (.int .i64 x2), .lit (.int .i64 y2)]] } := by simp [Rows.integerPowersSpec]
  refine ⟨_, rfl, law_post hW' hb ?_ ?_ ?_⟩
  · rw [e1]; exact trodAll_mk1 (shut_bool Tryd.underlying4 true)
  · rw [e1]
    have := trodAll_mk3 (Below.trod laidOutN (by kernel_rfl) (of_decide_eq_true (by kernel_rfl)) h0k hb hlt0) (Below.trod laidOutN (by kernel_rfl) (of_decide_eq_true (by kernel_rfl)) h1k hb hlt1) (WideMaps.shut_pair arr2Key Tryd.underlying3 wx2k wy2)
    simpa using this
  · rw [e1]; rfl

theorem integerPowers_row : Rows.IntegerPowersSaid :=
  OpenClaim.holds_of_wide 9 Tryd.f9 rfl rfl rfl rfl rfl rfl rfl ⟨rfl, rfl, rfl, rfl, rfl⟩ rfl rfl rfl rfl rfl (by kernel_rfl) Tryd.func9 (by kernel_rfl)
    (of_decide_eq_true (by kernel_rfl)) (by unfold Func.isWrapper; rw [if_neg (of_decide_eq_false (by kernel_rfl))]; exact ⟨rfl, rfl⟩)
    (fun os started H enc _ => integerPowers_lifted os started H enc)

theorem integerPowers_holds : Rows.IntegerPowersCardSaid :=
  Claim7.holds_tied_plain_at .later [] [.data, .data, .data] true Rows.integerPowersCard.stood.harness false
    integerPowers_row (fun _ h => by cases h) (by kernel_rfl) (fun _ h => by cases h) integerPowers_row_tie rfl ⟨rfl, rfl⟩ (by kernel_rfl) rfl
    (fun f fn hf hfn => by
      obtain rfl : f = 9 := Option.some.inj ((show Tryd.prog.funcNamed "quadrature/quadraturelaw01.IntegerPowers" = some 9 by kernel_rfl).symm.trans hf) |>.symm
      obtain rfl : fn = Tryd.f9 := (Option.some.inj (Tryd.func9.symm.trans hfn)).symm
      exact ⟨by kernel_rfl, fun j t ht => by
        rw [Tryd.params9] at ht
        rcases j with _ | _ | _ | j
        · obtain rfl : t = 24 := by simpa using ht.symm
          exact (show Tryd.prog.wantsStandIn 24 = false by kernel_rfl)
        · obtain rfl : t = 24 := by simpa using ht.symm
          exact (show Tryd.prog.wantsStandIn 24 = false by kernel_rfl)
        · obtain rfl : t = 46 := by simpa using ht.symm
          exact (show Tryd.prog.wantsStandIn 46 = false by kernel_rfl)
        · simp at ht⟩)
    (by kernel_rfl)
end Go.Proofs.YtjajmonhcnmidaaDoor
