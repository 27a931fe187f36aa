/- THE CARD OF IntegerOrder: for all raw integers, of which the law uses at most twelve limbs each, the law of IntegerOrder answers true and leaves its arguments as they were; the tables that it reads are tied to the program's text. No condition. -/
import Derived.Test.YtjajmonhcnmidaaDoorLift
import Derived.Test.YtjajmonhcnmidaaDoorOrd
import Derived.Test.YtjajmonhcnmidaaDoorSan
import Derived.Stop.Joined
import Derived.Test.YtjajmonhcnmidaaDoorCards
import Derived.Test.YtjajmonhcnmidaaDoorTie
import Derived.SevenTiedAt
namespace Go.Proofs.YtjajmonhcnmidaaDoor
open Go.ChangeShapes Go.WideShapes Go.ChangeAt Go.RowKit Go.Joins

set_option maxRecDepth 100000 in
theorem order_lifted (os : Os) (started : os.Started) (H : Type) (enc : TypeId × Value → H) :
    ReturnsInHanded {} Tryd.checked os 6 .any (fun w args => (Rows.integerOrderSpec.pre enc Tryd.prog Tryd.f6 [] false w args ∧ laidMet Tryd.prog Rows.integerValidRow.laid w) ∧ sizedMet enc Tryd.prog Tryd.f6 (OpenSpec.ofChange Rows.integerOrderSpec) false w args)
      (Rows.integerOrderSpec.post enc Tryd.prog Tryd.f6 false true false false) := by
  refine returnsInHanded_of_change_and (C := Tryd.checked) (X := fun w _ => laidMet Tryd.prog Rows.integerValidRow.laid w) (fun _ _ _ hh h => h.of_heap hh) ownN started (by kernel_rfl) Tryd.func6
    (ChangeSpec.witness_at (enc := enc) (C := Tryd.checked) (os := os) (X := fun w _ => laidMet Tryd.prog Rows.integerValidRow.laid w) false (laidWorld os) #[.agg #[.slice none 0 0, .bool false], .agg #[.slice none 0 0, .bool false], .agg #[.slice none 0 0, .bool false]] 8 rfl (by kernel_rfl) (by kernel_rfl) (by kernel_rfl) (by kernel_rfl) (by kernel_rfl) (laid_met os _)) ?_
  intro W base args ds gs before hval0 hW _ hsz0 hL _
  have hval : ∀ (j : Nat) t v, Tryd.f6.params[j]? = some t → args[j]? = some v → Value.okWide Tryd.prog W .any base t v := hval0
  have hsz : (DataW.weightsEach Tryd.prog (Tryd.f6.params.toList ++ Rows.integerOrderSpec.plain.varTypes Tryd.prog) (ds ++ gs)).all (· ≤ reachBytes) = true := hsz0
  have hW' := hW
  obtain ⟨p, q, hA0, hV0, rfl, hfz, hnd⟩ := hW
  have hA : DataW.TrodAll enc Tryd.prog W 0 (fun _ => true) true Tryd.f6.params.toList args.toList ds p := hA0
  have hV : DataW.TrodVars enc Tryd.prog W (fun _ => true) [] gs q := hV0
  rw [Tryd.params6] at hA hval hsz
  obtain ⟨rfl, rfl⟩ := trodVars_none hV
  obtain ⟨v0, v1, v2, d0, d1, d2, p0, p1, p2, rfl, rfl, rfl, h0, h1, h2⟩ := trodAll_three hA
  have h0k := h0
  have h1k := h1
  have h2k := h2
  have hw : ∀ (j : Nat) (d : DataW H), ([d0, d1, d2] ++ [])[j]? = some d → ([24, 24, 24] ++ Rows.integerOrderSpec.plain.varTypes Tryd.prog)[j]? = some 24 → ∀ n ∈ d.weights Tryd.prog 24, n ≤ reachBytes := fun j d hd ht n hn =>
    of_decide_eq_true (List.all_eq_true.1 hsz _ (DataW.weights_mem_each ht hd n hn))
  obtain ⟨A, k, c, b, ms, rfl, hk, hl, hc, h32, hm, hnil⟩ := raw_open (hval 0 24 v0 rfl rfl) h0 (hw 0 d0 rfl rfl)
  obtain ⟨A1, k1, c1, b1, ms1, rfl, hk1, hl1, hc1, h321, hm1, hnil1⟩ := raw_open (hval 1 24 v1 rfl rfl) h1 (hw 1 d1 rfl rfl)
  obtain ⟨A2, k2, c2, b2, ms2, rfl, hk2, hl2, hc2, h322, hm2, hnil2⟩ := raw_open (hval 2 24 v2 rfl rfl) h2 (hw 2 d2 rfl rfl)
  have hlt0 : ∀ x ∈ p0, x.block < W.heap.size := fun x hx => hW'.lt x (by simp [hx])
  have hlt1 : ∀ x ∈ p1, x.block < W.heap.size := fun x hx => hW'.lt x (by simp [hx])
  have hlt2 : ∀ x ∈ p2, x.block < W.heap.size := fun x hx => hW'.lt x (by simp [hx])
  clear hA0 hV0 hval0 hsz0
  refine (Order_law (fun w h => sanity_any w h) ⟨b, A, k, c, ms⟩ ⟨b1, A1, k1, c1, ms1⟩ ⟨b2, A2, k2, c2, ms2⟩ W ⟨hk, hm, hc, h32, hl, hnil⟩ ⟨hk1, hm1, hc1, h321, hl1, hnil1⟩ ⟨hk2, hm2, hc2, h322, hl2, hnil2⟩ (p10_of_laid hL)).mono fun e W' ⟨he, hb⟩ => ?_
  subst he
  have e1 : Rows.integerOrderSpec.fn H ([d0, d1, d2] ++ []) = { results := [.lit (.bool true)], args := [d0, d1, d2] } := by simp [Rows.integerOrderSpec]
  refine ⟨_, rfl, law_post hW' hb ?_ ?_ ?_⟩
  · rw [e1]; exact trodAll_mk1 (shut_bool Tryd.underlying4 true)
  · rw [e1]
    have := trodAll_mk3 (Below.trod laidOutN (by kernel_rfl) (of_decide_eq_true (by kernel_rfl)) h0k hb hlt0) (Below.trod laidOutN (by kernel_rfl) (of_decide_eq_true (by kernel_rfl)) h1k hb hlt1) (Below.trod laidOutN (by kernel_rfl) (of_decide_eq_true (by kernel_rfl)) h2k hb hlt2)
    simpa using this
  · rw [e1]; rfl

theorem integerOrder_row : Rows.IntegerOrderSaid :=
  OpenClaim.holds_of_wide 6 Tryd.f6 rfl rfl rfl rfl rfl rfl rfl ⟨rfl, rfl, rfl, rfl, rfl⟩ rfl rfl rfl rfl rfl (by kernel_rfl) Tryd.func6 (by kernel_rfl)
    (of_decide_eq_true (by kernel_rfl)) (by unfold Func.isWrapper; rw [if_neg (of_decide_eq_false (by kernel_rfl))]; exact ⟨rfl, rfl⟩)
    (fun os started H enc _ => order_lifted os started H enc)

theorem integerOrder_holds : Rows.IntegerOrderCardSaid :=
  Claim7.holds_tied_plain_at .later [] [.data, .data, .data] true Rows.integerOrderCard.stood.harness false
    integerOrder_row (fun _ h => by cases h) (by kernel_rfl) (fun _ h => by cases h) integerOrder_row_tie rfl ⟨rfl, rfl⟩ (by kernel_rfl) rfl
    (fun f fn hf hfn => by
      obtain rfl : f = 6 := Option.some.inj ((show Tryd.prog.funcNamed "quadrature/quadraturelaw01.IntegerOrder" = some 6 by kernel_rfl).symm.trans hf) |>.symm
      obtain rfl : fn = Tryd.f6 := (Option.some.inj (Tryd.func6.symm.trans hfn)).symm
      exact ⟨by kernel_rfl, fun j t ht => by
        rw [Tryd.params6] at ht
        have e : t = 24 := by
          rcases j with _ | _ | _ | j
          · simpa using ht.symm
          · simpa using ht.symm
          · simpa using ht.symm
          · simp at ht
        subst e
        exact (show Tryd.prog.wantsStandIn 24 = false by kernel_rfl)⟩)
    (by kernel_rfl)
end Go.Proofs.YtjajmonhcnmidaaDoor
