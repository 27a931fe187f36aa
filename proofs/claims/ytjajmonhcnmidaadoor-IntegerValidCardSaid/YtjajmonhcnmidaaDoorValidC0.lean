/- The card of IntegerValid, given the fixed examples: for all limbs, signs and numbers, the law of IntegerValid answers true and leaves its arguments as they were; the tables that it reads are tied to the program's text. No condition. -/
import Derived.Test.YtjajmonhcnmidaaDoorValidL
import Derived.Test.YtjajmonhcnmidaaDoorCards
import Derived.Test.YtjajmonhcnmidaaDoorTie
import Derived.SevenTiedAt
namespace Go.Proofs.YtjajmonhcnmidaaDoor
open Go

theorem valid_card (hS : Sanity) : Rows.IntegerValidCardSaid :=
  Claim7.holds_tied_plain_at .later [] [.data, .data, .data] true Rows.integerValidCard.stood.harness false
    (valid_row hS) (fun _ h => by cases h) (by kernel_rfl) (fun _ h => by cases h) integerValid_row_tie rfl ⟨rfl, rfl⟩ (by kernel_rfl) rfl
    (fun f fn hf hfn => by
      obtain rfl : f = 4 := Option.some.inj ((show Tryd.prog.funcNamed "quadrature/quadraturelaw01.IntegerValid" = some 4 by kernel_rfl).symm.trans hf) |>.symm
      obtain rfl : fn = Tryd.f4 := (Option.some.inj (Tryd.func4.symm.trans hfn)).symm
      exact ⟨by kernel_rfl, fun j t ht => by
        rw [Tryd.params4] at ht
        rcases j with _ | _ | j
        · obtain rfl : t = 24 := by simpa using ht.symm
          exact (show Tryd.prog.wantsStandIn 24 = false by kernel_rfl)
        · obtain rfl : t = 2 := by simpa using ht.symm
          exact (show Tryd.prog.wantsStandIn 2 = false by kernel_rfl)
        · simp at ht⟩)
    (by kernel_rfl)
end Go.Proofs.YtjajmonhcnmidaaDoor
