/- Walks: Pow. -/
import Derived.Test.YtgaehhapjnbieaaGreatqR3
import Derived.Test.YtgaehhapjnbieaaGreatShelf
namespace Go.Proofs.YtgaehhapjnbieaaGreat
open Go.RowKit
theorem bitLen_lt (x : Nat) (hx : x < 18446744073709551616) : x < 2 ^ Lib.bitLen x := by
  induction x using Nat.strongRecOn with
  | _ x ih =>
    rcases Nat.eq_zero_or_pos x with h | h
    · subst h; exact Nat.pow_pos (by decide)
    · rw [Lib.bitLen_half x (by omega) (by simpa using hx), Nat.pow_add]
      have := ih (x / 2) (by omega) (by omega)
      omega
end Go.Proofs.YtgaehhapjnbieaaGreat
