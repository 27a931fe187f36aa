/- Walks: Text of numbers below 10^9. -/
import Derived.Test.YtgaehhapjnbieaaGreatqR3
import Derived.Test.YtgaehhapjnbieaaGreatqRep0
namespace Go.Proofs.YtgaehhapjnbieaaGreat
open Go.RowKit
end Go.Proofs.YtgaehhapjnbieaaGreat
