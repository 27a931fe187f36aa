/- Walks: the reference's Small. -/
import Derived.Test.YtgaehhapjnbieaaGreatqRPlus
import Derived.Test.YtgaehhapjnbieaaGreatqR3
namespace Go.Proofs.YtgaehhapjnbieaaGreat
open Go.RowKit
end Go.Proofs.YtgaehhapjnbieaaGreat
