/- Walks: Read at any text. -/
import Derived.Test.YtgaehhapjnbieaaGreatqFrom
import Derived.Test.YtgaehhapjnbieaaGreatqR3
namespace Go.Proofs.YtgaehhapjnbieaaGreat
open Go.RowKit Go.Lib
end Go.Proofs.YtgaehhapjnbieaaGreat
