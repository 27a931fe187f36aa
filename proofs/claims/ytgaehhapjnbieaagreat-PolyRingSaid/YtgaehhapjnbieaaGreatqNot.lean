/- Walks: isNotation at any text. -/
import Derived.Test.YtgaehhapjnbieaaGreatqDig
import Derived.Test.YtgaehhapjnbieaaGreatqApp
namespace Go.Proofs.YtgaehhapjnbieaaGreat
open Go.RowKit Go.Lib
end Go.Proofs.YtgaehhapjnbieaaGreat
