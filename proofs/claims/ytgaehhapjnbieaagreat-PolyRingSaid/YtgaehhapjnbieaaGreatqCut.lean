/- Walks: strings.Cut at a slash. -/
import Derived.Test.YtgaehhapjnbieaaGreatqRead
import Derived.Test.YtgaehhapjnbieaaGreatqDivP
import Derived.Lib.IndexLaws
namespace Go.Proofs.YtgaehhapjnbieaaGreat
open Go.RowKit Go.Lib
end Go.Proofs.YtgaehhapjnbieaaGreat
