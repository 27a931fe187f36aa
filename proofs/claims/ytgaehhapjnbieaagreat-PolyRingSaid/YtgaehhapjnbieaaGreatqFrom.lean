/- Walks: fromDigits at any digits. -/
import Derived.Test.YtgaehhapjnbieaaGreatqR3
import Derived.Test.YtgaehhapjnbieaaGreatqNot
namespace Go.Proofs.YtgaehhapjnbieaaGreat
open Go.RowKit Go.Lib
end Go.Proofs.YtgaehhapjnbieaaGreat
