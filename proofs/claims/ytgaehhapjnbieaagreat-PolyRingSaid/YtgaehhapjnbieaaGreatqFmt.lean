/- Walks: strconv.FormatUint at base 10. -/
import Derived.Test.YtgaehhapjnbieaaGreatShelf
import Derived.Test.YtgaehhapjnbieaaGreatqMem
import Derived.Lib.ItoaMem
namespace Go.Proofs.YtgaehhapjnbieaaGreat
open Go.RowKit Go.Sort Go.Lib
end Go.Proofs.YtgaehhapjnbieaaGreat
