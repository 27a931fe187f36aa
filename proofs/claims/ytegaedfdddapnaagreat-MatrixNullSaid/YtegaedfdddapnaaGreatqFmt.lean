/- Walks: strconv.FormatUint at base 10. -/
import Derived.Test.YtegaedfdddapnaaGreatShelf
import Derived.Test.YtegaedfdddapnaaGreatqMem
import Derived.Lib.ItoaMem
set_option linter.unusedSectionVars false
set_option linter.unusedVariables false
set_option linter.unusedSimpArgs false
set_option maxRecDepth 100000
namespace Go.Proofs.YtegaedfdddapnaaGreat
open Go.RowKit Go.Sort Go.Lib
end Go.Proofs.YtegaedfdddapnaaGreat
