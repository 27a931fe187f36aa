/- Walks: strconv.FormatUint at base 10. -/
import Derived.Test.YtdopbgnkneeceaaGreatShelf
import Derived.Test.YtdopbgnkneeceaaGreatqMem
import Derived.Lib.ItoaMem
set_option linter.unusedSectionVars false
set_option linter.unusedVariables false
set_option linter.unusedSimpArgs false
set_option maxRecDepth 100000
namespace Go.Proofs.YtdopbgnkneeceaaGreat
open Go.RowKit Go.Sort Go.Lib
end Go.Proofs.YtdopbgnkneeceaaGreat
