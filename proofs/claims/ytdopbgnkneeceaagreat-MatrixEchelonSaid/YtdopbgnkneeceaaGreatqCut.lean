/- Walks: strings.Cut at a slash. -/
import Derived.Test.YtdopbgnkneeceaaGreatqRead
import Derived.Test.YtdopbgnkneeceaaGreatqDivP
import Derived.Lib.IndexLaws
set_option linter.unusedSectionVars false
set_option linter.unusedVariables false
set_option linter.unusedSimpArgs false
set_option maxRecDepth 100000
namespace Go.Proofs.YtdopbgnkneeceaaGreat
open Go.RowKit Go.Lib
end Go.Proofs.YtdopbgnkneeceaaGreat
