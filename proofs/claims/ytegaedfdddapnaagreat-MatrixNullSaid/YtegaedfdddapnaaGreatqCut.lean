/- Walks: strings.Cut at a slash. -/
import Derived.Test.YtegaedfdddapnaaGreatqRead
import Derived.Test.YtegaedfdddapnaaGreatqDivP
import Derived.Lib.IndexLaws
set_option linter.unusedSectionVars false
set_option linter.unusedVariables false
set_option linter.unusedSimpArgs false
set_option maxRecDepth 100000
namespace Go.Proofs.YtegaedfdddapnaaGreat
open Go.RowKit Go.Lib
end Go.Proofs.YtegaedfdddapnaaGreat
