/- Walks: Read at any text. -/
import Derived.Test.YtgaehhapjnbieaaGreatqFrom
import Derived.Test.YtgaehhapjnbieaaGreatqR3
set_option linter.unusedSectionVars false
set_option linter.unusedVariables false
set_option linter.unusedSimpArgs false
namespace Go.Proofs.YtgaehhapjnbieaaGreat
open Go.RowKit Go.Lib
end Go.Proofs.YtgaehhapjnbieaaGreat
