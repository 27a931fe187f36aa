/- Walks: the reference's Small. -/
import Derived.Test.YtgaehhapjnbieaaGreatqRPlus
import Derived.Test.YtgaehhapjnbieaaGreatqR3
set_option linter.unusedSectionVars false
set_option linter.unusedVariables false
set_option linter.unusedSimpArgs false
namespace Go.Proofs.YtgaehhapjnbieaaGreat
open Go.RowKit
end Go.Proofs.YtgaehhapjnbieaaGreat
