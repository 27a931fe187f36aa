/- Walks: fromDigits at any digits. -/
import Derived.Test.YtegaedfdddapnaaGreatqR3
import Derived.Test.YtegaedfdddapnaaGreatqNot
set_option linter.unusedSectionVars false
set_option linter.unusedVariables false
set_option linter.unusedSimpArgs false
set_option maxRecDepth 100000
namespace Go.Proofs.YtegaedfdddapnaaGreat
open Go.RowKit Go.Lib
end Go.Proofs.YtegaedfdddapnaaGreat
