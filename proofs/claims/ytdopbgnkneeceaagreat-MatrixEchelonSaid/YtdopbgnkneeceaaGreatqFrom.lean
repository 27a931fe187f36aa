/- Walks: fromDigits at any digits. -/
import Derived.Test.YtdopbgnkneeceaaGreatqR3
import Derived.Test.YtdopbgnkneeceaaGreatqNot
set_option linter.unusedSectionVars false
set_option linter.unusedVariables false
set_option linter.unusedSimpArgs false
set_option maxRecDepth 100000
namespace Go.Proofs.YtdopbgnkneeceaaGreat
open Go.RowKit Go.Lib
end Go.Proofs.YtdopbgnkneeceaaGreat
