/- Walks: bytes.Repeat of one zero digit. -/
import Derived.Test.YtdopbgnkneeceaaGreatqFmt
import Derived.Test.YtdopbgnkneeceaaGreatqR3
import Derived.Lib.MakeNoZero
import Derived.Lib.BufferWrite
import Derived.Laws.CopyOwn
set_option linter.unusedSectionVars false
set_option linter.unusedVariables false
set_option linter.unusedSimpArgs false
set_option maxRecDepth 100000
namespace Go.Proofs.YtdopbgnkneeceaaGreat
open Go.RowKit Go.Lib
end Go.Proofs.YtdopbgnkneeceaaGreat
