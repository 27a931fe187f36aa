/- Walks: bytes.Repeat of one zero digit. -/
import Derived.Test.YtegaedfdddapnaaGreatqFmt
import Derived.Test.YtegaedfdddapnaaGreatqR3
import Derived.Lib.MakeNoZero
import Derived.Lib.BufferWrite
import Derived.Laws.CopyOwn
set_option linter.unusedSectionVars false
set_option linter.unusedVariables false
set_option linter.unusedSimpArgs false
set_option maxRecDepth 100000
namespace Go.Proofs.YtegaedfdddapnaaGreat
open Go.RowKit Go.Lib
end Go.Proofs.YtegaedfdddapnaaGreat
