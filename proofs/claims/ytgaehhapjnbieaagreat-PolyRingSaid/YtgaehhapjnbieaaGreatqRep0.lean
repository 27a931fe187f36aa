/- Walks: bytes.Repeat of one zero digit. -/
import Derived.Test.YtgaehhapjnbieaaGreatqFmt
import Derived.Test.YtgaehhapjnbieaaGreatqR3
import Derived.Lib.MakeNoZero
import Derived.Lib.BufferWrite
import Derived.Laws.CopyOwn
namespace Go.Proofs.YtgaehhapjnbieaaGreat
open Go.RowKit Go.Lib
end Go.Proofs.YtgaehhapjnbieaaGreat
