/- Walks: the reference's Small. -/
import Derived.Test.YtdofolejfdfocaaGreatDoorqRPlus
import Derived.Test.YtdofolejfdfocaaGreatDoorqR3
namespace Go.Proofs.YtdofolejfdfocaaGreatDoor
open Go.RowKit

end Go.Proofs.YtdofolejfdfocaaGreatDoor
