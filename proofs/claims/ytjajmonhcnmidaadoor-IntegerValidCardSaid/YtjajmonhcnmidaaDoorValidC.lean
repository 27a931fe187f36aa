/- THE CARD OF IntegerValid: for all limbs, signs and numbers, the law of IntegerValid answers true and leaves its arguments as they were; the tables that it reads are tied to the program's text. No condition. -/
import Derived.Test.YtjajmonhcnmidaaDoorValidC0
import Derived.Test.YtjajmonhcnmidaaDoorSan
namespace Go.Proofs.YtjajmonhcnmidaaDoor
open Go

theorem integerValid_holds : Rows.IntegerValidCardSaid := valid_card fun w h => sanity_any w h
end Go.Proofs.YtjajmonhcnmidaaDoor
