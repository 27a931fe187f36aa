/- The law IntegerGcd answers true, given the fixed examples (written by wip/tools/gen_gcd.py). -/
import Derived.Test.YtdopbgnkneeceaaGreatqAppl
import Derived.Test.YtdopbgnkneeceaaGreatqRDvP
set_option linter.unusedSectionVars false
set_option linter.unusedVariables false
set_option linter.unusedSimpArgs false
set_option maxRecDepth 100000
namespace Go.Proofs.YtdopbgnkneeceaaGreat
open Go.RowKit
theorem Afa{x y:Int}{i j:Nat}{va vb:Value}{w:World}(ha:(Af x).p va w)(hb:(Af y).p vb w)(sx:Sm x i)(sy:Sm y j)(hi:i≤1000000000)(hj:j≤1000000000):Calls Tryz.prog 106 #[va,vb] w (Aj (Af ((Int.gcd x y:Nat):Int)) w):=
 pJ va vb x y w ha hb (by have:=sx.len hi; omega) (by have:=sy.len hj; omega) λu v W hu hv=>SF u v _ _ W hu hv (sx.len hi) (sy.len hj)
theorem AhH{x y:Int}{k:Nat}{va vb:Value}{w:World}(ha:(Af x).p va w)(hb:(Af y).p vb w)(sx:Sm x k)(sy:Sm y k)(hk:k≤400000000):Calls Tryz.prog 111 #[va,vb] w (Aj (Af ((Int.gcd x y:Nat):Int)) w):=iK va vb x y k w ha hb sx sy hk
end Go.Proofs.YtdopbgnkneeceaaGreat
