/- The law IntegerGcd answers true, given the fixed examples (written by wip/tools/gen_gcd.py). -/
import Derived.Test.YtgaehhapjnbieaaGreatqAppl
import Derived.Test.YtgaehhapjnbieaaGreatqRDvP
set_option linter.unusedSectionVars false
set_option linter.unusedVariables false
set_option linter.unusedSimpArgs false
set_option maxRecDepth 100000
namespace Go.Proofs.YtgaehhapjnbieaaGreat
open Go.RowKit
theorem AcG{x y:Int}{i j:Nat}{va vb:Value}{w:World}(ha:(Ah x).p va w)(hb:(Ah y).p vb w)(sx:Sm x i)(sy:Sm y j)(hi:i≤1000000000)(hj:j≤1000000000):Calls Tryz.prog 114 #[va,vb] w (Ak (Ah ((Int.gcd x y:Nat):Int)) w):=
 xN va vb x y w ha hb (by have:=sx.len hi; omega) (by have:=sy.len hj; omega) λu v W hu hv=>VK u v _ _ W hu hv (sx.len hi) (sy.len hj)
theorem Ani{x y:Int}{k:Nat}{va vb:Value}{w:World}(ha:(Ah x).p va w)(hb:(Ah y).p vb w)(sx:Sm x k)(sy:Sm y k)(hk:k≤400000000):Calls Tryz.prog 131 #[va,vb] w (Ak (Ah ((Int.gcd x y:Nat):Int)) w):=sK va vb x y k w ha hb sx sy hk
end Go.Proofs.YtgaehhapjnbieaaGreat
