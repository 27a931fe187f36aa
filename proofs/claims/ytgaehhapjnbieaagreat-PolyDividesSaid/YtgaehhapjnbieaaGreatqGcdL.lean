/- The law IntegerGcd answers true, given the fixed examples (written by wip/tools/gen_gcd.py). -/
import Derived.Test.YtgaehhapjnbieaaGreatqAppl
import Derived.Test.YtgaehhapjnbieaaGreatqRDvP
set_option linter.unusedSectionVars false
set_option linter.unusedVariables false
set_option linter.unusedSimpArgs false
namespace Go.Proofs.YtgaehhapjnbieaaGreat
open Go.RowKit
theorem kGcd {x y:Int} {i j:Nat} {va vb:Value} {w:World} (ha:(intF x).p va w) (hb:(intF y).p vb w) (sx:Sm x i) (sy:Sm y j) (hi:i≤1000000000) (hj:j≤1000000000):Calls Tryz.prog 114 #[va,vb] w (GivesP (intF ((Int.gcd x y:Nat):Int)) w):=
 Gcd_from va vb x y w ha hb (by have:=sx.len hi; omega) (by have:=sy.len hj; omega) fun u v W hu hv=>divisor_any u v _ _ W hu hv (sx.len hi) (sy.len hj)
theorem kRGcd {x y:Int} {k:Nat} {va vb:Value} {w:World} (ha:(intF x).p va w) (hb:(intF y).p vb w) (sx:Sm x k) (sy:Sm y k) (hk:k≤400000000):Calls Tryz.prog 131 #[va,vb] w (GivesP (intF ((Int.gcd x y:Nat):Int)) w):=RGcd_any va vb x y k w ha hb sx sy hk
end Go.Proofs.YtgaehhapjnbieaaGreat
