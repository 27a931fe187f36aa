/- Texts in the engine: what the operations on strings give, and the contracts of the functions that read and write integers. -/
import Derived.Test.YtdopbgnkneeceaaGreatqCut
import Derived.Test.YtdopbgnkneeceaaGreatqQ2
set_option linter.unusedSectionVars false
set_option linter.unusedVariables false
set_option linter.unusedSimpArgs false
set_option maxRecDepth 100000
namespace Go.Proofs.YtdopbgnkneeceaaGreat
open Go.RowKit
section
open Go.RowKit Go.Lib
section
variable {ρ : Operand → Value} {w : World} {x y : Operand} {a b : List UInt8}
end
section
variable {w : World} {va : Value} {l : List UInt8} {z : Int}
end
end
section
open Go.RowKit
end
section
open Go.Lib
end
section
open Go.Lib
section
variable {w : World} {va vb : Value} {x : Rat} {i : Nat} {z y : Int} {l : List UInt8} {r : Rat}
theorem Adm(h0:(Am (.int .i64 z)).p va w)(h1:(Am (.int .i64 y)).p vb w)(z0 : -9223372036854775808≤z)(z1:z≤9223372036854775807)(y0 : -9223372036854775808≤y)(y1:y≤9223372036854775807)(ny:y≠0):Calls Tryz.prog 40 #[va,vb] w (Aj (An (Rat.divInt z y)) w):=by
 have h0:va=_:=h0;have h1:vb=_:=h1;rw [h0,h1];exact Ka w z0 z1 y0 y1 ny
end
end
end Go.Proofs.YtdopbgnkneeceaaGreat
