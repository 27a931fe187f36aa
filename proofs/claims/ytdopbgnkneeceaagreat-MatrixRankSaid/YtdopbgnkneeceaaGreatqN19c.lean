/- Layer 5: Made's runs. -/
import Derived.Test.YtdopbgnkneeceaaGreatqN17
set_option linter.unusedSectionVars false
set_option linter.unusedVariables false
set_option linter.unusedSimpArgs false
set_option maxRecDepth 100000
namespace Go.Proofs.YtdopbgnkneeceaaGreat
theorem Ab2:Qd 3 5 1=true:=by kernel_rfl
theorem AcR:Qd 4 0 3=true:=by kernel_rfl
end Go.Proofs.YtdopbgnkneeceaaGreat
