/- Layer 5: Made's runs. -/
import Derived.Test.YtdopbgnkneeceaaGreatqN17
set_option linter.unusedSectionVars false
set_option linter.unusedVariables false
set_option linter.unusedSimpArgs false
set_option maxRecDepth 100000
namespace Go.Proofs.YtdopbgnkneeceaaGreat
theorem AdB:Qd 3 0 4=true:=by kernel_rfl
theorem AbG:Qd 3 4 1=true:=by kernel_rfl
end Go.Proofs.YtdopbgnkneeceaaGreat
