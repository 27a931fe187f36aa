/- Layer 5: Made's runs. -/
import Derived.Test.YtdopbgnkneeceaaGreatqN17
set_option linter.unusedSectionVars false
set_option linter.unusedVariables false
set_option linter.unusedSimpArgs false
set_option maxRecDepth 100000
namespace Go.Proofs.YtdopbgnkneeceaaGreat
theorem AeL:Qd 0 0 6=true:=by kernel_rfl
theorem AeC:Qd 1 0 6=true:=by kernel_rfl
theorem AeA:Qd 2 0 6=true:=by kernel_rfl
end Go.Proofs.YtdopbgnkneeceaaGreat
