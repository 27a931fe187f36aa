/- Layer 5: Made's runs. -/
import Derived.Test.YtegaedfdddapnaaGreatqN17
set_option linter.unusedSectionVars false
set_option linter.unusedVariables false
set_option linter.unusedSimpArgs false
set_option maxRecDepth 100000
namespace Go.Proofs.YtegaedfdddapnaaGreat
theorem AiE:Rw 0 0 6=true:=by kernel_rfl
theorem AiS:Rw 1 0 6=true:=by kernel_rfl
theorem AiN:Rw 2 0 6=true:=by kernel_rfl
end Go.Proofs.YtegaedfdddapnaaGreat
