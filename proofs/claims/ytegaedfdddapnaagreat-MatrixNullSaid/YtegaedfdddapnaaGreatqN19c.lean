/- Layer 5: Made's runs. -/
import Derived.Test.YtegaedfdddapnaaGreatqN17
set_option linter.unusedSectionVars false
set_option linter.unusedVariables false
set_option linter.unusedSimpArgs false
set_option maxRecDepth 100000
namespace Go.Proofs.YtegaedfdddapnaaGreat
theorem Ag3:Rw 3 5 1=true:=by kernel_rfl
theorem AfB:Rw 4 0 3=true:=by kernel_rfl
end Go.Proofs.YtegaedfdddapnaaGreat
