/- Layer 5: Made's runs. -/
import Derived.Test.YtegaedfdddapnaaGreatqN17
set_option linter.unusedSectionVars false
set_option linter.unusedVariables false
set_option linter.unusedSimpArgs false
set_option maxRecDepth 100000
namespace Go.Proofs.YtegaedfdddapnaaGreat
theorem Ahg:Rw 4 3 1=true:=by kernel_rfl
theorem Ahr:Vh 4 4 0 9=true:=by kernel_rfl
theorem AfZ:Vh 4 4 9 8=true:=by kernel_rfl
end Go.Proofs.YtegaedfdddapnaaGreat
