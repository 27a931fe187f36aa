/- Layer 5: Made's runs. -/
import Derived.Test.YtegaedfdddapnaaGreatqN17
set_option linter.unusedSectionVars false
set_option linter.unusedVariables false
set_option linter.unusedSimpArgs false
set_option maxRecDepth 100000
namespace Go.Proofs.YtegaedfdddapnaaGreat
theorem Aha:Vh 4 5 0 7=true:=by kernel_rfl
theorem Agy:Vh 4 5 7 7=true:=by kernel_rfl
theorem AfR:Vh 4 5 14 7=true:=by kernel_rfl
end Go.Proofs.YtegaedfdddapnaaGreat
