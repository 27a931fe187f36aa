/- Layer 5: Made's runs. -/
import Derived.Test.YtegaedfdddapnaaGreatqN17
set_option linter.unusedSectionVars false
set_option linter.unusedVariables false
set_option linter.unusedSimpArgs false
set_option maxRecDepth 100000
namespace Go.Proofs.YtegaedfdddapnaaGreat
theorem Agb:Rw 3 0 4=true:=by kernel_rfl
theorem AeL:Rw 3 4 1=true:=by kernel_rfl
end Go.Proofs.YtegaedfdddapnaaGreat
