/- The layer's sanity, as an entry. -/
import Derived.Test.YtgaehhapjnbieaaGreatqWq
set_option linter.unusedSectionVars false
set_option linter.unusedVariables false
set_option linter.unusedSimpArgs false
set_option maxRecDepth 100000
namespace Go.Proofs.YtgaehhapjnbieaaGreat
theorem oD{V:VL}:@PE.ok (Ae V) xA:=by
 refine AO (λ_ _=>by simp [go_sem]) rfl rfl (λp hp=>by cases hp) λM w vs hm0 hv=>?_
 have hv:vs=[]:=hv;subst hv;exact Calls.mono (U3 w) λe w' ⟨v,e1,e2,e3⟩=>⟨v,e1,e2,e3⟩
end Go.Proofs.YtgaehhapjnbieaaGreat
