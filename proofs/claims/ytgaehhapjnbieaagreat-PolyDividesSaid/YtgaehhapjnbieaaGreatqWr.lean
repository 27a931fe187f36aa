/- The layer's sanity, as an entry. -/
import Derived.Test.YtgaehhapjnbieaaGreatqWq
import Derived.Test.YtgaehhapjnbieaaGreatqVm
set_option linter.unusedSectionVars false
set_option linter.unusedVariables false
set_option linter.unusedSimpArgs false
namespace Go.Proofs.YtgaehhapjnbieaaGreat
theorem pd_san_ok {V:VL}:@PE.ok (envD V) pd_san:=by
 refine peOf_ok (fun _ _=>by simp [go_sem]) rfl rfl (fun p hp=>by cases hp) fun M w vs hm0 hv=>?_
 have hv:vs=[]:=hv
 subst hv
 exact Calls.mono (sanity3_any w) fun e w' ⟨v,e1,e2,e3⟩=>⟨v,e1,e2,e3⟩
end Go.Proofs.YtgaehhapjnbieaaGreat
