/- Layer 5: the law MatrixRank. -/
import Derived.Test.YtdopbgnkneeceaaGreatqN23
import Derived.Test.YtdopbgnkneeceaaGreatqMs
set_option linter.unusedSectionVars false
set_option linter.unusedVariables false
set_option linter.unusedSimpArgs false
set_option maxRecDepth 100000
namespace Go.Proofs.YtdopbgnkneeceaaGreat
open Go.RowKit
def yN:List AV:=[.ext 1 false (.ap 66 (.i 1 0) (.lit 0)),.ext 1 false (.ap 66 (.i 2 0) (.lit 0)),.ext 1 false (.ap 68 (.v 50) (.lit 0))]
def Aaq:PE:=⟨10,λxs=>match xs with
 | []=>some (.val (.bool true))
 | _=>none⟩
section
variable {zr zc : Int} {l : List Rat} {m : List (List Rat)} {C : Nat}
theorem xC{V:VL}:@PE.ok (Ab V) Aaq:=by
 intro xs r e;refine ⟨λ_ _=>by simp [Aaq,go_sem],λρ M w vs hm0 hv=>?_⟩;unfold Aaq at e;dsimp only at e;split at e
 ·cases e
  have hv:vs=[]:=hv;subst hv;refine Calls.mono (@Ww (Ab V) (@EO.mk (Ab V) _ (@pL (Ab V)) (@KC.no (Ab V)) (@DM (Ab V))) w) λe w' ⟨v,e1,e2,e3⟩=>⟨v,e1,?_,e3⟩
  have e2:v = .bool true:=e2;rw [e2];exact rfl
 ·cases e
end
end Go.Proofs.YtdopbgnkneeceaaGreat
