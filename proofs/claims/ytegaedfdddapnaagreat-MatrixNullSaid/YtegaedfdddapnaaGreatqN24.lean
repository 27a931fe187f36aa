/- Layer 5: the law MatrixRank. -/
import Derived.Test.YtegaedfdddapnaaGreatqN23
import Derived.Test.YtegaedfdddapnaaGreatqMs
set_option linter.unusedSectionVars false
set_option linter.unusedVariables false
set_option linter.unusedSimpArgs false
set_option maxRecDepth 100000
namespace Go.Proofs.YtegaedfdddapnaaGreat
open Go.RowKit
def qM:List AV:=[.ext 1 false (.ap 66 (.i 1 0) (.lit 0)),.ext 1 false (.ap 66 (.i 2 0) (.lit 0)),.ext 1 false (.ap 68 (.v 50) (.lit 0))]
def sR:PE:=⟨10,λxs=>match xs with
 | []=>some (.val (.bool true))
 | _=>none⟩
def WC(R C:Nat):PE:=⟨11,λxs=>match xs with
 | [.agg l]=>if GS l qM then some (.tup [aM (Mp 0 R),.val (.int .i64 (C:Int))]) else none
 | _=>none⟩
section
variable {zr zc : Int} {l : List Rat} {m : List (List Rat)} {C : Nat}
theorem oM{V:VL}:@PE.ok (Ab V) sR:=by
 intro xs r e;refine ⟨λ_ _=>by simp [sR,go_sem],λρ M w vs hm0 hv=>?_⟩;unfold sR at e;dsimp only at e;split at e
 ·cases e
  have hv:vs=[]:=hv;subst hv;refine Calls.mono (@Vt (Ab V) (@Fo.mk (Ab V) _ (@fO (Ab V)) (@MD.no (Ab V)) (@DU (Ab V))) w) λe w' ⟨v,e1,e2,e3⟩=>⟨v,e1,?_,e3⟩
  have e2:v = .bool true:=e2;rw [e2];exact rfl
 ·cases e
end
end Go.Proofs.YtegaedfdddapnaaGreat
