/-
  No cell of these rows narrows 'for every input' (looked for: loops, veiled, ifaces, maps, wideKeys, modest, calm, conditions, laid).
  DERIVED. THE GIVEN ROWS OF THIS SEAT. 7 by the template 'for every input the law returns true; each argument reads behind the call as it read before'; 0 by the template 'total and deterministic' (their statements: YtgaehhapjnbieaaGreatTotals.lean).
  GIVEN WITH THE SEED: the statements are not yours to turn. If you find one false, say at which input.
  Laid BY PROGRAM, IN A SANDBOX (cutbox-rows.mjs): the forced cells as the released guide's own fill.sh prints them over the translation 5bba430af2b4b288… (all of the seat's roots in one cut). By AI agents, Wed Nov 11 2026. No macro, syntax, notation, axiom, sorry.
-/
import Derived.Test.YtgaehhapjnbieaaGreatChecked
import GoSem.Claim
import GoSem.ClaimJoined
import GoSem.ClaimMapViews
import Derived.JoinedTies
import Derived.KernelRfl
namespace Go.Proofs.YtgaehhapjnbieaaGreat
/- THE CELL 'sum', in the pinned program and in every row, IS THE sha256 OF THE DUMP (.gsa) THAT YtgaehhapjnbieaaGreatProg.lean LOADS. Nothing in Lean hashes anything: it is a label: what it is worth is what the hold of that sum in a sandbox is worth. -/
noncomputable def Tryz.pinned : Pinned := { name := "ytgaehhapjnbieaagreat", sum := "5bba430af2b4b2889c5f71ab62ebe1143e2d859a3ed08297e92a362d7803801d", checked := Tryz.checked }
namespace Rows
def none {H : Type} : Left H := { results := [], args := [] }

/-- 'quadraturelaw03.PolyMatchesReference': WHATEVER THE INPUT: true; the input reads as it did. -/
def polyMatchesReferenceSpec : ChangeSpec := { name := "polyMatchesReference", fn := fun _ => fun
  | [d] => { results := [.lit (.bool true)], args := [d] }
  | _ => none }
def polyMatchesReferenceRow : OpenClaim := { program := "ytgaehhapjnbieaagreat", sum := "5bba430af2b4b2889c5f71ab62ebe1143e2d859a3ed08297e92a362d7803801d", func := "quadrature/quadraturelaw03.PolyMatchesReference", spec := "polyMatchesReference", unfollowed := true, recurses := true, apart := false }
def PolyMatchesReferenceSaid : Prop := polyMatchesReferenceRow.holds Tryz.pinned (OpenSpec.ofChange polyMatchesReferenceSpec)

/-- ITS FALSE NEIGHBOUR: 'it returns false'. Refute it at one input. -/
def polyMatchesReferenceWrong : ChangeSpec := { name := "polyMatchesReference", fn := fun _ => fun
  | [d] => { results := [.lit (.bool false)], args := [d] }
  | _ => none }
def PolyMatchesReferenceWrongFalsely : Prop := polyMatchesReferenceRow.holds Tryz.pinned (OpenSpec.ofChange polyMatchesReferenceWrong)

/-- 'quadraturelaw03.PolyRing': WHATEVER THE INPUT: true; the input reads as it did. -/
def polyRingSpec : ChangeSpec := { name := "polyRing", fn := fun _ => fun
  | [d] => { results := [.lit (.bool true)], args := [d] }
  | _ => none }
def polyRingRow : OpenClaim := { program := "ytgaehhapjnbieaagreat", sum := "5bba430af2b4b2889c5f71ab62ebe1143e2d859a3ed08297e92a362d7803801d", func := "quadrature/quadraturelaw03.PolyRing", spec := "polyRing", unfollowed := true, recurses := true, apart := false }
def PolyRingSaid : Prop := polyRingRow.holds Tryz.pinned (OpenSpec.ofChange polyRingSpec)

/-- ITS FALSE NEIGHBOUR: 'it returns false'. Refute it at one input. -/
def polyRingWrong : ChangeSpec := { name := "polyRing", fn := fun _ => fun
  | [d] => { results := [.lit (.bool false)], args := [d] }
  | _ => none }
def PolyRingWrongFalsely : Prop := polyRingRow.holds Tryz.pinned (OpenSpec.ofChange polyRingWrong)

/-- 'quadraturelaw03.PolyDivides': WHATEVER THE INPUT: true; the input reads as it did. -/
def polyDividesSpec : ChangeSpec := { name := "polyDivides", fn := fun _ => fun
  | [d] => { results := [.lit (.bool true)], args := [d] }
  | _ => none }
def polyDividesRow : OpenClaim := { program := "ytgaehhapjnbieaagreat", sum := "5bba430af2b4b2889c5f71ab62ebe1143e2d859a3ed08297e92a362d7803801d", func := "quadrature/quadraturelaw03.PolyDivides", spec := "polyDivides", unfollowed := true, recurses := true, apart := false }
def PolyDividesSaid : Prop := polyDividesRow.holds Tryz.pinned (OpenSpec.ofChange polyDividesSpec)

/-- ITS FALSE NEIGHBOUR: 'it returns false'. Refute it at one input. -/
def polyDividesWrong : ChangeSpec := { name := "polyDivides", fn := fun _ => fun
  | [d] => { results := [.lit (.bool false)], args := [d] }
  | _ => none }
def PolyDividesWrongFalsely : Prop := polyDividesRow.holds Tryz.pinned (OpenSpec.ofChange polyDividesWrong)

/-- 'quadraturelaw03.PolyDerives': WHATEVER THE INPUT: true; the input reads as it did. -/
def polyDerivesSpec : ChangeSpec := { name := "polyDerives", fn := fun _ => fun
  | [d] => { results := [.lit (.bool true)], args := [d] }
  | _ => none }
def polyDerivesRow : OpenClaim := { program := "ytgaehhapjnbieaagreat", sum := "5bba430af2b4b2889c5f71ab62ebe1143e2d859a3ed08297e92a362d7803801d", func := "quadrature/quadraturelaw03.PolyDerives", spec := "polyDerives", unfollowed := true, recurses := true, apart := false }
def PolyDerivesSaid : Prop := polyDerivesRow.holds Tryz.pinned (OpenSpec.ofChange polyDerivesSpec)

/-- ITS FALSE NEIGHBOUR: 'it returns false'. Refute it at one input. -/
def polyDerivesWrong : ChangeSpec := { name := "polyDerives", fn := fun _ => fun
  | [d] => { results := [.lit (.bool false)], args := [d] }
  | _ => none }
def PolyDerivesWrongFalsely : Prop := polyDerivesRow.holds Tryz.pinned (OpenSpec.ofChange polyDerivesWrong)

/-- 'quadraturelaw03.PolyEvaluates': WHATEVER THE INPUT: true; the input reads as it did. -/
def polyEvaluatesSpec : ChangeSpec := { name := "polyEvaluates", fn := fun _ => fun
  | [d1, d2] => { results := [.lit (.bool true)], args := [d1, d2] }
  | _ => none }
def polyEvaluatesRow : OpenClaim := { program := "ytgaehhapjnbieaagreat", sum := "5bba430af2b4b2889c5f71ab62ebe1143e2d859a3ed08297e92a362d7803801d", func := "quadrature/quadraturelaw03.PolyEvaluates", spec := "polyEvaluates", unfollowed := true, recurses := true, apart := false }
def PolyEvaluatesSaid : Prop := polyEvaluatesRow.holds Tryz.pinned (OpenSpec.ofChange polyEvaluatesSpec)

/-- ITS FALSE NEIGHBOUR: 'it returns false'. Refute it at one input. -/
def polyEvaluatesWrong : ChangeSpec := { name := "polyEvaluates", fn := fun _ => fun
  | [d1, d2] => { results := [.lit (.bool false)], args := [d1, d2] }
  | _ => none }
def PolyEvaluatesWrongFalsely : Prop := polyEvaluatesRow.holds Tryz.pinned (OpenSpec.ofChange polyEvaluatesWrong)

/-- 'quadraturelaw03.PolySquarefree': WHATEVER THE INPUT: true; the input reads as it did. -/
def polySquarefreeSpec : ChangeSpec := { name := "polySquarefree", fn := fun _ => fun
  | [d1, d2] => { results := [.lit (.bool true)], args := [d1, d2] }
  | _ => none }
def polySquarefreeRow : OpenClaim := { program := "ytgaehhapjnbieaagreat", sum := "5bba430af2b4b2889c5f71ab62ebe1143e2d859a3ed08297e92a362d7803801d", func := "quadrature/quadraturelaw03.PolySquarefree", spec := "polySquarefree", unfollowed := true, recurses := true, apart := false }
def PolySquarefreeSaid : Prop := polySquarefreeRow.holds Tryz.pinned (OpenSpec.ofChange polySquarefreeSpec)

/-- ITS FALSE NEIGHBOUR: 'it returns false'. Refute it at one input. -/
def polySquarefreeWrong : ChangeSpec := { name := "polySquarefree", fn := fun _ => fun
  | [d1, d2] => { results := [.lit (.bool false)], args := [d1, d2] }
  | _ => none }
def PolySquarefreeWrongFalsely : Prop := polySquarefreeRow.holds Tryz.pinned (OpenSpec.ofChange polySquarefreeWrong)

/-- 'quadraturelaw03.PolyResultant': WHATEVER THE INPUT: true; the input reads as it did. -/
def polyResultantSpec : ChangeSpec := { name := "polyResultant", fn := fun _ => fun
  | [d] => { results := [.lit (.bool true)], args := [d] }
  | _ => none }
def polyResultantRow : OpenClaim := { program := "ytgaehhapjnbieaagreat", sum := "5bba430af2b4b2889c5f71ab62ebe1143e2d859a3ed08297e92a362d7803801d", func := "quadrature/quadraturelaw03.PolyResultant", spec := "polyResultant", unfollowed := true, recurses := true, apart := false }
def PolyResultantSaid : Prop := polyResultantRow.holds Tryz.pinned (OpenSpec.ofChange polyResultantSpec)

/-- ITS FALSE NEIGHBOUR: 'it returns false'. Refute it at one input. -/
def polyResultantWrong : ChangeSpec := { name := "polyResultant", fn := fun _ => fun
  | [d] => { results := [.lit (.bool false)], args := [d] }
  | _ => none }
def PolyResultantWrongFalsely : Prop := polyResultantRow.holds Tryz.pinned (OpenSpec.ofChange polyResultantWrong)

/- THE SECOND FORM. 'bulk': how many values and letters a reading holds, each counted each time it is reached (what is shared counts as often as it is met; a slice's spare places count too). A statement '..UptoSaid' is the law's where the arguments, and the package variables that the reading takes, are together of bulk at most 1048576: NARROWER than '..Said'. Prove '..Said' where nothing that the law and all that it calls make is longer than what came in: it says more and counts as full. Else prove '..UptoSaid'. A law counts once. -/
mutual
def uptoBulk {H : Type} : DataW H → Nat
  | .lit (.string bytes) => bytes.length + 1
  | .lit _ => 1
  | .nil => 1
  | .ptr d => uptoBulk d + 1
  | .slice elems spare => uptoBulkAll elems + uptoBulkAll spare + 1
  | .agg parts => uptoBulkAll parts + 1
  | .iface _ d => uptoBulk d + 1
  | .map entries => uptoBulkEntries entries + 1
  | .held _ => 1
def uptoBulkAll {H : Type} : List (DataW H) → Nat
  | [] => 0
  | d :: r => uptoBulk d + uptoBulkAll r
def uptoBulkEntries {H : Type} : List (Lit × DataW H) → Nat
  | [] => 0
  | x :: r => uptoBulkEntry x + uptoBulkEntries r
def uptoBulkEntry {H : Type} : Lit × DataW H → Nat
  | (.string bytes, d) => bytes.length + uptoBulk d + 1
  | (_, d) => uptoBulk d + 1
 end
def uptoSmall : (H : Type) → List (DataW H) → Bool := fun _ ds => decide (uptoBulkAll ds ≤ 1048576)
def OpenSpec.upto (s : _root_.Go.ChangeSpec) : _root_.Go.OpenSpec := { _root_.Go.OpenSpec.ofChange s with cond := some uptoSmall }

/-- 'quadraturelaw03.PolyMatchesReference', WHERE WHAT IT READS IS OF BULK AT MOST 1048576: true; the input reads as it did. -/
def polyMatchesReferenceUptoRow : OpenClaim := { program := "ytgaehhapjnbieaagreat", sum := "5bba430af2b4b2889c5f71ab62ebe1143e2d859a3ed08297e92a362d7803801d", func := "quadrature/quadraturelaw03.PolyMatchesReference", spec := "polyMatchesReference", unfollowed := true, recurses := true, apart := false, narrowed := true }
def PolyMatchesReferenceUptoSaid : Prop := polyMatchesReferenceUptoRow.holds Tryz.pinned (OpenSpec.upto polyMatchesReferenceSpec)

/-- 'quadraturelaw03.PolyRing', WHERE WHAT IT READS IS OF BULK AT MOST 1048576: true; the input reads as it did. -/
def polyRingUptoRow : OpenClaim := { program := "ytgaehhapjnbieaagreat", sum := "5bba430af2b4b2889c5f71ab62ebe1143e2d859a3ed08297e92a362d7803801d", func := "quadrature/quadraturelaw03.PolyRing", spec := "polyRing", unfollowed := true, recurses := true, apart := false, narrowed := true }
def PolyRingUptoSaid : Prop := polyRingUptoRow.holds Tryz.pinned (OpenSpec.upto polyRingSpec)

/-- 'quadraturelaw03.PolyDivides', WHERE WHAT IT READS IS OF BULK AT MOST 1048576: true; the input reads as it did. -/
def polyDividesUptoRow : OpenClaim := { program := "ytgaehhapjnbieaagreat", sum := "5bba430af2b4b2889c5f71ab62ebe1143e2d859a3ed08297e92a362d7803801d", func := "quadrature/quadraturelaw03.PolyDivides", spec := "polyDivides", unfollowed := true, recurses := true, apart := false, narrowed := true }
def PolyDividesUptoSaid : Prop := polyDividesUptoRow.holds Tryz.pinned (OpenSpec.upto polyDividesSpec)

/-- 'quadraturelaw03.PolyDerives', WHERE WHAT IT READS IS OF BULK AT MOST 1048576: true; the input reads as it did. -/
def polyDerivesUptoRow : OpenClaim := { program := "ytgaehhapjnbieaagreat", sum := "5bba430af2b4b2889c5f71ab62ebe1143e2d859a3ed08297e92a362d7803801d", func := "quadrature/quadraturelaw03.PolyDerives", spec := "polyDerives", unfollowed := true, recurses := true, apart := false, narrowed := true }
def PolyDerivesUptoSaid : Prop := polyDerivesUptoRow.holds Tryz.pinned (OpenSpec.upto polyDerivesSpec)

/-- 'quadraturelaw03.PolyEvaluates', WHERE WHAT IT READS IS OF BULK AT MOST 1048576: true; the input reads as it did. -/
def polyEvaluatesUptoRow : OpenClaim := { program := "ytgaehhapjnbieaagreat", sum := "5bba430af2b4b2889c5f71ab62ebe1143e2d859a3ed08297e92a362d7803801d", func := "quadrature/quadraturelaw03.PolyEvaluates", spec := "polyEvaluates", unfollowed := true, recurses := true, apart := false, narrowed := true }
def PolyEvaluatesUptoSaid : Prop := polyEvaluatesUptoRow.holds Tryz.pinned (OpenSpec.upto polyEvaluatesSpec)

/-- 'quadraturelaw03.PolySquarefree', WHERE WHAT IT READS IS OF BULK AT MOST 1048576: true; the input reads as it did. -/
def polySquarefreeUptoRow : OpenClaim := { program := "ytgaehhapjnbieaagreat", sum := "5bba430af2b4b2889c5f71ab62ebe1143e2d859a3ed08297e92a362d7803801d", func := "quadrature/quadraturelaw03.PolySquarefree", spec := "polySquarefree", unfollowed := true, recurses := true, apart := false, narrowed := true }
def PolySquarefreeUptoSaid : Prop := polySquarefreeUptoRow.holds Tryz.pinned (OpenSpec.upto polySquarefreeSpec)

/-- 'quadraturelaw03.PolyResultant', WHERE WHAT IT READS IS OF BULK AT MOST 1048576: true; the input reads as it did. -/
def polyResultantUptoRow : OpenClaim := { program := "ytgaehhapjnbieaagreat", sum := "5bba430af2b4b2889c5f71ab62ebe1143e2d859a3ed08297e92a362d7803801d", func := "quadrature/quadraturelaw03.PolyResultant", spec := "polyResultant", unfollowed := true, recurses := true, apart := false, narrowed := true }
def PolyResultantUptoSaid : Prop := polyResultantUptoRow.holds Tryz.pinned (OpenSpec.upto polyResultantSpec)

end Rows
end Go.Proofs.YtgaehhapjnbieaaGreat
