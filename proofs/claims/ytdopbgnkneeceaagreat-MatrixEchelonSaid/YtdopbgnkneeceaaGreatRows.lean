/-
  No cell of these rows narrows 'for every input' (looked for: loops, veiled, ifaces, maps, wideKeys, modest, calm, conditions, laid).
  DERIVED. THE GIVEN ROWS OF THIS SEAT. 7 by the template 'for every input the law returns true; each argument reads behind the call as it read before'; 0 by the template 'total and deterministic' (their statements: YtdopbgnkneeceaaGreatTotals.lean).
  GIVEN WITH THE SEED: the statements are not yours to turn. If you find one false, say at which input.
  Laid BY PROGRAM, IN A SANDBOX (cutbox-rows.mjs): the forced cells as the released guide's own fill.sh prints them over the translation d50b0c49ad7a7ae6… (all of the seat's roots in one cut). By AI agents, Wed Nov 11 2026. No macro, syntax, notation, axiom, sorry.
-/
import Derived.Test.YtdopbgnkneeceaaGreatChecked
import GoSem.Claim
import GoSem.ClaimJoined
import GoSem.ClaimMapViews
import Derived.JoinedTies
import Derived.KernelRfl
namespace Go.Proofs.YtdopbgnkneeceaaGreat
/- THE CELL 'sum', in the pinned program and in every row, IS THE sha256 OF THE DUMP (.gsa) THAT YtdopbgnkneeceaaGreatProg.lean LOADS. Nothing in Lean hashes anything: it is a label: what it is worth is what the hold of that sum in a sandbox is worth. -/
noncomputable def Tryz.pinned : Pinned := { name := "ytdopbgnkneeceaagreat", sum := "d50b0c49ad7a7ae62c0e0946bcc5ebb3813aae8c63929e396059c5c6e9784215", checked := Tryz.checked }
namespace Rows
def none {H : Type} : Left H := { results := [], args := [] }

/-- 'quadraturelaw05.MatrixMatchesReference': WHATEVER THE INPUT: true; the input reads as it did. -/
def matrixMatchesReferenceSpec : ChangeSpec := { name := "matrixMatchesReference", fn := fun _ => fun
  | [d1, d2] => { results := [.lit (.bool true)], args := [d1, d2] }
  | _ => none }
def matrixMatchesReferenceRow : OpenClaim := { program := "ytdopbgnkneeceaagreat", sum := "d50b0c49ad7a7ae62c0e0946bcc5ebb3813aae8c63929e396059c5c6e9784215", func := "quadrature/quadraturelaw05.MatrixMatchesReference", spec := "matrixMatchesReference", unfollowed := true, recurses := true, apart := false }
def MatrixMatchesReferenceSaid : Prop := matrixMatchesReferenceRow.holds Tryz.pinned (OpenSpec.ofChange matrixMatchesReferenceSpec)

/-- ITS FALSE NEIGHBOUR: 'it returns false'. Refute it at one input. -/
def matrixMatchesReferenceWrong : ChangeSpec := { name := "matrixMatchesReference", fn := fun _ => fun
  | [d1, d2] => { results := [.lit (.bool false)], args := [d1, d2] }
  | _ => none }
def MatrixMatchesReferenceWrongFalsely : Prop := matrixMatchesReferenceRow.holds Tryz.pinned (OpenSpec.ofChange matrixMatchesReferenceWrong)

/-- 'quadraturelaw05.MatrixNull': WHATEVER THE INPUT: true; the input reads as it did. -/
def matrixNullSpec : ChangeSpec := { name := "matrixNull", fn := fun _ => fun
  | [d] => { results := [.lit (.bool true)], args := [d] }
  | _ => none }
def matrixNullRow : OpenClaim := { program := "ytdopbgnkneeceaagreat", sum := "d50b0c49ad7a7ae62c0e0946bcc5ebb3813aae8c63929e396059c5c6e9784215", func := "quadrature/quadraturelaw05.MatrixNull", spec := "matrixNull", unfollowed := true, recurses := true, apart := false }
def MatrixNullSaid : Prop := matrixNullRow.holds Tryz.pinned (OpenSpec.ofChange matrixNullSpec)

/-- ITS FALSE NEIGHBOUR: 'it returns false'. Refute it at one input. -/
def matrixNullWrong : ChangeSpec := { name := "matrixNull", fn := fun _ => fun
  | [d] => { results := [.lit (.bool false)], args := [d] }
  | _ => none }
def MatrixNullWrongFalsely : Prop := matrixNullRow.holds Tryz.pinned (OpenSpec.ofChange matrixNullWrong)

/-- 'quadraturelaw05.MatrixAlternative': WHATEVER THE INPUT: true; the input reads as it did. -/
def matrixAlternativeSpec : ChangeSpec := { name := "matrixAlternative", fn := fun _ => fun
  | [d1, d2] => { results := [.lit (.bool true)], args := [d1, d2] }
  | _ => none }
def matrixAlternativeRow : OpenClaim := { program := "ytdopbgnkneeceaagreat", sum := "d50b0c49ad7a7ae62c0e0946bcc5ebb3813aae8c63929e396059c5c6e9784215", func := "quadrature/quadraturelaw05.MatrixAlternative", spec := "matrixAlternative", unfollowed := true, recurses := true, apart := false }
def MatrixAlternativeSaid : Prop := matrixAlternativeRow.holds Tryz.pinned (OpenSpec.ofChange matrixAlternativeSpec)

/-- ITS FALSE NEIGHBOUR: 'it returns false'. Refute it at one input. -/
def matrixAlternativeWrong : ChangeSpec := { name := "matrixAlternative", fn := fun _ => fun
  | [d1, d2] => { results := [.lit (.bool false)], args := [d1, d2] }
  | _ => none }
def MatrixAlternativeWrongFalsely : Prop := matrixAlternativeRow.holds Tryz.pinned (OpenSpec.ofChange matrixAlternativeWrong)

/-- 'quadraturelaw05.MatrixConsistent': WHATEVER THE INPUT: true; the input reads as it did. -/
def matrixConsistentSpec : ChangeSpec := { name := "matrixConsistent", fn := fun _ => fun
  | [d1, d2] => { results := [.lit (.bool true)], args := [d1, d2] }
  | _ => none }
def matrixConsistentRow : OpenClaim := { program := "ytdopbgnkneeceaagreat", sum := "d50b0c49ad7a7ae62c0e0946bcc5ebb3813aae8c63929e396059c5c6e9784215", func := "quadrature/quadraturelaw05.MatrixConsistent", spec := "matrixConsistent", unfollowed := true, recurses := true, apart := false }
def MatrixConsistentSaid : Prop := matrixConsistentRow.holds Tryz.pinned (OpenSpec.ofChange matrixConsistentSpec)

/-- ITS FALSE NEIGHBOUR: 'it returns false'. Refute it at one input. -/
def matrixConsistentWrong : ChangeSpec := { name := "matrixConsistent", fn := fun _ => fun
  | [d1, d2] => { results := [.lit (.bool false)], args := [d1, d2] }
  | _ => none }
def MatrixConsistentWrongFalsely : Prop := matrixConsistentRow.holds Tryz.pinned (OpenSpec.ofChange matrixConsistentWrong)

/-- 'quadraturelaw05.MatrixEchelon': WHATEVER THE INPUT: true; the input reads as it did. -/
def matrixEchelonSpec : ChangeSpec := { name := "matrixEchelon", fn := fun _ => fun
  | [d1, d2] => { results := [.lit (.bool true)], args := [d1, d2] }
  | _ => none }
def matrixEchelonRow : OpenClaim := { program := "ytdopbgnkneeceaagreat", sum := "d50b0c49ad7a7ae62c0e0946bcc5ebb3813aae8c63929e396059c5c6e9784215", func := "quadrature/quadraturelaw05.MatrixEchelon", spec := "matrixEchelon", unfollowed := true, recurses := true, apart := false }
def MatrixEchelonSaid : Prop := matrixEchelonRow.holds Tryz.pinned (OpenSpec.ofChange matrixEchelonSpec)

/-- ITS FALSE NEIGHBOUR: 'it returns false'. Refute it at one input. -/
def matrixEchelonWrong : ChangeSpec := { name := "matrixEchelon", fn := fun _ => fun
  | [d1, d2] => { results := [.lit (.bool false)], args := [d1, d2] }
  | _ => none }
def MatrixEchelonWrongFalsely : Prop := matrixEchelonRow.holds Tryz.pinned (OpenSpec.ofChange matrixEchelonWrong)

/-- 'quadraturelaw05.MatrixRank': WHATEVER THE INPUT: true; the input reads as it did. -/
def matrixRankSpec : ChangeSpec := { name := "matrixRank", fn := fun _ => fun
  | [d] => { results := [.lit (.bool true)], args := [d] }
  | _ => none }
def matrixRankRow : OpenClaim := { program := "ytdopbgnkneeceaagreat", sum := "d50b0c49ad7a7ae62c0e0946bcc5ebb3813aae8c63929e396059c5c6e9784215", func := "quadrature/quadraturelaw05.MatrixRank", spec := "matrixRank", unfollowed := true, recurses := true, apart := false }
def MatrixRankSaid : Prop := matrixRankRow.holds Tryz.pinned (OpenSpec.ofChange matrixRankSpec)

/-- ITS FALSE NEIGHBOUR: 'it returns false'. Refute it at one input. -/
def matrixRankWrong : ChangeSpec := { name := "matrixRank", fn := fun _ => fun
  | [d] => { results := [.lit (.bool false)], args := [d] }
  | _ => none }
def MatrixRankWrongFalsely : Prop := matrixRankRow.holds Tryz.pinned (OpenSpec.ofChange matrixRankWrong)

/-- 'quadraturelaw05.MatrixDeterminant': WHATEVER THE INPUT: true; the input reads as it did. -/
def matrixDeterminantSpec : ChangeSpec := { name := "matrixDeterminant", fn := fun _ => fun
  | [d1, d2, d3] => { results := [.lit (.bool true)], args := [d1, d2, d3] }
  | _ => none }
def matrixDeterminantRow : OpenClaim := { program := "ytdopbgnkneeceaagreat", sum := "d50b0c49ad7a7ae62c0e0946bcc5ebb3813aae8c63929e396059c5c6e9784215", func := "quadrature/quadraturelaw05.MatrixDeterminant", spec := "matrixDeterminant", unfollowed := true, recurses := true, apart := false }
def MatrixDeterminantSaid : Prop := matrixDeterminantRow.holds Tryz.pinned (OpenSpec.ofChange matrixDeterminantSpec)

/-- ITS FALSE NEIGHBOUR: 'it returns false'. Refute it at one input. -/
def matrixDeterminantWrong : ChangeSpec := { name := "matrixDeterminant", fn := fun _ => fun
  | [d1, d2, d3] => { results := [.lit (.bool false)], args := [d1, d2, d3] }
  | _ => none }
def MatrixDeterminantWrongFalsely : Prop := matrixDeterminantRow.holds Tryz.pinned (OpenSpec.ofChange matrixDeterminantWrong)

/- THE SECOND FORM. 'bulk': how many values and letters a reading holds, each counted each time it is reached (what is shared counts as often as it is met; a slice's spare places count too). A statement '..UptoSaid' is the law's where the arguments, and the package variables that the reading takes, are together of bulk at most 1048576: NARROWER than '..Said'. Prove '..Said' where nothing that the law and all that it calls make is longer than what came in: it says more and counts as full. Else prove '..UptoSaid'. A law counts once. -/
mutual
def uptoBulk {H : Type} : DataW H → Nat
  | .lit (.string bytes) => bytes.length + 1
  | .lit _ => 1
  | .nil => 1
  | .ptr d => uptoBulk d + 1
  | .slice elems spare => uptoBulkAll elems + uptoBulkAll spare + 1
  | .agg parts => uptoBulkAll parts + 1
  | .iface _ d => uptoBulk d + 1
  | .map entries => uptoBulkEntries entries + 1
  | .held _ => 1
def uptoBulkAll {H : Type} : List (DataW H) → Nat
  | [] => 0
  | d :: r => uptoBulk d + uptoBulkAll r
def uptoBulkEntries {H : Type} : List (Lit × DataW H) → Nat
  | [] => 0
  | x :: r => uptoBulkEntry x + uptoBulkEntries r
def uptoBulkEntry {H : Type} : Lit × DataW H → Nat
  | (.string bytes, d) => bytes.length + uptoBulk d + 1
  | (_, d) => uptoBulk d + 1
 end
def uptoSmall : (H : Type) → List (DataW H) → Bool := fun _ ds => decide (uptoBulkAll ds ≤ 1048576)
def OpenSpec.upto (s : _root_.Go.ChangeSpec) : _root_.Go.OpenSpec := { _root_.Go.OpenSpec.ofChange s with cond := some uptoSmall }

/-- 'quadraturelaw05.MatrixMatchesReference', WHERE WHAT IT READS IS OF BULK AT MOST 1048576: true; the input reads as it did. -/
def matrixMatchesReferenceUptoRow : OpenClaim := { program := "ytdopbgnkneeceaagreat", sum := "d50b0c49ad7a7ae62c0e0946bcc5ebb3813aae8c63929e396059c5c6e9784215", func := "quadrature/quadraturelaw05.MatrixMatchesReference", spec := "matrixMatchesReference", unfollowed := true, recurses := true, apart := false, narrowed := true }
def MatrixMatchesReferenceUptoSaid : Prop := matrixMatchesReferenceUptoRow.holds Tryz.pinned (OpenSpec.upto matrixMatchesReferenceSpec)

/-- 'quadraturelaw05.MatrixNull', WHERE WHAT IT READS IS OF BULK AT MOST 1048576: true; the input reads as it did. -/
def matrixNullUptoRow : OpenClaim := { program := "ytdopbgnkneeceaagreat", sum := "d50b0c49ad7a7ae62c0e0946bcc5ebb3813aae8c63929e396059c5c6e9784215", func := "quadrature/quadraturelaw05.MatrixNull", spec := "matrixNull", unfollowed := true, recurses := true, apart := false, narrowed := true }
def MatrixNullUptoSaid : Prop := matrixNullUptoRow.holds Tryz.pinned (OpenSpec.upto matrixNullSpec)

/-- 'quadraturelaw05.MatrixAlternative', WHERE WHAT IT READS IS OF BULK AT MOST 1048576: true; the input reads as it did. -/
def matrixAlternativeUptoRow : OpenClaim := { program := "ytdopbgnkneeceaagreat", sum := "d50b0c49ad7a7ae62c0e0946bcc5ebb3813aae8c63929e396059c5c6e9784215", func := "quadrature/quadraturelaw05.MatrixAlternative", spec := "matrixAlternative", unfollowed := true, recurses := true, apart := false, narrowed := true }
def MatrixAlternativeUptoSaid : Prop := matrixAlternativeUptoRow.holds Tryz.pinned (OpenSpec.upto matrixAlternativeSpec)

/-- 'quadraturelaw05.MatrixConsistent', WHERE WHAT IT READS IS OF BULK AT MOST 1048576: true; the input reads as it did. -/
def matrixConsistentUptoRow : OpenClaim := { program := "ytdopbgnkneeceaagreat", sum := "d50b0c49ad7a7ae62c0e0946bcc5ebb3813aae8c63929e396059c5c6e9784215", func := "quadrature/quadraturelaw05.MatrixConsistent", spec := "matrixConsistent", unfollowed := true, recurses := true, apart := false, narrowed := true }
def MatrixConsistentUptoSaid : Prop := matrixConsistentUptoRow.holds Tryz.pinned (OpenSpec.upto matrixConsistentSpec)

/-- 'quadraturelaw05.MatrixEchelon', WHERE WHAT IT READS IS OF BULK AT MOST 1048576: true; the input reads as it did. -/
def matrixEchelonUptoRow : OpenClaim := { program := "ytdopbgnkneeceaagreat", sum := "d50b0c49ad7a7ae62c0e0946bcc5ebb3813aae8c63929e396059c5c6e9784215", func := "quadrature/quadraturelaw05.MatrixEchelon", spec := "matrixEchelon", unfollowed := true, recurses := true, apart := false, narrowed := true }
def MatrixEchelonUptoSaid : Prop := matrixEchelonUptoRow.holds Tryz.pinned (OpenSpec.upto matrixEchelonSpec)

/-- 'quadraturelaw05.MatrixRank', WHERE WHAT IT READS IS OF BULK AT MOST 1048576: true; the input reads as it did. -/
def matrixRankUptoRow : OpenClaim := { program := "ytdopbgnkneeceaagreat", sum := "d50b0c49ad7a7ae62c0e0946bcc5ebb3813aae8c63929e396059c5c6e9784215", func := "quadrature/quadraturelaw05.MatrixRank", spec := "matrixRank", unfollowed := true, recurses := true, apart := false, narrowed := true }
def MatrixRankUptoSaid : Prop := matrixRankUptoRow.holds Tryz.pinned (OpenSpec.upto matrixRankSpec)

/-- 'quadraturelaw05.MatrixDeterminant', WHERE WHAT IT READS IS OF BULK AT MOST 1048576: true; the input reads as it did. -/
def matrixDeterminantUptoRow : OpenClaim := { program := "ytdopbgnkneeceaagreat", sum := "d50b0c49ad7a7ae62c0e0946bcc5ebb3813aae8c63929e396059c5c6e9784215", func := "quadrature/quadraturelaw05.MatrixDeterminant", spec := "matrixDeterminant", unfollowed := true, recurses := true, apart := false, narrowed := true }
def MatrixDeterminantUptoSaid : Prop := matrixDeterminantUptoRow.holds Tryz.pinned (OpenSpec.upto matrixDeterminantSpec)

end Rows
end Go.Proofs.YtdopbgnkneeceaaGreat
