/- Walks: strings.Cut at a slash. -/
import Derived.Test.YtdofolejfdfocaaDoorqRead
import Derived.Test.YtdofolejfdfocaaDoorqDivP
import Derived.Lib.IndexLaws
namespace Go.Proofs.YtdofolejfdfocaaDoor
open Go.RowKit Go.Lib

theorem extract_take (l : List UInt8) (e : Nat) : (ByteArray.mk l.toArray).extract 0 e = ⟨(l.take e).toArray⟩ := by
  apply ByteArray.ext
  rw [ByteArray.data_extract]
  apply Array.ext'
  simp
end Go.Proofs.YtdofolejfdfocaaDoor
