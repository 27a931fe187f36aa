/- Walks: Pow. -/
import Derived.Test.YtdopbgnkneeceaaGreatqR3
import Derived.Test.YtdopbgnkneeceaaGreatShelf
set_option linter.unusedSectionVars false
set_option linter.unusedVariables false
set_option linter.unusedSimpArgs false
set_option maxRecDepth 100000
namespace Go.Proofs.YtdopbgnkneeceaaGreat
open Go.RowKit
theorem Z2(x:Nat)(hx:x<18446744073709551616):x<2 ^ Lib.bitLen x:=by
 induction x using Nat.strongRecOn with
 | _ x ih =>
  rcases Nat.eq_zero_or_pos x with h | h
  ·subst h; exact Nat.pow_pos (by decide)
  ·rw [Lib.bitLen_half x (by omega) (by simpa using hx),Nat.pow_add]
   have:=ih (x / 2) (by omega) (by omega);omega
def gQ(W:World)(wr:World)(z:Int):Prop:=∃(b:Bool)(A:Option Addr)(k c:Nat),wr.heap[W.heap.size]? = some (.cells #[.bool b,.slice A k c] 34 (0,0))∧Al wr (.agg #[.bool b,.slice A k c]) z∧Below W.heap.size W wr
theorem gQ.cells{W wr:World}{z:Int}(h:gQ W wr z):∃(b:Bool)(A:Option Addr)(k c:Nat),wr.cell? ⟨W.heap.size,0,none⟩=some (.bool b)∧wr.cell? ⟨W.heap.size,1,none⟩=some (.slice A k c)∧wr.frozen? ⟨W.heap.size,0,none⟩=false∧wr.frozen? ⟨W.heap.size,1,none⟩=false∧W.heap.size<wr.heap.size∧Hid (Al wr (.agg #[.bool b,.slice A k c]) z):=by
 obtain ⟨b,A,k,c,hg,hi,hW⟩:=h;obtain ⟨a,b',c',d,e⟩:=Ax hg (Below.refl _ _);exact ⟨b,A,k,c,a,b',c',d,e,hi⟩
end Go.Proofs.YtdopbgnkneeceaaGreat
