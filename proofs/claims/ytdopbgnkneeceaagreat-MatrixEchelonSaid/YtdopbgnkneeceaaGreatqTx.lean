/- Walks: Text of numbers below 10^9. -/
import Derived.Test.YtdopbgnkneeceaaGreatqRep0
set_option linter.unusedSectionVars false
set_option linter.unusedVariables false
set_option linter.unusedSimpArgs false
set_option maxRecDepth 100000
namespace Go.Proofs.YtdopbgnkneeceaaGreat
open Go.RowKit
def Aha(b:UInt8):Value:=.int .u8 (b.toNat:Int)
def Fy(w:World)(g:Nat)(bs:List UInt8):Prop:=∃ tl:List Value,w.heap[g]? = some (.cells (bs.map Aha ++ tl).toArray 5 (0,0))
theorem Fy.lt{w:World}{g:Nat}{bs:List UInt8}(h:Fy w g bs):g<w.heap.size:=by
 obtain ⟨tl,h⟩:=h
 rcases Nat.lt_or_ge g w.heap.size with hlt | hge
 ·exact hlt
 ·rw [Array.getElem?_eq_none hge] at h; cases h
theorem Fy.cell{w:World}{g:Nat}{bs:List UInt8}(h:Fy w g bs){i:Nat}(hi:i<bs.length):w.cell? ⟨g,i,none⟩=some (.int .u8 (bs[i].toNat:Int))∧w.frozen? ⟨g,i,none⟩=false:=by
 obtain ⟨tl,h⟩:=h;refine ⟨?_,AA h i⟩;rw [cell_of_row w g i _ _ (0,0) h];simp [List.getElem?_append,hi,Aha]
theorem Fy.below{w w':World}{g:Nat}{bs:List UInt8}(h:Fy w g bs)(hb:Below w.heap.size w w'):Fy w' g bs:=by
 obtain ⟨tl,h'⟩:=h;exact ⟨tl,(hb.block g (Fy.lt ⟨tl,h'⟩)).trans h'⟩
end Go.Proofs.YtdopbgnkneeceaaGreat
