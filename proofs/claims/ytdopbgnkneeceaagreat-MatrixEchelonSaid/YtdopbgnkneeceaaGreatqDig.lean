/- Decimal numerals as lists of bytes: which texts are numerals, and their values. No walk. -/
import Derived.Test.YtdopbgnkneeceaaGreatqMem
import Derived.Lib.ItoaMem
set_option linter.unusedSectionVars false
set_option linter.unusedVariables false
set_option linter.unusedSimpArgs false
set_option maxRecDepth 100000
namespace Go.Proofs.YtdopbgnkneeceaaGreat
open Go.Lib
def dgt(b:UInt8):Nat:=b.toNat - 48
def dvA(a:Nat)(l:List UInt8):Nat:=l.foldl (λa b=>10*a+dgt b) a
def dv(l:List UInt8):Nat:=dvA 0 l
end Go.Proofs.YtdopbgnkneeceaaGreat
