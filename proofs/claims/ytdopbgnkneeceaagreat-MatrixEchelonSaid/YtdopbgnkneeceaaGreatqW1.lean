/- Walks of the smallest functions on limbs. -/
import Derived.Test.YtdopbgnkneeceaaGreatqMem
import Derived.BigQuiet
set_option linter.unusedSectionVars false
set_option linter.unusedVariables false
set_option linter.unusedSimpArgs false
set_option maxRecDepth 100000
namespace Go.Proofs.YtdopbgnkneeceaaGreat
open Go.RowKit
theorem Ky(b:Bool)(w:World):Calls Tryz.prog 135 #[.bool b] w λe w'=>e = .returned (.int .i64 (if b then -1 else 1))∧w=w':=by
 cases b
 all_goals
  go_enter Tryz.func135,Tryz.ntmps135
  go_wp2
  go_ret
  exact ⟨rfl,rfl⟩
set_option maxHeartbeats 400000 in
theorem nN(A:Option Addr)(c:Nat)(ms:List Nat)(i:Nat)(w:World)(hm:CQ w w.heap.size A ms)(_hl:ms.length≤4398046511104)(_hi:i≤4398046511104) :
  Calls Tryz.prog 142 #[.slice A ms.length c,.int .i64 i] w λe w'=>e = .returned (.int .u32 ((ms.getD i 0:Nat):Int))∧w=w':=by
 by_cases hlt:i<ms.length
 ·obtain ⟨ad,rfl,_,hc⟩:=hm.at_ hlt
  have hg:ms.getD i 0=ms[i]:=by simp [List.getD,List.getElem?_eq_getElem hlt]
  have HG:=Lib.hid hg;clear hg
  go_enter Tryz.func142,Tryz.ntmps142
  go_wp2
  go_ret
  rw [HG.out];exact ⟨rfl,rfl⟩
 ·have hg:ms.getD i 0=0:=by simp [List.getD,List.getElem?_eq_none (by omega:ms.length≤i)]
  have HG:=Lib.hid hg;clear hg
  go_enter Tryz.func142,Tryz.ntmps142
  go_wp2
  go_ret
  rw [HG.out];exact ⟨rfl,rfl⟩
theorem D_(A:Option Addr)(n c:Nat)(ms:List Nat)(i:Int)(x:Nat)(w:World)(hn:ms.length=n)(hm:CQ w w.heap.size A ms)(hl:n≤4398046511104)(h0:0≤i)(hi:i≤4398046511104)(hx:ms.getD i.toNat 0=x) :
  Calls Tryz.prog 142 #[.slice A n c,.int .i64 i] w λe w'=>e = .returned (.int .u32 (x:Int))∧w=w':=by
 subst hn hx;obtain ⟨k,rfl⟩:=Int.eq_ofNat_of_zero_le h0;exact nN A c ms k w hm hl (by omega)
end Go.Proofs.YtdopbgnkneeceaaGreat
