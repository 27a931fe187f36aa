/- Walks. -/
import Derived.Test.YtdopbgnkneeceaaGreatqMem
import Derived.BigQuiet
set_option linter.unusedSectionVars false
set_option linter.unusedVariables false
set_option linter.unusedSimpArgs false
set_option maxRecDepth 100000
namespace Go.Proofs.YtdopbgnkneeceaaGreat
open Go.RowKit
theorem Na{ms:List Nat}(h:Bx ms){k:Nat}(_hk:k≤ms.length)(h0:∀ i,k≤i→ms.getD i 0=0)(h1:k=0 ∨ ms.getD (k - 1) 0≠0):len (val ms)=k:=by
 obtain ⟨e1,e2,e3⟩:=DY h
 rcases Nat.lt_trichotomy (len (val ms)) k with h2 | h2 | h2
 ·rcases h1 with h1 | h1
  ·omega
  ·exact absurd (e3 (k - 1) (by omega)) h1
 ·exact h2
 ·have hp:0<val ms:=by
   rcases Nat.eq_zero_or_pos (val ms) with h | h
   ·rw [h,AX] at h2; omega
   ·exact h
  have:=EM hp;rw [e1] at this;rw [List.getD,List.getElem?_take,if_pos (by omega)] at this;exact absurd (h0 (len (val ms) - 1) (by omega)) this
set_option maxHeartbeats 400000 in
theorem oM(A:Option Addr)(c:Nat)(ms:List Nat)(w:World)(hm:CQ w w.heap.size A ms)(hl:ms.length≤4398046511104)(hc:ms.length≤c)(h32:Bx ms) :
  Calls Tryz.prog 117 #[.slice A ms.length c] w λe w'=>e = .returned (.slice A (len (val ms)) c)∧w=w':=by
 go_enter Tryz.func117,Tryz.ntmps117
 go_wp2
 go_step3
 go_wp2
 go_step3
 go_wp2
 go_loop [3] (λn=>∃ k:Nat,k≤ms.length∧n = .int .i64 k∧∀ i,k≤i→ms.getD i 0=0) (λn=>(intOf n).toNat)
 case atStart=>exact ⟨ms.length,Nat.le_refl _,rfl,λi hi=>by simp [List.getD,List.getElem?_eq_none hi]⟩
 case round =>
  obtain ⟨k,hk,rfl,h0⟩:=hrel
  by_cases hk0:0<k
  ·obtain ⟨ad,rfl,_,hcell⟩:=hm.at_ (show k - 1<ms.length by omega)
   have hcast:((k - 1:Nat):Int)=(k:Int) - 1:=by omega
   have H0:=Lib.hid h0;have HC:=Lib.hid hcast;clear h0 hcast;have hg:ms.getD (k - 1) 0=ms[k-1]:=by simp [List.getD,List.getElem?_eq_getElem (show k - 1<ms.length by omega)]
   have HG:=Lib.hid hg;clear hg
   by_cases hz:ms[k-1]=0
   ·go_wp2
    go_round
    case rel =>
     refine ⟨k - 1,by omega,by rw [HC.out],λi hi=>?_⟩
     rcases Nat.lt_or_ge i k with h | h
     ·have:i=k - 1:=by omega
      rw [this,HG.out,hz]
     ·exact H0.out i h
    case measure=>simp [intOf]; omega
   ·go_wp2
    go_ret
    have hk':len (val ms)=k:=Na h32 hk H0.out (.inr (by rw [HG.out]; exact hz));rw [hk'];exact ⟨rfl,rfl⟩
  ·have hk':k=0:=by omega
   subst hk';have hv:=Na h32 hk h0 (.inl rfl);have HV:=Lib.hid hv;clear hv
   go_wp2
   go_ret
   rw [HV.out];exact ⟨rfl,rfl⟩
end Go.Proofs.YtdopbgnkneeceaaGreat
