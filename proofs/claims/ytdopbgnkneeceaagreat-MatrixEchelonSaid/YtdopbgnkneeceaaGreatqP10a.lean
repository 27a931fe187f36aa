/- Layer 5: entries of the laws. -/
import Derived.Test.YtdopbgnkneeceaaGreatqN24
set_option linter.unusedSectionVars false
set_option linter.unusedVariables false
set_option linter.unusedSimpArgs false
set_option maxRecDepth 100000
namespace Go.Proofs.YtdopbgnkneeceaaGreat
open Go.RowKit
def Gh(o:Option AV):Bool:=match o with
 | some (.val (.bool b))=>b
 | _=>false
theorem Gm{o:Option AV}(h:Gh o=true):o=some (.val (.bool true)):=by
 unfold Gh at h;split at h
 ·rename_i b
  have:b=true:=h;rw [this]
 ·cases h
noncomputable def Mf(F:Fa):PE:=⟨24,λxs=>match xs with
 | [x,y]=>(match FO x,FO y with
  | some p,some q=>if Nat.ble p.2 300000000 && Nat.ble q.2 300000000 then (Iz F.zr (.ap 32 p.1 q.1)).map λb=>.val (.bool b) else none
  | _,_=>none)
 | _=>none⟩
theorem Og{V:VL}{F:Fa}(hF:Bi V F):@PE.ok (Ab V) (Mf F):=by
 intro xs r e;refine ⟨λ_ _=>by simp [Mf,go_sem],λρ M w vs hm0 hv=>?_⟩;unfold Mf at e;dsimp only at e;split at e
 ·rename_i x y
  split at e
  ·rename_i p q hp hq
   split at e
   ·rename_i hc
    rw [Bool.and_eq_true] at hc;obtain ⟨b,hb,rfl⟩:=Option.map_eq_some_iff.1 e;obtain ⟨va,_,rfl,h1,vb,_,rfl,h2,h3⟩:=hv;have h3:_=[]:=h3;subst h3;obtain ⟨a1,a2⟩:=Bn hp (@Bz.rv (Ab V) ρ M w _ _ h1);obtain ⟨b1,b2⟩:=Bn hq (@Bz.rv (Ab V) ρ M w _ _ h2);refine Calls.mono (Adb a1 b1 a2 b2 (Nat.le_of_ble_eq_true hc.1) (Nat.le_of_ble_eq_true hc.2)) λe w' ⟨v,e1,e2,e3⟩=>⟨v,e1,?_,e3⟩
    have hz:=hF.zr _ (Bu hb);dsimp only at hz;have e2:v = .bool (decide (qD V p.1=qD V q.1)):=e2;rw [e2,← hz];show Value.bool _=Value.bool _
    congr 1
    rw [decide_eq_decide];have:qD V (.ap 32 p.1 q.1)=qD V p.1 - qD V q.1:=by simp only [qD]
    rw [this]
    constructor
    ·intro h; rw [h]; grind
    ·intro h; grind
   ·cases e
  ·cases e
 ·cases e
end Go.Proofs.YtdopbgnkneeceaaGreat
