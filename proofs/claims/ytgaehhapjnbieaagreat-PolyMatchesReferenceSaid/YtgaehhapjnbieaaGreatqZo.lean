/- The law PolyDivides: what runs. -/
import Derived.Test.YtgaehhapjnbieaaGreatqYj
import Derived.Test.YtgaehhapjnbieaaGreatqYd
set_option linter.unusedSectionVars false
set_option linter.unusedVariables false
set_option linter.unusedSimpArgs false
set_option maxRecDepth 100000
namespace Go.Proofs.YtgaehhapjnbieaaGreat
open Go.RowKit
section
variable {V : VL} {P : List (AV × AV)} {e e' : CE} {r r' r'' : Nat}
theorem Ai6(hP:∀ p∈P,Le V V p)(sa:∀ y∈lD V e,At y 140000000)(ha:(lD V e).length≤1000000):@PE.ok (Ae V) (BE 17 P [aL e,aL e] (.val (.bool true))):=by
 refine AO (λ_ _=>by simp [go_sem]) rfl rfl hP λM w vs hm0 hv=>?_
 obtain ⟨va,_,rfl,h1,vb,_,rfl,h2,h3⟩:=hv;have h3:_=[]:=h3;subst h3;refine Calls.mono (iF sa sa ha ha hm0 (AL h1) (AL h2)) λe' w' ⟨q1,q2⟩=>⟨.bool true,?_,rfl,q2⟩
 rw [q1,decide_eq_true rfl]
theorem AdG(hP:∀ p∈P,Le V V p){g s t:List Rat}(h:∀(M:Nat→Prop)(w:World)(va vb:Value),(∀ b,M b→b<w.heap.size)→(XP.rats (lD V e)).p M w [va]→(XP.rats (lD V e')).p M w [vb]→VW M w [va,vb] (g,s,t))(hr:V.l r=g)(hr':V.l r'=s)(hr'':V.l r''=t):@PE.ok (Ae V) (BE 15 P [aL e,aL e'] (.tup [aL (.v r),aL (.v r'),aL (.v r'')])):=by
 refine AO (λ_ _=>by simp [go_sem]) rfl rfl hP λM w vs hm0 hv=>?_
 obtain ⟨va,_,rfl,h1,vb,_,rfl,h2,h3⟩:=hv;have h3:_=[]:=h3;subst h3;refine Calls.mono (h _ _ _ _ hm0 (AL h1) (AL h2)) λe w' ⟨v,q1,⟨u1,u2,u3,q2,q3,q4,q5⟩,q6⟩=>⟨v,q1,?_,q6⟩
 rw [q2];refine ⟨_,rfl,u1,_,rfl,Bb (e:=.v r) ?_,u2,_,rfl,Bb (e:=.v r') ?_,u3,_,rfl,Bb (e:=.v r'') ?_,rfl⟩
 ·show (XP.rats (V.l r)).p M w' [u1]
  rw [hr];exact q3
 ·show (XP.rats (V.l r')).p M w' [u2]
  rw [hr'];exact q4
 ·show (XP.rats (V.l r'')).p M w' [u3]
  rw [hr''];exact q5
theorem Aft(hP:∀ p∈P,Le V V p){q s:List Rat}{n:Int}(h:∀(M:Nat→Prop)(w:World)(va vb:Value),(∀ b,M b→b<w.heap.size)→(XP.rats (lD V e)).p M w [va]→(XP.rats (lD V e')).p M w [vb]→Va M w [va,vb] q s n)(hr:V.l r=q)(hr':V.l r'=s):@PE.ok (Ae V) (BE 13 P [aL e,aL e'] (.tup [aL (.v r),aL (.v r'),.val (.int .i64 n)])):=by
 refine AO (λ_ _=>by simp [go_sem]) rfl rfl hP λM w vs hm0 hv=>?_
 obtain ⟨va,_,rfl,h1,vb,_,rfl,h2,h3⟩:=hv;have h3:_=[]:=h3;subst h3;refine Calls.mono (h _ _ _ _ hm0 (AL h1) (AL h2)) λe w' ⟨v,q1,⟨u1,u2,q2,q3,q4⟩,q5⟩=>⟨v,q1,?_,q5⟩
 rw [q2];refine ⟨_,rfl,u1,_,rfl,Bb (e:=.v r) ?_,u2,_,rfl,Bb (e:=.v r') ?_,_,_,rfl,rfl,rfl⟩
 ·show (XP.rats (V.l r)).p M w' [u1]
  rw [hr];exact q3
 ·show (XP.rats (V.l r')).p M w' [u2]
  rw [hr'];exact q4
end
theorem AdH{l k:List Rat}{p q n:Nat}(hp:1≤p)(hq:1≤q)(sl:∀ y∈l,At y p)(sk:∀ y∈k,At y q)(hn:l.length≤n)(h:1+n*(p+q+1)≤99000000):∀ i,i<l.length→∀ j,j<k.length→∀ y∈D_ (BW l k i) (l.getD i 0) k i j,At y 99000000:=λi hi j hj y hy =>
 (aN hp hq sl sk i hi j hj y hy).mono (Nat.le_trans (Nat.add_le_add_left (Nat.mul_le_mul_right _ hn) _) h)
end Go.Proofs.YtgaehhapjnbieaaGreat
