/- Knuth's algorithm D: a round of the division, on lists. Plain lemmas, no walk. -/
import Derived.Test.YtdopbgnkneeceaaGreatqR3
import Derived.Test.YtdopbgnkneeceaaGreatShelf
set_option linter.unusedSectionVars false
set_option linter.unusedVariables false
set_option linter.unusedSimpArgs false
set_option maxRecDepth 100000
namespace Go.Proofs.YtdopbgnkneeceaaGreat
open Go.RowKit
theorem Aj9(P x y z:Nat):P*x+P*4294967296*y+P*4294967296*4294967296*z=P*(x+4294967296*(y+4294967296*z)):=by
 rw [Nat.mul_add,Nat.mul_add,Nat.mul_add,← Nat.mul_assoc P,← Nat.mul_assoc 4294967296 4294967296 z,← Nat.mul_assoc P,Nat.mul_assoc P 4294967296 4294967296,Nat.add_assoc]
theorem Ahe(l:List Nat)(m:Nat):val (l.take (m+3))=val (l.take m)+4294967296 ^ m*(l.getD m 0+4294967296*(l.getD (m+1) 0+4294967296*l.getD (m+2) 0)):=by
 have e1:4294967296 ^ (m+1)=4294967296 ^ m*4294967296:=Nat.pow_succ ..;have e2:4294967296 ^ (m+2)=4294967296 ^ m*4294967296*4294967296:=by rw [show m+2=m+1+1 from rfl,Nat.pow_succ,e1]
 rw [show m+3=m+2+1 from rfl,Au,show m+2=m+1+1 from rfl,Au,Au,show m+1+1=m+2 from rfl,e1,e2,← Aj9];omega
theorem Ai2(l:List Nat)(m:Nat):val (l.take (m+2))=val (l.take m)+4294967296 ^ m*(l.getD m 0+4294967296*l.getD (m+1) 0):=by
 rw [show m+2=m+1+1 from rfl,Au,Au,Nat.pow_succ,Nat.mul_add,Nat.mul_assoc,Nat.add_assoc]
theorem hZ{V D T3 D2 B lp ld Q:Nat}(hV:V=lp+B*T3)(hD:D=ld+B*D2)(hlp:lp<B)(hQ:Q*D≤V)(q:Nat)(hq:T3<q*D2):Q<q:=by
 rcases Nat.lt_or_ge Q q with h | h
 ·exact h
 ·exfalso
  have h1:q*D2≤Q*D2:=Nat.mul_le_mul_right _ h;have h2:B*(T3+1)≤B*(Q*D2):=Nat.mul_le_mul_left _ (by omega);have h3:Q*(B*D2)≤Q*D:=Nat.mul_le_mul_left _ (by omega);rw [Nat.mul_left_comm] at h3;rw [Nat.mul_add] at h2;omega
theorem mG{V D T3 D2 B lp ld q:Nat}(hV:V=lp+B*T3)(hD:D=ld+B*D2)(hld:ld<B)(hq:q*D2≤T3)(hq2:q≤D2+1):(q - 1)*D≤V:=by
 rcases Nat.eq_zero_or_pos q with rfl | h0
 ·simp
 ·obtain ⟨m,rfl⟩:∃ m,q=m+1:=⟨q - 1,by omega⟩
  simp only [Nat.add_sub_cancel];have h1:m*D≤m*(B*(D2+1)):=Nat.mul_le_mul_left _ (by rw [Nat.mul_add]; omega);have h2:m*(D2+1)≤T3:=by
   rw [Nat.add_mul] at hq;rw [Nat.mul_add];omega
  have h3:B*(m*(D2+1))≤B*T3:=Nat.mul_le_mul_left _ h2;rw [Nat.mul_left_comm] at h1;omega
theorem rM{V D q:Nat}(h1:q*D≤V)(h2:V<(q+1)*D):V / D=q∧V % D=V - q*D:=by
 have hD:0<D:=by
  rcases Nat.eq_zero_or_pos D with h | h
  ·subst h; simp at h2
  ·exact h
 have e:V / D=q:=by
  rw [Nat.div_eq_iff hD];rw [Nat.add_mul] at h2;omega
 refine ⟨e,?_⟩;have:=Nat.div_add_mod V D;rw [e,Nat.mul_comm] at this;omega
structure I6 (rs X:List Nat) (i n:Nat):Prop where
 r32:Bx rs
 x32:Bx X
 xlen:X.length=n
 n2:2≤n
 len:i+n<rs.length
 low:val (rs.drop (i+1))<val X
 norm:2147483648≤X.getD (n - 1) 0
theorem dO{a b P V x:Nat}(h1:V=a+P*x)(h2:V<b)(h3:b≤P):x=0:=by
 rcases Nat.eq_zero_or_pos x with h | h
 ·exact h
 ·have h4:P*1≤P*x:=Nat.mul_le_mul_left P h
  rw [Nat.mul_one] at h4;omega
theorem I6.tail{rs X:List Nat}{i n:Nat}(h:I6 rs X i n):val (rs.drop (i+(n+1)))=0:=by
 have h1:=CW (rs.drop (i+1)) n (by rw [List.length_drop]; have:=h.len; omega);have h2:=Cv h.x32;rw [h.xlen] at h2;rw [List.drop_drop,show i+1+n=i+(n+1) by omega] at h1;exact dO h1 h.low (Nat.le_of_lt h2)
theorem I6.whole{rs X:List Nat}{i n:Nat}(h:I6 rs X i n):val (rs.drop i)=val ((rs.drop i).take (n+1)):=by
 have h1:=CW (rs.drop i) (n+1) (by rw [List.length_drop]; have:=h.len; omega);rw [List.drop_drop,h.tail,Nat.mul_zero,Nat.add_zero] at h1;exact h1
theorem I6.lt{rs X:List Nat}{i n:Nat}(h:I6 rs X i n):val ((rs.drop i).take (n+1))<4294967296*val X:=by
 rw [← h.whole,CS (by have:=h.len; omega),val];have h1:=h.r32.at_ i;have h2:=h.low;omega
theorem I6.quot{rs X:List Nat}{i n:Nat}(h:I6 rs X i n):val ((rs.drop i).take (n+1)) / val X<4294967296:=by
 have hx:0<val X:=by have:=h.low; omega
 rw [Nat.div_lt_iff_lt_mul hx];exact h.lt
theorem yX{V a P pn r ld d1 d2:Nat}(h1:V=a+P*4294967296*(pn+4294967296*r))(h2:V<ld+P*(d2+4294967296*d1))(h3:ld<P)(h4:d2<4294967296)(hlt:d1<pn):False:=by
 have e1:P*(4294967296*(d1+1))≤P*(4294967296*(pn+4294967296*r)):=Nat.mul_le_mul_left _ (by omega);have e2:P*(d2+4294967296*d1+1)≤P*(4294967296*(d1+1)):=Nat.mul_le_mul_left _ (by omega);rw [Nat.mul_add _ (d2+4294967296*d1) 1,Nat.mul_one] at e2;rw [Nat.mul_assoc] at h1;omega
theorem I6.lead{rs X:List Nat}{i n:Nat}(h:I6 rs X i n):∃(pn pn1 pn2 d1 d2 t B lp ld:Nat),rs.getD (i+n) 0=pn∧rs.getD (i+(n - 1)) 0=pn1∧rs.getD (i+(n - 2)) 0=pn2∧X.getD (n - 1) 0=d1∧X.getD (n - 2) 0=d2 ∧
  pn<4294967296∧pn1<4294967296∧pn2<4294967296∧d1<4294967296∧d2<4294967296∧2147483648≤d1∧pn*4294967296+pn1=t∧t<18446744073709551616∧pn≤d1 ∧
  val ((rs.drop i).take (n+1))=lp+B*(t*4294967296+pn2)∧val X=ld+B*(d1*4294967296+d2)∧lp<B∧ld<B:=by
 obtain ⟨m,rfl⟩:∃ m,n=m+2:=⟨n - 2,by have:=h.n2; omega⟩;have e1:=Ahe (rs.drop i) m;have e2:=Ai2 X m;rw [List.take_of_length_le (show X.length≤m+2 by rw [h.xlen]; exact Nat.le_refl _)] at e2;rw [EH,EH,EH] at e1;have hlp:=Cv ((h.r32.drop i).take m);have hld:=Cv (h.x32.take m);have hl1:((rs.drop i).take m).length=m:=by rw [List.length_take,List.length_drop]; have:=h.len; omega
 have hl2:(X.take m).length=m:=by rw [List.length_take,h.xlen]; omega
 rw [hl1] at hlp;rw [hl2] at hld;have b0:=h.r32.at_ (i+(m+2));have b1:=h.r32.at_ (i+(m+1));have b2:=h.r32.at_ (i+m);have b3:=h.x32.at_ (m+1);have b4:=h.x32.at_ m;have hle:rs.getD (i+(m+2)) 0≤X.getD (m+1) 0:=by
  have h1:=CW (rs.drop (i+1)) (m+1) (by rw [List.length_drop]; have:=h.len; omega);rw [List.drop_drop,show i+1+(m+1)=i+(m+2) by omega,show rs.drop (i+(m+2))=rs.getD (i+(m+2)) 0 :: rs.drop (i+(m+2)+1) from CS (by have:=h.len; omega)] at h1;simp only [val] at h1;have h2:=h.low;rw [e2] at h2
  rcases Nat.lt_or_ge (X.getD (m+1) 0) (rs.getD (i+(m+2)) 0) with hlt | hge
  ·exfalso
   rw [Nat.pow_succ] at h1;exact yX h1 (show val (rs.drop (i+1))<_ from h2) hld b4 hlt
  ·exact hge
 refine ⟨_,_,_,_,_,_,4294967296 ^ m,_,_,rfl,rfl,rfl,rfl,rfl,b0,b1,b2,b3,b4,h.norm,rfl,?_,hle,?_,?_,hlp,hld⟩
 ·simp only [show m+2 - 1=m+1 from rfl]
  omega
 ·rw [e1]
  simp only [show m+2 - 1=m+1 from rfl,show m+2 - 2=m from rfl]
  congr 2
  omega
 ·rw [e2]
  simp only [show m+2 - 1=m+1 from rfl,show m+2 - 2=m from rfl]
  congr 2
  omega
theorem aT{V D q u:Nat}(hu:u+q*D=V)(hQ:V / D≤q)(hD:0<D):q=V / D∧u=V % D:=by
 have h1:q≤V / D:=by rw [Nat.le_div_iff_mul_le hD]; omega
 have e:q=V / D:=by omega
 refine ⟨e,?_⟩;have:=Nat.div_add_mod V D;rw [← e,Nat.mul_comm] at this;omega
theorem eU{V D q u v f E:Nat}(hu:u+q*D=V+E)(huE:u<E)(hv:v+E*f=u+D)(hvE:v<E)(hDE:D<E)(hq:(q - 1)*D≤V):q - 1=V / D∧v=V % D∧0<q:=by
 have h0:0<q:=by
  rcases Nat.eq_zero_or_pos q with rfl | h
  ·omega
  ·exact h
 obtain ⟨m,rfl⟩:∃ m,q=m+1:=⟨q - 1,by omega⟩;simp only [Nat.add_sub_cancel] at hq ⊢;have h2:V<(m+1)*D:=by omega
 obtain ⟨e1,e2⟩:=rM hq h2;refine ⟨e1.symm,?_,h0⟩;rw [e2];rw [Nat.add_mul] at hu h2;have hf:f=1:=by
  rcases Nat.lt_trichotomy f 1 with h | h | h
  ·have:f=0:=by omega
   subst this;omega
  ·exact h
  ·have:=Nat.mul_le_mul_left E (show 2≤f from h)
   omega
 subst hf;omega
theorem lR{T P V D:Nat}(h:D*(V / D)+V % D=V):T+P*V=T+P*(V % D)+P*(V / D*D):=by
 rw [Nat.add_assoc,← Nat.mul_add,Nat.mul_comm (V / D) D,Nat.add_comm (V % D),h]
theorem SK{rs ds X:List Nat}{i n:Nat}(h:I6 rs X i n)(hl:ds.length=rs.length)(ht:ds.take i=rs.take i)(hd:ds.drop (i+(n+1))=rs.drop (i+(n+1)))(hv:val ((ds.drop i).take (n+1))=val ((rs.drop i).take (n+1)) % val X) :
  val (ds.drop i)<val X∧val rs=val ds+4294967296 ^ i*(val ((rs.drop i).take (n+1)) / val X*val X):=by
 have hx:0<val X:=by have:=h.low; omega
 have e1:val (ds.drop i)=val ((rs.drop i).take (n+1)) % val X:=by
  have h1:=CW (ds.drop i) (n+1) (by rw [List.length_drop]; have:=h.len; omega);rw [List.drop_drop,hd,h.tail,hv,Nat.mul_zero,Nat.add_zero] at h1;exact h1
 refine ⟨by rw [e1]; exact Nat.mod_lt _ hx,?_⟩;rw [FH rs i (by have:=h.len; omega),FH ds i (by have:=h.len; omega),ht,e1,h.whole];have:=Nat.div_add_mod (val ((rs.drop i).take (n+1))) (val X);exact lR this
theorem SL{qs:List Nat}{i q:Nat}(hi:i<qs.length):val ((qs.set i q).drop i)=q+4294967296*val (qs.drop (i+1)):=by
 have:=KO qs i 0 q;rw [Nat.add_zero] at this;rw [this,CS hi];rfl
theorem Vu{A2 D i q Q r r':Nat}(h:A2=4294967296 ^ (i+1)*Q*D+r)(hr:r=r'+4294967296 ^ i*(q*D)):A2=4294967296 ^ i*(q+4294967296*Q)*D+r':=by
 rw [Nat.pow_succ] at h;generalize 4294967296 ^ i=P at *;rw [h,hr,Nat.mul_add,Nat.add_mul,Nat.mul_assoc P q D,Nat.mul_assoc P 4294967296 Q];omega
end Go.Proofs.YtdopbgnkneeceaaGreat
