/- The walk of leading: the first 64 bits. -/
import Derived.Test.YtdopbgnkneeceaaGreatqShr
import Derived.Test.YtdopbgnkneeceaaGreatqKnQ
set_option linter.unusedSectionVars false
set_option linter.unusedVariables false
set_option linter.unusedSimpArgs false
set_option maxRecDepth 100000
namespace Go.Proofs.YtdopbgnkneeceaaGreat
open Go.RowKit
theorem AaH{v N h l1 l2 l3:Nat}(hl:len v≤N+3)(h1:(Ae v).getD (N+2) 0=l1)(h2:(Ae v).getD (N+1) 0=l2)(h3:(Ae v).getD N 0=l3)(hh:h<32) :
  v / (2 ^ (32 - h)*4294967296 ^ N)=(l1*4294967296+l2)*2 ^ h+l3 / 2 ^ (32 - h):=by
 have e:=Ahe (Ae v) N;rw [List.take_of_length_le (by rw [Aa]; exact hl),Ao,h1,h2,h3] at e;have hlt:=Cv ((As v).take N);have hle:4294967296 ^ ((Ae v).take N).length≤4294967296 ^ N:=Nat.pow_le_pow_right (by omega) (by rw [List.length_take]; exact Nat.min_le_left _ _);have e2:v / 4294967296 ^ N=l3+4294967296*(l2+4294967296*l1):=by
  rw [e,Nat.add_mul_div_left _ _ (Nat.pow_pos (by omega)),Nat.div_eq_of_lt (Nat.lt_of_lt_of_le hlt hle),Nat.zero_add]
 rw [Nat.mul_comm,← Nat.div_div_eq_div_mul,e2];have e3:4294967296*(l2+4294967296*l1)=2 ^ (32 - h)*((l1*4294967296+l2)*2 ^ h):=by
  rw [Nat.mul_comm _ (2 ^ h),← Nat.mul_assoc,Nat.mul_comm (2 ^ (32 - h)),← FM hh];omega
 rw [e3,Nat.add_mul_div_left _ _ (Nat.pow_pos (by omega))];omega
theorem wR{a l3 h:Nat}(ha:a*2 ^ h<18446744073709551616)(h3:l3<4294967296)(hh:h<32):bits .or .u64 ((a*2 ^ h:Nat):Int) ((l3 / 2 ^ (32 - h):Nat):Int)=((a*2 ^ h+l3 / 2 ^ (32 - h):Nat):Int):=by
 have hlt:l3 / 2 ^ (32 - h)<2 ^ h:=by
  rw [Nat.div_lt_iff_lt_mul (Nat.pow_pos (by omega)),← FM hh];exact h3
 have h2:=OD hh;rw [Gt _ _ (by omega) (by omega)]
 congr 1
 have:=Nat.shiftLeft_add_eq_or_of_lt hlt a;rw [Nat.shiftLeft_eq] at this;exact this.symm
set_option maxHeartbeats 1600000 in
theorem TL(A:Option Addr)(c v N h l1 l2 l3:Nat)(w:World)(hm:CQ w w.heap.size A (Ae v))(hl:len v≤N+3)(hN:N≤1099511627776)(hh:h<32)
  (h1:(Ae v).getD (N+2) 0=l1) (h2:(Ae v).getD (N+1) 0=l2) (h3:(Ae v).getD N 0=l3) (ht:l1*2 ^ h<4294967296) :
  Calls Tryz.prog 137 #[.slice A (len v) c,.int .i64 ((N:Int)+3),.int .i64 h] w λe w'=>e = .returned (.int .u64 ((v / (2 ^ (32 - h)*4294967296 ^ N):Nat):Int))∧∃ k,w'=w.drewN k:=by
 have b1:l1<4294967296:=by have:=(As v).at_ (N+2); rwa [h1] at this
 have b2:l2<4294967296:=by have:=(As v).at_ (N+1); rwa [h2] at this
 have b3:l3<4294967296:=by have:=(As v).at_ N; rwa [h3] at this
 have HE:=Lib.hid (AaH hl h1 h2 h3 hh);have hor:=Fr l1 l2 b1 b2;obtain ⟨a,ea⟩:∃ a,l1*4294967296+l2=a:=⟨_,rfl⟩;have hpow:=OD hh;have ha:a*2 ^ h<18446744073709551616:=by
  rw [← ea,Nat.add_mul,Nat.mul_right_comm];have:=Nat.mul_le_mul (show l2≤4294967295 by omega) (Nat.le_refl (2 ^ h));have h4:(l1*2 ^ h)*4294967296+l2*2 ^ h<(l1*2 ^ h+1)*4294967296+l2*2 ^ h:=by omega
  have hq:l1*2 ^ h+1≤4294967296:=by omega
  have hlow:l2*2 ^ h<4294967296*2 ^ h:=Nat.mul_lt_mul_of_pos_right b2 (Nat.pow_pos (by omega));have hd:2 ^ h ∣ l1*2 ^ h:=Nat.dvd_mul_left _ _;have hd2:2 ^ h ∣ 4294967296:=⟨2 ^ (32 - h),FM hh⟩;have hgap:l1*2 ^ h+2 ^ h≤4294967296:=by
   obtain ⟨m,hm2⟩:=hd2;have:l1<m:=by
    rcases Nat.lt_or_ge l1 m with hm3 | hm3
    ·exact hm3
    ·have:=Nat.mul_le_mul_right (2 ^ h) hm3
     rw [Nat.mul_comm m] at this;omega
   have:=Nat.mul_le_mul_right (2 ^ h) (show l1+1≤m from this);rw [Nat.add_mul,Nat.one_mul,Nat.mul_comm m] at this;omega
  omega
 have hor2:=wR ha b3 hh;have hsh:IntKind.u64.wrap ((a:Int)*2 ^ h)=((a*2 ^ h:Nat):Int):=by
  rw [show (a:Int)*2 ^ h=((a*2 ^ h:Nat):Int) from by rw [Int.natCast_mul,Int.natCast_pow]; rfl];exact Bo _ ha
 rw [ea] at hor;have HM:=Lib.hid hm;have H1:=Lib.hid h1;have H2:=Lib.hid h2;have H3:=Lib.hid h3;have HL:=Lib.hid hl;have HA:=Lib.hid ea;obtain ⟨E,eE⟩:∃ E,v / (2 ^ (32 - h)*4294967296 ^ N)=E:=⟨_,rfl⟩;have hE:=HE.out;rw [eE,HA.out] at hE;rw [← hE] at hor2;rw [eE];clear h1 h2 h3 ea hm hl hpow hE
 go_enter Tryz.func137,Tryz.ntmps137
 go_wp2_with fail
 refine (D_ A (len v) c (Ae v) _ l1 _ (Aa v) HM.out (by have:=HL.out; omega) (by omega) (by omega) (by rw [show ((N:Int)+3 - 1).toNat=N+2 from by omega]; exact H1.out)).mono ?_
 rintro e w1 ⟨rfl,rfl⟩
 go_wp2_with fail
 refine (D_ A (len v) c (Ae v) _ l2 _ (Aa v) HM.out (by have:=HL.out; omega) (by omega) (by omega) (by rw [show ((N:Int)+3 - 2).toNat=N+1 from by omega]; exact H2.out)).mono ?_
 rintro e w1 ⟨rfl,rfl⟩
 go_wp2_with fail
 have hs32:(32:Int) - (h:Int)=((32 - h:Nat):Int):=by omega
 have hi3:((N:Int)+3 - 3).toNat=N:=by omega
 have hi4:IntKind.i64.wrap (N:Int)=(N:Int):=by rw [IntKind.wrap_i64]; omega
 have hd3:(l3:Int) / 2 ^ (32 - h)=((l3 / 2 ^ (32 - h):Nat):Int):=by rw [Int.natCast_ediv,Int.natCast_pow]; rfl
 rw [← hd3,show ((a*2 ^ h:Nat):Int)=(a:Int)*2 ^ h from by rw [Int.natCast_mul,Int.natCast_pow]; rfl] at hor2;obtain ⟨H2,e2⟩:∃ H2,32 - h=H2:=⟨_,rfl⟩;rw [e2] at hor2 hd3 hs32;have hH2:H2≤32:=by omega
 have hw3:IntKind.u64.wrap (l3:Int)=(l3:Int):=by rw [IntKind.wrap_u64]; omega
 have hw4:IntKind.i64.wrap (H2:Int)=(H2:Int):=by rw [IntKind.wrap_i64]; omega
 clear e2 hd3
 go_quiet ((go_at_call 142; exact Calls.quiet_of (AdU A (len v) c (Ae v) _ l3 _ (Aa v) HM.out (by have:=HL.out; omega) (by omega) (by omega) (by rw [Int.toNat_natCast]; exact H3.out))))
 go_wp2
 go_ret
 exact ⟨rfl,_,rfl⟩
structure sT (X0 Y0 x y a1 a2 b1 b2:Nat) (odd:Bool):Prop where
 ex:if odd then x+b1*Y0=a1*X0 else x+a1*X0=b1*Y0
 ey:if odd then y+a2*X0=b2*Y0 else y+b2*Y0=a2*X0
 det:if odd then a1*b2=a2*b1+1 else a2*b1=a1*b2+1
 sum:a1+a2≤b1+b2
 a2b2:a2≤b2
 a1b2:a1≤b2
 b1b2:b1≤b2
 b2pos:1≤b2
 bigX:x*b2+y*b1=X0
 bigY:x*a2+y*a1=Y0
 yx:y≤x
 start:(b1=0∧1≤a1) ∨ (1≤b1∧1≤a2∧a1≤b1)
theorem sT.init{X0 Y0:Nat}(h:Y0≤X0):sT X0 Y0 X0 Y0 1 0 0 1 true:=
 ⟨by simp,by simp,by simp,by omega,by omega,by omega,by omega,by omega,by simp,by simp,h,.inl ⟨rfl,by omega⟩⟩
theorem jO{m ν T x:Nat}(hν:ν<T)(hm:m≤x):m*ν≤T*x:=by
 rw [Nat.mul_comm T];exact Nat.mul_le_mul hm (by omega)
theorem Ly{u v T U0 V0 μ ν x k m:Nat}(hu:u=T*U0+μ)(hv:v=T*V0+ν)(hν:ν<T)(e:x+m*V0=k*U0)(hm:m≤x):∃ X,X+m*v=k*u∧X+m*ν=T*x+k*μ:=by
 have h1:k*u=T*(k*U0)+k*μ:=by rw [hu,Nat.mul_add,Nat.mul_left_comm]
 have h2:m*v=T*(m*V0)+m*ν:=by rw [hv,Nat.mul_add,Nat.mul_left_comm]
 have h3:T*x+T*(m*V0)=T*(k*U0):=by rw [← Nat.mul_add,e]
 have h4:=jO hν hm;exact ⟨T*x+k*μ - m*ν,by omega,by omega⟩
def wV(a b a0 b0 a1 b1:Nat)(odd:Bool):Prop:=
 ∃ A B,(if odd then A+a0*a=b0*b∧B+b1*b=a1*a else A+b0*b=a0*a∧B+a1*a=b1*b)∧Nat.gcd A B=Nat.gcd a b∧A<a∧B<b∧B≤A
theorem RX{a b A B a1 a2 b1 b2:Nat}(ha:a=b2*A+b1*B)(hb:b=a2*A+a1*B)(h1:Nat.gcd a b ∣ A)(h2:Nat.gcd a b ∣ B):Nat.gcd A B=Nat.gcd a b:=by
 apply Nat.dvd_antisymm
 ·have d1:=Nat.gcd_dvd_left A B
  have d2:=Nat.gcd_dvd_right A B;refine Nat.dvd_gcd ?_ ?_
  ·have:=Nat.dvd_add (Nat.dvd_mul_left_of_dvd d1 b2) (Nat.dvd_mul_left_of_dvd d2 b1)
   rwa [← ha] at this
  ·have:=Nat.dvd_add (Nat.dvd_mul_left_of_dvd d1 a2) (Nat.dvd_mul_left_of_dvd d2 a1)
   rwa [← hb] at this
 ·exact Nat.dvd_gcd h1 h2
theorem Gk{d A p q:Nat}(h:A+p=q)(hp:d ∣ p)(hq:d ∣ q):d ∣ A:=by
 have:=Nat.dvd_sub hq hp;rwa [show q - p=A by omega] at this
theorem rows{a b X Y a1 a2 b1 b2:Nat}(e1:X+b1*b=a1*a)(e2:Y+a2*a=b2*b)(hd:a1*b2=a2*b1+1):a=b2*X+b1*Y∧b=a2*X+a1*Y:=by
 have h1:b2*X+b2*(b1*b)=b2*(a1*a):=by rw [← Nat.mul_add,e1]
 have h2:b1*Y+b1*(a2*a)=b1*(b2*b):=by rw [← Nat.mul_add,e2]
 have h3:a2*X+a2*(b1*b)=a2*(a1*a):=by rw [← Nat.mul_add,e1]
 have h4:a1*Y+a1*(a2*a)=a1*(b2*b):=by rw [← Nat.mul_add,e2]
 have k1:b2*(a1*a)=b1*(a2*a)+a:=by
  rw [← Nat.mul_assoc,Nat.mul_comm b2,hd,Nat.add_mul,Nat.one_mul,Nat.mul_comm a2,Nat.mul_assoc]
 have k2:b2*(b1*b)=b1*(b2*b):=Nat.mul_left_comm _ _ _;have k3:a1*(b2*b)=a2*(b1*b)+b:=by
  rw [← Nat.mul_assoc,hd,Nat.add_mul,Nat.one_mul,Nat.mul_assoc]
 have k4:a2*(a1*a)=a1*(a2*a):=Nat.mul_left_comm _ _ _;exact ⟨by omega,by omega⟩
theorem sT.good{a b T X0 Y0 α β x y a1 a2 b1 b2:Nat}{odd:Bool}(h:sT X0 Y0 x y a1 a2 b1 b2 odd)(ha:a=T*X0+α)(hb:b=T*Y0+β)(hα:α<T)(hβ:β<T)
  (t1:b2≤y) (t2:b1+b2≤x - y) (h1:b1≠0):wV a b a1 b1 a2 b2 (!odd):=by
 obtain ⟨ex,ey,det,sum,a2b2,a1b2,b1b2,b2pos,bigX,bigY,yx,start⟩:=h;obtain ⟨s1,s2,s3⟩:1≤b1∧1≤a2∧a1≤b1:=by
  rcases start with h | h
  ·exact absurd h.1 h1
  ·exact h
 have hxy:y+b1+b2≤x:=by omega
 have Txy:T*y+T*b1+T*b2≤T*x:=by
  have:=Nat.mul_le_mul_left T hxy;rwa [Nat.mul_add,Nat.mul_add] at this
 have hX0:x+b1≤X0:=by
  have p1:=Nat.mul_le_mul_left x b2pos;have p2:=Nat.mul_le_mul_right b1 (show 1≤y by omega);omega
 have hY0:y+b2≤Y0:=by
  have p1:=Nat.mul_le_mul_left x s2;omega
 have TX:=Nat.mul_le_mul_left T hX0;have TY:=Nat.mul_le_mul_left T hY0;rw [Nat.mul_add] at TX TY;have q1:b1*α+b1≤T*b1:=by rw [Nat.mul_comm T,← Nat.mul_succ]; exact Nat.mul_le_mul_left b1 hα
 have q2:b1*β+b1≤T*b1:=by rw [Nat.mul_comm T,← Nat.mul_succ]; exact Nat.mul_le_mul_left b1 hβ
 have q3:b2*α+b2≤T*b2:=by rw [Nat.mul_comm T,← Nat.mul_succ]; exact Nat.mul_le_mul_left b2 hα
 have q4:b2*β+b2≤T*b2:=by rw [Nat.mul_comm T,← Nat.mul_succ]; exact Nat.mul_le_mul_left b2 hβ
 have r1:a1*α≤b1*α:=Nat.mul_le_mul_right α s3;have r2:a2*α≤b2*α:=Nat.mul_le_mul_right α a2b2;have r3:(a1+a2)*α≤(b1+b2)*α:=Nat.mul_le_mul_right α sum;rw [Nat.add_mul,Nat.add_mul] at r3
 cases odd
 ·simp only [Bool.false_eq_true,if_false] at ex ey det
  obtain ⟨X,x1,x2⟩:=Ly hb ha hα ex (by omega);obtain ⟨Y,y1,y2⟩:=Ly ha hb hβ ey t1;obtain ⟨e1,e2⟩:=rows (a:=b) (b:=a) (X:=X) (Y:=Y) (a1:=b1) (a2:=b2) (b1:=a1) (b2:=a2) x1 y1 (by rw [Nat.mul_comm b1,Nat.mul_comm b2]; exact det);refine ⟨X,Y,?_,?_,by omega,by omega,by omega⟩
  ·simp only [Bool.not_false,if_true]
   exact ⟨x1,y1⟩
  ·have g1:=Nat.gcd_dvd_left a b
   have g2:=Nat.gcd_dvd_right a b;exact RX e2 e1 (Gk x1 (Nat.dvd_mul_left_of_dvd g1 _) (Nat.dvd_mul_left_of_dvd g2 _)) (Gk y1 (Nat.dvd_mul_left_of_dvd g2 _) (Nat.dvd_mul_left_of_dvd g1 _))
 ·simp only [if_true] at ex ey det
  obtain ⟨X,x1,x2⟩:=Ly ha hb hβ ex (by omega);obtain ⟨Y,y1,y2⟩:=Ly hb ha hα ey (by omega);obtain ⟨e1,e2⟩:=rows (X:=X) (Y:=Y) x1 y1 det;refine ⟨X,Y,?_,?_,by omega,by omega,by omega⟩
  ·simp only [Bool.not_true,Bool.false_eq_true,if_false]
   exact ⟨x1,y1⟩
  ·have g1:=Nat.gcd_dvd_left a b
   have g2:=Nat.gcd_dvd_right a b;exact RX e1 e2 (Gk x1 (Nat.dvd_mul_left_of_dvd g2 _) (Nat.dvd_mul_left_of_dvd g1 _)) (Gk y1 (Nat.dvd_mul_left_of_dvd g1 _) (Nat.dvd_mul_left_of_dvd g2 _))
theorem sT.small{X0 Y0 x y a1 a2 b1 b2:Nat}{odd:Bool}(h:sT X0 Y0 x y a1 a2 b1 b2 odd)(t1:b2≤y)(hX:X0<18446744073709551616):b2<4294967296:=by
 rcases Nat.lt_or_ge b2 4294967296 with h1 | h1
 ·exact h1
 ·have p1:=Nat.mul_le_mul (show 4294967296≤x by have:=h.yx; omega) h1
  have:=h.bigX;omega
theorem sT.next{X0 Y0 x y a1 a2 b1 b2 q r:Nat}{odd:Bool}(h:sT X0 Y0 x y a1 a2 b1 b2 odd)(t1:b2≤y)(_t2:b1+b2≤x - y)(hq:q=x / y)(hr:r=x % y) :
  sT X0 Y0 y r a2 (a1+q*a2) b2 (b1+q*b2) (!odd)∧y*(b1+q*b2)≤X0∧1≤q:=by
 obtain ⟨ex,ey,det,sum,a2b2,a1b2,b1b2,b2pos,bigX,bigY,yx,start⟩:=h;have hy:0<y:=by omega
 have hx:x=q*y+r:=by rw [hq,hr,Nat.mul_comm]; exact (Nat.div_add_mod x y).symm
 have hr':r<y:=by rw [hr]; exact Nat.mod_lt _ hy
 have hq1:1≤q:=by
  rcases Nat.eq_zero_or_pos q with h | h
  ·rw [h] at hx; omega
  ·exact h
 clear hq hr;have m1:a2*1≤q*a2:=by rw [Nat.mul_comm]; exact Nat.mul_le_mul_right a2 hq1
 have m2:b2*1≤q*b2:=by rw [Nat.mul_comm]; exact Nat.mul_le_mul_right b2 hq1
 have m3:q*a2≤q*b2:=Nat.mul_le_mul_left q a2b2;have m4:q*a2+b2≤q*b2+a2:=by
  obtain ⟨k,rfl⟩:∃ k,q=k+1:=⟨q - 1,by omega⟩;have:=Nat.mul_le_mul_left k a2b2;rw [Nat.add_mul,Nat.add_mul,Nat.one_mul,Nat.one_mul];omega
 have bX:y*(b1+q*b2)+r*b2=X0:=by
  rw [← bigX,hx,Nat.mul_add,Nat.add_mul,← Nat.mul_assoc,Nat.mul_comm y q];omega
 have bY:y*(a1+q*a2)+r*a2=Y0:=by
  rw [← bigY,hx,Nat.mul_add,Nat.add_mul,← Nat.mul_assoc,Nat.mul_comm y q];omega
 have hst:1≤a1+q*a2:=by rcases start with h | h <;> omega
 refine ⟨⟨?_,?_,?_,by omega,by omega,by omega,by omega,by omega,bX,bY,by omega,.inr ⟨b2pos,hst,a2b2⟩⟩,by omega,hq1⟩
 ·cases odd
  ·simpa using ey
  ·simpa using ey
 ·cases odd
  ·simp only [Bool.false_eq_true,if_false,Bool.not_false,if_true] at *
   have z1:q*(y+b2*Y0)=q*(a2*X0):=by rw [ey]
   rw [Nat.mul_add,← Nat.mul_assoc,← Nat.mul_assoc] at z1;rw [Nat.add_mul,Nat.add_mul];omega
  ·simp only [if_true,Bool.not_true,Bool.false_eq_true,if_false] at *
   have z1:q*(y+a2*X0)=q*(b2*Y0):=by rw [ey]
   rw [Nat.mul_add,← Nat.mul_assoc,← Nat.mul_assoc] at z1;rw [Nat.add_mul,Nat.add_mul];omega
 ·cases odd
  ·simp only [Bool.false_eq_true,if_false,Bool.not_false,if_true] at *
   rw [Nat.mul_add,Nat.add_mul,Nat.mul_assoc q a2 b2,Nat.mul_left_comm a2 q b2];omega
  ·simp only [if_true,Bool.not_true,Bool.false_eq_true,if_false] at *
   rw [Nat.mul_add,Nat.add_mul,Nat.mul_assoc q a2 b2,Nat.mul_left_comm a2 q b2];omega
end Go.Proofs.YtdopbgnkneeceaaGreat
