/- The walk of combine: p x - q y. -/
import Derived.Test.YtdopbgnkneeceaaGreatqKnQ
set_option linter.unusedSectionVars false
set_option linter.unusedVariables false
set_option linter.unusedSimpArgs false
set_option maxRecDepth 100000
namespace Go.Proofs.YtdopbgnkneeceaaGreat
open Go.RowKit
def Cs(w:World)(g N p q:Nat)(X Y:List Nat)(wr:World)(k P M b:Nat):Prop:=
 ∃ ds:List Nat,ds.length=N∧Bx ds∧Cx wr g ds∧val (ds.take k)+4294967296 ^ k*P+q*val (Y.take k)=p*val (X.take k)+4294967296 ^ k*(M+b)∧Below w.heap.size w wr
theorem Cs.start(w:World)(N p q:Nat)(X Y:List Nat):Cs w w.heap.size N p q X Y (w.alloc (B9 (List.replicate N 0))) 0 0 0 0:=
 ⟨_,by simp,Bx.replicate _,Cx.new _ _,by simp [val],Ai _ _⟩
theorem Cs.cell{w wr:World}{g N p q k P M b:Nat}{X Y:List Nat}(h:Cs w g N p q X Y wr k P M b){i:Nat}(hi:i<N):∃ x:Nat,wr.cell? ⟨g,i,none⟩=some (.int .u32 (x:Int))∧wr.frozen? ⟨g,i,none⟩=false:=by
 obtain ⟨ds,hl,h32,hr,he,hb⟩:=h;exact ⟨_,hr.cell (by omega),hr.frozen i⟩
theorem Cs.bel{w wr:World}{g N p q k P M b:Nat}{X Y:List Nat}(h:Cs w g N p q X Y wr k P M b):Below w.heap.size w wr:=by
 obtain ⟨_,_,_,_,_,hb⟩:=h;exact hb
theorem Cs.step{w wr:World}{g N p q k P M b x y S T v b':Nat}{X Y:List Nat}(h:Cs w g N p q X Y wr k P M b)(hk:k<N)(hg:w.heap.size≤g)(hx:X.getD k 0=x)(hy:Y.getD k 0=y)
  (hS:S=P+p*x) (hT:T=M+q*y) (hv:v<4294967296) (e:v+T % 4294967296+b=S % 4294967296+4294967296*b') (u:Int) (hu:u=(v:Int)) :
  Cs w g N p q X Y (wr.setCell ⟨g,k,none⟩ (.int .u32 u)) (k+1) (S / 4294967296) (T / 4294967296) b':=by
 subst hu;obtain ⟨ds,hl,h32,hr,he,hb⟩:=h;refine ⟨ds.set k v,by simpa using hl,h32.set hv,hr.set_ k v,?_,hb.setCell (by simpa using hg) _⟩;rw [BP _ _ _ (by omega),Au X,Au Y,hx,hy,Nat.pow_succ];have key:v+4294967296*(S / 4294967296)+q*y+(M+b)=p*x+P+4294967296*(T / 4294967296+b'):=by
  have h1:=Nat.div_add_mod S 4294967296;have h2:=Nat.div_add_mod T 4294967296;rw [Nat.mul_add];omega
 generalize 4294967296 ^ k=K at *;generalize S / 4294967296=s at *;generalize T / 4294967296+b'=t at *;have h2:K*(v+4294967296*s+q*y+(M+b))=K*(p*x+P+4294967296*t):=by rw [key]
 have e1:q*(val (Y.take k)+K*y)=q*val (Y.take k)+K*(q*y):=by rw [Nat.mul_add,Nat.mul_left_comm]
 have e2:p*(val (X.take k)+K*x)=p*val (X.take k)+K*(p*x):=by rw [Nat.mul_add,Nat.mul_left_comm]
 rw [e1,e2,Nat.mul_assoc K 4294967296 s,Nat.mul_assoc K 4294967296 t];have e3:K*(v+4294967296*s+q*y+(M+b))=K*v+K*(4294967296*s)+K*(q*y)+K*(M+b):=by rw [Nat.mul_add,Nat.mul_add,Nat.mul_add]
 have e4:K*(p*x+P+4294967296*t)=K*(p*x)+K*P+K*(4294967296*t):=by rw [Nat.mul_add,Nat.mul_add]
 omega
theorem Cs.finish{w wr:World}{g N p q P M b z:Nat}{X Y:List Nat}(h:Cs w g N p q X Y wr N P M b)(hX:X.length≤N)(hY:Y.length≤N)(hz:z+q*val Y=p*val X)(hzl:z<4294967296 ^ N) :
  ∃ ds:List Nat,ds.length=N∧Bx ds∧Cx wr g ds∧val ds=z∧Below w.heap.size w wr:=by
 obtain ⟨ds,hl,h32,hr,he,hb⟩:=h;refine ⟨ds,hl,h32,hr,?_,hb⟩;rw [List.take_of_length_le (by omega),List.take_of_length_le hX,List.take_of_length_le hY,← hz] at he;have hv:=Cv h32;rw [hl] at hv;generalize 4294967296 ^ N=K at *;have e:val ds+K*P=z+K*(M+b):=by omega
 rcases Nat.lt_trichotomy P (M+b) with h1 | h1 | h1
 ·have:K*(P+1)≤K*(M+b):=Nat.mul_le_mul_left K h1
  rw [Nat.mul_add,Nat.mul_one] at this;omega
 ·rw [h1] at e; omega
 ·have:K*(M+b+1)≤K*P:=Nat.mul_le_mul_left K h1
  rw [Nat.mul_add,Nat.mul_one] at this;omega
set_option maxHeartbeats 1600000 in
theorem UO(A B:Option Addr)(c d p q x y z:Nat)(w:World)(ha:CQ w w.heap.size A (Ae x))(hb:CQ w w.heap.size B (Ae y))(hp:p<4294967296)(hq:q<4294967296)(hN:len y≤len x)(hl:len x≤1099511627776)(hz:z+q*y=p*x)(hzl:len z≤(len x)) :
  Calls Tryz.prog 141 #[.slice A (len x) c,.int .u64 p,.slice B (len y) d,.int .u64 q] w (CC z w):=by
 have hmk:=λW=>Kw ((len x):Int) (by omega) (by omega) W
 rw [Int.toNat_natCast] at hmk;have hmx:max (len x:Int) (len y:Int)=(len x:Int):=by omega
 have HZ:=Lib.hid hz;have HZL:=Lib.hid hzl;clear hz hzl
 go_enter Tryz.func141,Tryz.ntmps141
 go_wp2_with fail
 go_loopw [10,11,12,23] (λpl mi br i wr=>∃ k P M b:Nat,k≤(len x)∧i = .int .i64 k∧pl = .int .u64 P∧mi = .int .u64 M∧br = .int .u64 b∧P<4294967296∧M<4294967296∧b≤1∧Cs w w.heap.size (len x) p q (Ae x) (Ae y) wr k P M b) (λ_ _ _ i _=>(len x) - (intOf i).toNat)
 case atStart=>exact ⟨0,0,0,0,by omega,rfl,rfl,rfl,rfl,by omega,by omega,by omega,Cs.start _ _ _ _ _ _⟩
 case round =>
  obtain ⟨k,P,M,b,hk,rfl,rfl,rfl,rfl,hP,hM,hb1,hrel⟩:=hrel;have HR:=Lib.hid hrel;clear hrel
  by_cases hlt:k<(len x)
  ·have hx:=(As x).at_ k
   have hy:=(As y).at_ k;obtain ⟨x0,gx⟩:∃ v,(Ae x).getD k 0=v:=⟨_,rfl⟩;obtain ⟨y0,gy⟩:∃ v,(Ae y).getD k 0=v:=⟨_,rfl⟩;rw [gx] at hx;rw [gy] at hy;have GX:=Lib.hid gx;have GY:=Lib.hid gy;clear gx gy;obtain ⟨ox,ho,hf⟩:=HR.out.cell hlt
   go_wp2_with fail
   refine (D_ A (len x) c (Ae x) (k:Int) x0 wr (Aa x) (ha.into HR.out.bel) (by omega) (by omega) (by omega) (by rw [Int.toNat_natCast]; exact GX.out)).mono ?_
   rintro e w1 ⟨rfl,rfl⟩
   have hm:=DX hp hx;have hm0:(0:Int)≤(p:Int)*(x0:Int):=by rw [← Int.natCast_mul]; omega
   have hm1:(p:Int)*(x0:Int)≤18446744065119617025:=by rw [← Int.natCast_mul]; omega
   obtain ⟨S,hS⟩:∃ S,P+p*x0=S:=⟨_,rfl⟩;have hSI:(P:Int)+(p:Int)*(x0:Int)=(S:Int):=by rw [← hS,← Int.natCast_mul]; omega
   have hS64:S<18446744073709551616:=by omega
   have HS:=Lib.hid hS;clear hm hS
   go_wp2_with fail
   refine (D_ B (len y) d (Ae y) (k:Int) y0 _ (Aa y) (hb.into HR.out.bel) (by omega) (by omega) (by omega) (by rw [Int.toNat_natCast]; exact GY.out)).mono ?_
   rintro e w2 ⟨rfl,rfl⟩
   have hm:=DX hq hy;have hn0:(0:Int)≤(q:Int)*(y0:Int):=by rw [← Int.natCast_mul]; omega
   have hn1:(q:Int)*(y0:Int)≤18446744065119617025:=by rw [← Int.natCast_mul]; omega
   obtain ⟨T,hT⟩:∃ T,M+q*y0=T:=⟨_,rfl⟩;have hTI:(M:Int)+(q:Int)*(y0:Int)=(T:Int):=by rw [← hT,← Int.natCast_mul]; omega
   have hT64:T<18446744073709551616:=by omega
   have HT:=Lib.hid hT;clear hm hT;have hand:=GZ S hS64;have hand2:=GZ T hT64;obtain ⟨v,b',hv,hb',hvb,hT1,hT2⟩:=Jh (S % 4294967296) (T % 4294967296) b (by omega) (by omega) hb1;have HVB:=Lib.hid hvb;clear hvb;generalize hlo:S % 4294967296=lo at *;generalize hlo2:T % 4294967296=lo2 at *;have HLO:=Lib.hid hlo;have HLO2:=Lib.hid hlo2;clear hlo hlo2
   go_wp2_with fail
   go_roundw
   case rel=>exact ⟨k+1,S / 4294967296,T / 4294967296,b',by omega,by go_num,by go_num,by go_num,rfl,by omega,by omega,hb',HR.out.step hlt (Nat.le_refl _) GX.out GY.out HS.out.symm HT.out.symm hv (by rw [HLO.out,HLO2.out]; exact HVB.out) _ rfl⟩
   case measure=>simp [intOf]; omega
  ·have hk':k=(len x):=by omega
   subst hk';obtain ⟨ds,hl',h32,hr,he,hbel⟩:=HR.out.finish (z:=z) (by rw [Aa]; omega) (by rw [Aa]; omega) (by rw [Ao,Ao]; exact HZ.out) (Nat.lt_of_lt_of_le (BG z) (Nat.pow_le_pow_right (by omega) HZL.out));have HE:=Lib.hid he;clear he
   go_wp2_with fail
   refine (Dg _ _ _ ds _ hl' (hr.mem hr.lt) (by omega) (by omega) h32).mono ?_
   rintro e w1 ⟨rfl,rfl⟩
   go_wp2
   go_ret
   refine ⟨_,rfl,?_,hbel⟩;have:=hr.nat h32 (c:=len x) (by omega);rw [HE.out] at this;rw [HE.out];exact this
set_option maxHeartbeats 1600000 in
theorem UW(A B:Option Addr)(c d p q x y z:Nat)(w:World)(ha:CQ w w.heap.size A (Ae x))(hb:CQ w w.heap.size B (Ae y))(hp:p<4294967296)(hq:q<4294967296)(hN:len x<len y)(hl:len y≤1099511627776)(hz:z+q*y=p*x)(hzl:len z≤(len y)) :
  Calls Tryz.prog 141 #[.slice A (len x) c,.int .u64 p,.slice B (len y) d,.int .u64 q] w (CC z w):=by
 have hmk:=λW=>Kw ((len y):Int) (by omega) (by omega) W
 rw [Int.toNat_natCast] at hmk;have hmx:max (len x:Int) (len y:Int)=(len y:Int):=by omega
 have HZ:=Lib.hid hz;have HZL:=Lib.hid hzl;clear hz hzl
 go_enter Tryz.func141,Tryz.ntmps141
 go_wp2_with fail
 go_loopw [10,11,12,23] (λpl mi br i wr=>∃ k P M b:Nat,k≤(len y)∧i = .int .i64 k∧pl = .int .u64 P∧mi = .int .u64 M∧br = .int .u64 b∧P<4294967296∧M<4294967296∧b≤1∧Cs w w.heap.size (len y) p q (Ae x) (Ae y) wr k P M b) (λ_ _ _ i _=>(len y) - (intOf i).toNat)
 case atStart=>exact ⟨0,0,0,0,by omega,rfl,rfl,rfl,rfl,by omega,by omega,by omega,Cs.start _ _ _ _ _ _⟩
 case round =>
  obtain ⟨k,P,M,b,hk,rfl,rfl,rfl,rfl,hP,hM,hb1,hrel⟩:=hrel;have HR:=Lib.hid hrel;clear hrel
  by_cases hlt:k<(len y)
  ·have hx:=(As x).at_ k
   have hy:=(As y).at_ k;obtain ⟨x0,gx⟩:∃ v,(Ae x).getD k 0=v:=⟨_,rfl⟩;obtain ⟨y0,gy⟩:∃ v,(Ae y).getD k 0=v:=⟨_,rfl⟩;rw [gx] at hx;rw [gy] at hy;have GX:=Lib.hid gx;have GY:=Lib.hid gy;clear gx gy;obtain ⟨ox,ho,hf⟩:=HR.out.cell hlt
   go_wp2_with fail
   refine (D_ A (len x) c (Ae x) (k:Int) x0 wr (Aa x) (ha.into HR.out.bel) (by omega) (by omega) (by omega) (by rw [Int.toNat_natCast]; exact GX.out)).mono ?_
   rintro e w1 ⟨rfl,rfl⟩
   have hm:=DX hp hx;have hm0:(0:Int)≤(p:Int)*(x0:Int):=by rw [← Int.natCast_mul]; omega
   have hm1:(p:Int)*(x0:Int)≤18446744065119617025:=by rw [← Int.natCast_mul]; omega
   obtain ⟨S,hS⟩:∃ S,P+p*x0=S:=⟨_,rfl⟩;have hSI:(P:Int)+(p:Int)*(x0:Int)=(S:Int):=by rw [← hS,← Int.natCast_mul]; omega
   have hS64:S<18446744073709551616:=by omega
   have HS:=Lib.hid hS;clear hm hS
   go_wp2_with fail
   refine (D_ B (len y) d (Ae y) (k:Int) y0 _ (Aa y) (hb.into HR.out.bel) (by omega) (by omega) (by omega) (by rw [Int.toNat_natCast]; exact GY.out)).mono ?_
   rintro e w2 ⟨rfl,rfl⟩
   have hm:=DX hq hy;have hn0:(0:Int)≤(q:Int)*(y0:Int):=by rw [← Int.natCast_mul]; omega
   have hn1:(q:Int)*(y0:Int)≤18446744065119617025:=by rw [← Int.natCast_mul]; omega
   obtain ⟨T,hT⟩:∃ T,M+q*y0=T:=⟨_,rfl⟩;have hTI:(M:Int)+(q:Int)*(y0:Int)=(T:Int):=by rw [← hT,← Int.natCast_mul]; omega
   have hT64:T<18446744073709551616:=by omega
   have HT:=Lib.hid hT;clear hm hT;have hand:=GZ S hS64;have hand2:=GZ T hT64;obtain ⟨v,b',hv,hb',hvb,hT1,hT2⟩:=Jh (S % 4294967296) (T % 4294967296) b (by omega) (by omega) hb1;have HVB:=Lib.hid hvb;clear hvb;generalize hlo:S % 4294967296=lo at *;generalize hlo2:T % 4294967296=lo2 at *;have HLO:=Lib.hid hlo;have HLO2:=Lib.hid hlo2;clear hlo hlo2
   go_wp2_with fail
   go_roundw
   case rel=>exact ⟨k+1,S / 4294967296,T / 4294967296,b',by omega,by go_num,by go_num,by go_num,rfl,by omega,by omega,hb',HR.out.step hlt (Nat.le_refl _) GX.out GY.out HS.out.symm HT.out.symm hv (by rw [HLO.out,HLO2.out]; exact HVB.out) _ rfl⟩
   case measure=>simp [intOf]; omega
  ·have hk':k=(len y):=by omega
   subst hk';obtain ⟨ds,hl',h32,hr,he,hbel⟩:=HR.out.finish (z:=z) (by rw [Aa]; omega) (by rw [Aa]; omega) (by rw [Ao,Ao]; exact HZ.out) (Nat.lt_of_lt_of_le (BG z) (Nat.pow_le_pow_right (by omega) HZL.out));have HE:=Lib.hid he;clear he
   go_wp2_with fail
   refine (Dg _ _ _ ds _ hl' (hr.mem hr.lt) (by omega) (by omega) h32).mono ?_
   rintro e w1 ⟨rfl,rfl⟩
   go_wp2
   go_ret
   refine ⟨_,rfl,?_,hbel⟩;have:=hr.nat h32 (c:=len y) (by omega);rw [HE.out] at this;rw [HE.out];exact this
end Go.Proofs.YtdopbgnkneeceaaGreat
