/- The walk of simulate. -/
import Derived.Test.YtdopbgnkneeceaaGreatqLead
import Derived.Test.YtdopbgnkneeceaaGreatqDivP
set_option linter.unusedSectionVars false
set_option linter.unusedVariables false
set_option linter.unusedSimpArgs false
set_option maxRecDepth 100000
namespace Go.Proofs.YtdopbgnkneeceaaGreat
open Go.RowKit
theorem Yj{v n:Nat}(hl:len v≤n+1):(Ae v).getD n 0=v / 4294967296 ^ n:=by
 have h:=Au (Ae v) n;rw [List.take_of_length_le (by rw [Aa]; omega),Ao] at h;have hlt:=Cv ((As v).take n);have hle:4294967296 ^ ((Ae v).take n).length≤4294967296 ^ n:=Nat.pow_le_pow_right (by omega) (by rw [List.length_take]; exact Nat.min_le_left _ _);generalize (Ae v).getD n 0=t at *;rw [h,Nat.add_mul_div_left _ _ (Nat.pow_pos (by omega)),Nat.div_eq_of_lt (Nat.lt_of_lt_of_le hlt hle),Nat.zero_add]
theorem L9(A:Option Addr)(c v N h l1 k:Nat)(M:Int)(w:World)(hM:M=(N:Int)+3)(hk:len v=k)(hm:CQ w w.heap.size A (Ae v))(hl:k≤N+3)(hN:N≤1099511627776)(hh:h<32)
  (h1:(Ae v).getD (N+2) 0=l1) (ht:l1*2 ^ h<4294967296) :
  Calls Tryz.prog 137 #[.slice A k c,.int .i64 M,.int .i64 h] w λe w'=>e = .returned (.int .u64 ((v / (2 ^ (32 - h)*4294967296 ^ N):Nat):Int))∧∃ k,w'=w.drewN k:=by
 subst hM hk;exact TL A c v N h l1 _ _ w hm hl hN hh h1 rfl rfl ht
def NZ(W1:World)(g a0 b0 a1 b1:Nat)(odd:Bool)(wr:World):Prop:=
 wr.heap[g]? = some (.cells #[.int .u64 a0,.int .u64 b0,.int .u64 a1,.int .u64 b1,.bool odd] 134 (0,0))∧Below W1.heap.size W1 wr∧W1.heap.size≤g
theorem NZ.drewN{W1 wr:World}{g a0 b0 a1 b1:Nat}{odd:Bool}(h:NZ W1 g a0 b0 a1 b1 odd wr)(k:Nat):NZ W1 g a0 b0 a1 b1 odd (wr.drewN k):=⟨h.1,⟨h.2.1.os,h.2.1.tape,h.2.1.output,h.2.1.size,h.2.1.block⟩,h.2.2⟩
theorem NZ.cells{W1 wr:World}{g a0 b0 a1 b1:Nat}{odd:Bool}(h:NZ W1 g a0 b0 a1 b1 odd wr):wr.cell? ⟨g,0,none⟩=some (.int .u64 a0)∧wr.cell? ⟨g,1,none⟩=some (.int .u64 b0)∧wr.cell? ⟨g,2,none⟩=some (.int .u64 a1)∧wr.cell? ⟨g,3,none⟩=some (.int .u64 b1)∧wr.cell? ⟨g,4,none⟩=some (.bool odd)∧(∀ i,wr.frozen? ⟨g,i,none⟩=false):=
 ⟨by rw [cell_of_row wr g 0 _ _ (0,0) h.1]; rfl,by rw [cell_of_row wr g 1 _ _ (0,0) h.1]; rfl,by rw [cell_of_row wr g 2 _ _ (0,0) h.1]; rfl,by rw [cell_of_row wr g 3 _ _ (0,0) h.1]; rfl,by rw [cell_of_row wr g 4 _ _ (0,0) h.1]; rfl,λi=>AA h.1 i⟩
theorem NZ.next{W1 wr:World}{g a0 b0 a1 b1 a2 b2:Nat}{odd:Bool}(h:NZ W1 g a0 b0 a1 b1 odd wr) :
  NZ W1 g a1 b1 a2 b2 (!odd) (((((wr.setCell ⟨g,0,none⟩ (.int .u64 a1)).setCell ⟨g,2,none⟩ (.int .u64 a2)).setCell ⟨g,1,none⟩ (.int .u64 b1)).setCell ⟨g,3,none⟩ (.int .u64 b2)).setCell ⟨g,4,none⟩ (.bool (!odd))):=by
 obtain ⟨h1,h2,h3⟩:=h;exact ⟨Az (Az (Az (Az (Az h1 0 _) 2 _) 1 _) 3 _) 4 _,((((h2.setCell h3 _).setCell h3 _).setCell h3 _).setCell h3 _).setCell h3 _,h3⟩
def Af7(a b:Nat)(w:World)(e:Ending)(w':World):Prop:=
 ∃(a0 b0 a1 b1:Nat)(odd:Bool),e = .returned (.agg #[.int .u64 a0,.int .u64 b0,.int .u64 a1,.int .u64 b1,.bool odd])∧a0<4294967296∧b0<4294967296∧a1<4294967296∧b1<4294967296∧(b0≠0→wV a b a0 b0 a1 b1 odd)∧Below w.heap.size w w'
set_option maxHeartbeats 3200000 in
theorem Qw(va vb:Value)(a b:Nat)(w:World)(ha:AB w va a)(hb:AB w vb b)(h3:3≤len a)(hla:len a≤1099511627776)(hba:b≤a) :
  Calls Tryz.prog 125 #[va,vb] w (Af7 a b w):=by
 obtain ⟨A,c,rfl,_,hma⟩:=ha;obtain ⟨B,d,rfl,_,hmb⟩:=hb;obtain ⟨N,hN⟩:∃ N,len a=N+3:=⟨len a - 3,by omega⟩;have hlb:len b≤N+3:=by have:=AY hba; omega
 obtain ⟨ad,rfl,hlt1,hca⟩:=hma.at_ (show N+2<(Ae a).length by rw [Aa]; omega);have hl1:=(As a).get (show N+2<(Ae a).length by rw [Aa]; omega);have g1:=At (show N+2<(Ae a).length by rw [Aa]; omega);generalize (Ae a)[N+2]'(by rw [Aa]; omega)=l1 at *;have hl0:=EM (n:=a) (by rcases Nat.eq_zero_or_pos a with h | h; (rw [h,AX] at h3; omega); exact h);rw [hN,show N+3 - 1=N+2 from rfl,g1] at hl0;obtain ⟨h,hh,hz,hlo,hhi⟩:=M4 (show 0<l1 by omega) hl1;have ea:=Yj (v:=a) (n:=N+2) (by omega);have eb:=Yj (v:=b) (n:=N+2) (by omega);obtain ⟨m1,gb⟩:∃ m,(Ae b).getD (N+2) 0=m:=⟨_,rfl⟩;rw [g1] at ea;rw [gb] at eb;have hm1:m1≤l1:=by rw [ea,eb]; exact Nat.div_le_div_right hba
 have hp0:0<2 ^ h:=Nat.pow_pos (by omega);have ht1:l1*2 ^ h<4294967296:=by rw [Nat.add_mul,Nat.one_mul] at hhi; omega
 have ht2:m1*2 ^ h<4294967296:=Nat.lt_of_le_of_lt (Nat.mul_le_mul_right _ hm1) ht1;obtain ⟨T,eT⟩:∃ T,T=2 ^ (32 - h)*4294967296 ^ N:=⟨_,rfl⟩;have hT:0<T:=by rw [eT]; exact Nat.mul_pos (Nat.pow_pos (by omega)) (Nat.pow_pos (by omega))
 have hX:a / T<18446744073709551616:=by
  have k1:a<(l1+1)*4294967296 ^ (N+2):=by
   rw [ea,← Nat.div_lt_iff_lt_mul (Nat.pow_pos (by omega))];omega
  have k2:l1+1≤2 ^ (32 - h):=by
   rw [FM hh,Nat.mul_comm (2 ^ h)] at hhi;exact Nat.le_of_mul_le_mul_right hhi hp0
  have k3:=Nat.mul_le_mul_right (4294967296 ^ (N+2)) k2;apply Nat.div_lt_of_lt_mul;have k4:T*18446744073709551616=2 ^ (32 - h)*4294967296 ^ (N+2):=by rw [eT,Nat.pow_add,Nat.mul_assoc]
  omega
 have hYX:b / T≤a / T:=Nat.div_le_div_right hba;have da:a=T*(a / T)+a % T:=(Nat.div_add_mod a T).symm;have db:b=T*(b / T)+b % T:=(Nat.div_add_mod b T).symm;have hα:=Nat.mod_lt a hT;have hβ:=Nat.mod_lt b hT;obtain ⟨X0,eX⟩:∃ X,a / T=X:=⟨_,rfl⟩;obtain ⟨Y0,eY⟩:∃ Y,b / T=Y:=⟨_,rfl⟩;rw [eX] at da hX hYX;rw [eY] at db hYX;have DA:=Lib.hid da;have DB:=Lib.hid db;have HA:=Lib.hid hα;have HB:=Lib.hid hβ;have HYX:=Lib.hid hYX;have HZ:=Lib.hid hz;have LA:=Lib.hid (show a / (2 ^ (32 - h)*4294967296 ^ N)=X0 by rw [← eT]; exact eX);have LB:=Lib.hid (show b / (2 ^ (32 - h)*4294967296 ^ N)=Y0 by rw [← eT]; exact eY);have GA:=Lib.hid g1;have GB:=Lib.hid gb;have HT1:=Lib.hid ht1;have HT2:=Lib.hid ht2;have HN:=Lib.hid hN;have HLB:=Lib.hid hlb;have HMA:=Lib.hid hma;have HMB:=Lib.hid hmb;clear da db hα hβ hYX hz eX eY g1 gb ht1 ht2 hlb hma hmb ea eb hm1 hp0 eT hT hlo hhi hba h3;have b1:=Ai w (.cells #[.int .u64 0,.int .u64 0,.int .u64 0,.int .u64 0,.bool false] 134);have hca1:=(b1.cell (p:=ad.add (N+2)) (by rw [Ap]; exact hlt1)).trans hca;have HB1:=Lib.hid b1;have hi:(len a:Int) - 1=((N+2:Nat):Int):=by omega
 have hi1:((N+2:Nat):Int)<(len a:Int):=by omega
 obtain ⟨N2,eN2⟩:∃ N2,N+2=N2:=⟨_,rfl⟩;rw [eN2] at hi hi1 hca1;clear hca b1 hN
 go_enter Tryz.func125,Tryz.ntmps125
 go_wp2_with fail
 refine (Tryz.bits_LeadingZeros32 (l1:Int) _ (by omega) (by omega)).mono ?_
 rintro e w' ⟨rfl,hw⟩
 replace hw:=hw.symm;subst hw;rw [Int.toNat_natCast,HZ.out]
 go_wp2_with fail
 refine (L9 (some ad) c a N h l1 (len a) _ _ (by have:=HN.out; omega) rfl (HMA.out.into HB1.out) (by have:=HN.out; omega) (by have:=HN.out; omega) hh GA.out HT1.out).mono ?_
 rintro e w1 ⟨rfl,k1,rfl⟩
 rw [LA.out]
 go_wp2_with fail
 refine (L9 B d b N h m1 (len b) _ _ (by have:=HN.out; omega) rfl (HMB.out.into (Ac HB1.out (BE _ k1))) HLB.out (by have:=HN.out; omega) hh GB.out HT2.out).mono ?_
 rintro e w2 ⟨rfl,k2,rfl⟩
 rw [LB.out];have hW:=Ac (Ac HB1.out (BE _ k1)) (BE _ k2);have hWs:(((w.alloc (.cells #[.int .u64 0,.int .u64 0,.int .u64 0,.int .u64 0,.bool false] 134)).drewN k1).drewN k2).heap.size=w.heap.size+1:=by simp
 have hWr:(((w.alloc (.cells #[.int .u64 0,.int .u64 0,.int .u64 0,.int .u64 0,.bool false] 134)).drewN k1).drewN k2).heap[w.heap.size]? = some (.cells #[.int .u64 0,.int .u64 0,.int .u64 0,.int .u64 0,.bool false] 134 (0,0)):=heap_alloc_new w _;generalize ((w.alloc (.cells #[.int .u64 0,.int .u64 0,.int .u64 0,.int .u64 0,.bool false] 134)).drewN k1).drewN k2=W at *;have HW:=Lib.hid hW;have HWS:=Lib.hid hWs;have HWR:=Lib.hid hWr;clear hW hWs hWr hca1;have hS0:NZ W W.heap.size 0 0 1 0 true (W.alloc (.cells #[.int .u64 0,.int .u64 0,.int .u64 1,.int .u64 0,.bool true] 134)):=⟨heap_alloc_new W _,Ai _ _,Nat.le_refl _⟩;have HS0:=Lib.hid hS0;clear hS0
 go_wp2_with fail
 go_loopw [6,7,9,10] (λvx vy v2 u2 wr=>∃(x y a0 b0 a1 b1 a2 b2:Nat)(odd:Bool),vx = .int .u64 x∧vy = .int .u64 y∧v2 = .int .u64 a2∧u2 = .int .u64 b2∧sT X0 Y0 x y a1 a2 b1 b2 odd∧NZ W W.heap.size a0 b0 a1 b1 odd wr∧a0<4294967296∧b0<4294967296∧a1<4294967296∧b1<4294967296∧b2<18446744073709551616∧(b0≠0→wV a b a0 b0 a1 b1 odd)) (λ_ y _ _ _=>(intOf y).toNat)
 case atStart=>exact ⟨X0,Y0,0,0,1,0,0,1,true,rfl,rfl,rfl,rfl,sT.init HYX.out,HS0.out,by omega,by omega,by omega,by omega,by omega,λh=>absurd rfl h⟩
 case round =>
  obtain ⟨x,y,a0,b0,a1,b1,a2,b2,odd,rfl,rfl,rfl,rfl,hsim,hs,l0,l1',l2,l3,l4,hgd⟩:=hrel;have HS:=Lib.hid hs;have HGD:=Lib.hid hgd;have HSI:=Lib.hid hsim;have hyx:=hsim.yx;have hx64:x≤X0:=by
   have k1:=Nat.mul_le_mul_left x hsim.b2pos;have:=hsim.bigX;omega
  have ha2:=hsim.a2b2;clear hs hgd hsim HS0
  by_cases t1:b2≤y
  ·have hb232:=HSI.out.small t1 hX
   obtain ⟨D,eD⟩:∃ D,D=x - y:=⟨_,rfl⟩;obtain ⟨S,eS⟩:∃ S,S=b1+b2:=⟨_,rfl⟩;have hD:(x:Int) - (y:Int)=(D:Int):=by omega
   have hSm:(b1:Int)+(b2:Int)=(S:Int):=by omega
   have hD64:D<18446744073709551616:=by omega
   have hS64:S<18446744073709551616:=by omega
   have d1:decide (b2≤y)=true:=by simpa using t1
   by_cases t2:S≤D
   ·have d2:decide (S≤D)=true:=by simpa using t2
    have hy0:¬ y=0:=by have:=HSI.out.b2pos; omega
    obtain ⟨q,eq⟩:∃ q,q=x / y:=⟨_,rfl⟩;obtain ⟨r,er⟩:∃ r,r=x % y:=⟨_,rfl⟩;obtain ⟨n1,n2,n3⟩:=HSI.out.next t1 (by omega) eq er;have hq:(x:Int) / (y:Int)=(q:Int):=by rw [eq,Int.natCast_ediv]
    have hr:(x:Int).tmod (y:Int)=(r:Int):=by rw [er]; rfl
    have hq64:q≤x:=by rw [eq]; exact Nat.div_le_self _ _
    have hry:r<y:=by rw [er]; exact Nat.mod_lt _ (by omega)
    obtain ⟨P1,eP1⟩:∃ P,P=q*a2:=⟨_,rfl⟩;obtain ⟨P2,eP2⟩:∃ P,P=q*b2:=⟨_,rfl⟩;rw [← eP1,← eP2] at n1;rw [← eP2] at n2;have hp12:P1≤P2:=by rw [eP1,eP2]; exact Nat.mul_le_mul_left q ha2
    have hbb:b1+P2≤X0:=Nat.le_trans (Nat.le_mul_of_pos_left _ (by omega)) n2;have hP1:(q:Int)*(a2:Int)=(P1:Int):=by rw [eP1,Int.natCast_mul]
    have hP2:(q:Int)*(b2:Int)=(P2:Int):=by rw [eP2,Int.natCast_mul]
    obtain ⟨A2,eA2⟩:∃ A,A=a1+P1:=⟨_,rfl⟩;obtain ⟨B2,eB2⟩:∃ B,B=b1+P2:=⟨_,rfl⟩;rw [← eA2,← eB2] at n1;have hA2:(a1:Int)+(P1:Int)=(A2:Int):=by omega
    have hB2:(b1:Int)+(P2:Int)=(B2:Int):=by omega
    have hB64:B2<18446744073709551616:=by omega
    have hA64:A2<18446744073709551616:=by have:=n1.a2b2; omega
    have N1:=Lib.hid n1;have HGN:=Lib.hid (λh1:b1≠0=>HSI.out.good DA.out DB.out HA.out HB.out t1 (by omega) h1);obtain ⟨c0,c1,c2,c3,c4,cf⟩:=HS.out.cells;clear n1 n2 eq er eP1 eP2 eD eS eA2 eB2 HGD
    go_wp2_with fail
    go_quiet (fail)
    have HSD:=Lib.hid (HS.out.drewN nq);generalize wr.drewN nq=wd at *;clear c0 c1 c2 c3 c4 cf HS;obtain ⟨c0,c1,c2,c3,c4,cf⟩:=HSD.out.cells
    go_wp2_with fail
    go_roundw
    case rel=>exact ⟨y,r,a1,b1,a2,b2,A2,B2,!odd,rfl,rfl,rfl,rfl,N1.out,HSD.out.next,l2,l3,by omega,by omega,hB64,HGN.out⟩
    case measure=>simp [intOf]; omega
   ·have d2:decide (S≤D)=false:=by simpa using t2
    clear eD eS;obtain ⟨c0,c1,c2,c3,c4,cf⟩:=HS.out.cells;have r0:wr.heap[w.heap.size]? = some (.cells #[.int .u64 0,.int .u64 0,.int .u64 0,.int .u64 0,.bool false] 134 (0,0)):=(HS.out.2.1.block _ (by have:=HWS.out; omega)).trans HWR.out;have hne:W.heap.size≠w.heap.size:=by have:=HWS.out; omega
    have e0:wr.cell? ⟨w.heap.size,0,none⟩=some (.int .u64 0):=by rw [cell_of_row wr _ 0 _ _ (0,0) r0]; rfl
    have e1:wr.cell? ⟨w.heap.size,1,none⟩=some (.int .u64 0):=by rw [cell_of_row wr _ 1 _ _ (0,0) r0]; rfl
    have e2:wr.cell? ⟨w.heap.size,2,none⟩=some (.int .u64 0):=by rw [cell_of_row wr _ 2 _ _ (0,0) r0]; rfl
    have e3:wr.cell? ⟨w.heap.size,3,none⟩=some (.int .u64 0):=by rw [cell_of_row wr _ 3 _ _ (0,0) r0]; rfl
    have e4:wr.cell? ⟨w.heap.size,4,none⟩=some (.bool false):=by rw [cell_of_row wr _ 4 _ _ (0,0) r0]; rfl
    have ef:∀ i,wr.frozen? ⟨w.heap.size,i,none⟩=false:=λi=>AA r0 i
    have HBE:=Lib.hid (Ac HW.out HS.out.2.1);clear r0
    go_wp2
    refine bodyPost_ret (v:=.agg #[.int .u64 a0,.int .u64 b0,.int .u64 a1,.int .u64 b1,.bool odd]) (by simp [results,Tryz.results125,go_sem,e0,e1,e2,e3,e4]) rfl ⟨a0,b0,a1,b1,odd,rfl,l0,l1',l2,l3,HGD.out,?_⟩;exact ((((HBE.out.setCell (Nat.le_refl _) _).setCell (Nat.le_refl _) _).setCell (Nat.le_refl _) _).setCell (Nat.le_refl _) _).setCell (Nat.le_refl _) _
  ·have d1:decide (b2≤y)=false:=by simpa using t1
   obtain ⟨c0,c1,c2,c3,c4,cf⟩:=HS.out.cells;have r0:wr.heap[w.heap.size]? = some (.cells #[.int .u64 0,.int .u64 0,.int .u64 0,.int .u64 0,.bool false] 134 (0,0)):=(HS.out.2.1.block _ (by have:=HWS.out; omega)).trans HWR.out;have hne:W.heap.size≠w.heap.size:=by have:=HWS.out; omega
   have e0:wr.cell? ⟨w.heap.size,0,none⟩=some (.int .u64 0):=by rw [cell_of_row wr _ 0 _ _ (0,0) r0]; rfl
   have e1:wr.cell? ⟨w.heap.size,1,none⟩=some (.int .u64 0):=by rw [cell_of_row wr _ 1 _ _ (0,0) r0]; rfl
   have e2:wr.cell? ⟨w.heap.size,2,none⟩=some (.int .u64 0):=by rw [cell_of_row wr _ 2 _ _ (0,0) r0]; rfl
   have e3:wr.cell? ⟨w.heap.size,3,none⟩=some (.int .u64 0):=by rw [cell_of_row wr _ 3 _ _ (0,0) r0]; rfl
   have e4:wr.cell? ⟨w.heap.size,4,none⟩=some (.bool false):=by rw [cell_of_row wr _ 4 _ _ (0,0) r0]; rfl
   have ef:∀ i,wr.frozen? ⟨w.heap.size,i,none⟩=false:=λi=>AA r0 i
   have HBE:=Lib.hid (Ac HW.out HS.out.2.1);clear r0
   go_wp2
   refine bodyPost_ret (v:=.agg #[.int .u64 a0,.int .u64 b0,.int .u64 a1,.int .u64 b1,.bool odd]) (by simp [results,Tryz.results125,go_sem,e0,e1,e2,e3,e4]) rfl ⟨a0,b0,a1,b1,odd,rfl,l0,l1',l2,l3,HGD.out,?_⟩;exact ((((HBE.out.setCell (Nat.le_refl _) _).setCell (Nat.le_refl _) _).setCell (Nat.le_refl _) _).setCell (Nat.le_refl _) _).setCell (Nat.le_refl _) _
end Go.Proofs.YtdopbgnkneeceaaGreat
