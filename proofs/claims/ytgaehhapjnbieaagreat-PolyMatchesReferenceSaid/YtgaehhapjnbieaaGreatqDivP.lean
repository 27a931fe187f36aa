/- Algorithm D: the beginning, the rounds and the end, in memory. No walk but the calls of guess, subtractMultiple and addBack, put together. -/
import Derived.Test.YtgaehhapjnbieaaGreatqKnQ
import Derived.Test.YtgaehhapjnbieaaGreatqGuess
import Derived.Test.YtgaehhapjnbieaaGreatqShr
set_option linter.unusedSectionVars false
set_option linter.unusedVariables false
set_option linter.unusedSimpArgs false
set_option maxRecDepth 100000
namespace Go.Proofs.YtgaehhapjnbieaaGreat
open Go.RowKit
def EC(w:World)(bd:Addr)(X:List Nat):Prop:=∀(k x:Nat),X[k]? = some x→w.cell? (bd.add k)=some (.int .u32 (x:Int))
def IN(W:World)(gr gq L M A2:Nat)(X:List Nat)(bd:Addr)(wr:World)(j:Nat):Prop:=
 ∃ rs qs:List Nat,rs.length=L∧BO rs∧Dh wr gr rs∧qs.length=M∧BO qs∧Dh wr gq qs∧A2=4294967296 ^ j*val (qs.drop j)*val X+val rs∧val (rs.drop j)<val X∧EC wr bd X∧Below W.heap.size W wr
theorem EC.below{w w':World}{bd:Addr}{X:List Nat}(h:EC w bd X)(hb:Below w.heap.size w w'):EC w' bd X:=λk x hx=>(hb.cell (World.block_lt_of_cell? _ _ (h k x hx))).trans (h k x hx)
theorem EC.memN{w:World}{bd:Addr}{X:List Nat}{g:Nat}(h:EC w bd X)(hg:bd.block≠g):Pu w g (some bd) X:=⟨bd,rfl,hg,h⟩
theorem EC.only{w w':World}{bd:Addr}{X:List Nat}{g:Nat}(h:EC w bd X)(hg:w.grownBy w' (some g))(hne:bd.block≠g):EC w' bd X:=by
 obtain ⟨ad,e,_,hc⟩:=(h.memN hne).only hg;injection e with e
 subst e;exact hc
theorem Dh.only{w w':World}{g g':Nat}{ms:List Nat}(h:Dh w g' ms)(hg:w.grownBy w' (some g))(hne:g'≠g):Dh w' g' ms:=(hg.block g' h.lt (by simpa using hne)).trans h
theorem PG{W w w':World}{g:Nat}(h:Below W.heap.size W w)(hg:w.grownBy w' (some g))(hle:W.heap.size≤g):Below W.heap.size W w':=h.grown hg h.size (λk hk=>by injection hk with hk; omega)
theorem iW(g i k:Nat):(⟨g,i,none⟩:Addr).add k=⟨g,i+k,none⟩:=by
 unfold Addr.add;split
 ·next h=>rw [h]; rfl
 ·rfl
theorem Za{g i n cap cd:Nat}{rs X:List Nat}{bd:Addr}(w:World)(hr:Dh w g rs)(hP:K5 rs X i n)(hX:EC w bd X)(hn:n≤1099511627776) :
  Calls Tryz.prog 158 #[.slice (some ⟨g,i,none⟩) (n+1) cap,.slice (some bd) n cd] w λe w'=>∃ q:Nat,e = .returned (.int .u32 (q:Int))∧q<4294967296∧val ((rs.drop i).take (n+1)) / val X≤q∧(q - 1)*val X≤val ((rs.drop i).take (n+1))∧Below w.heap.size w w':=by
 obtain ⟨pn,pn1,pn2,d1,d2,t,B,lp,ld,e0,e1,e2,e3,e4,b0,b1,b2,b3,b4,hd,ht,ht64,hle,hV,hD,hlp,hld⟩:=hP.lead;have hx:0<val X:=by have:=hP.low; omega
 have hlen:=hP.len;have hn2:=hP.n2;have hxl:=hP.xlen;have rc:∀ k,i+k<rs.length→w.cell? ((⟨g,i,none⟩:Addr).add k)=some (.int .u32 ((rs.getD (i+k) 0:Nat):Int)):=λk hk=>by rw [iW,hr.cell hk,AA hk]
 have xc:∀ k,k<X.length→w.cell? (bd.add k)=some (.int .u32 ((X.getD k 0:Nat):Int)):=λk hk=>by rw [hX k _ (List.getElem?_eq_getElem hk),AA hk]
 have hQm:val ((rs.drop i).take (n+1)) / val X*val X≤val ((rs.drop i).take (n+1)):=Nat.div_mul_le_self _ _;have hq0:val ((rs.drop i).take (n+1)) / val X≤t / d1:=by
  rw [Nat.le_div_iff_mul_le (by omega)];generalize val ((rs.drop i).take (n+1)) / val X=Q at *
  rcases Nat.lt_or_ge t (Q*d1) with h | h
  ·exfalso
   have h1:Q*(B*(d1*4294967296+d2))≤Q*val X:=Nat.mul_le_mul_left _ (by omega);have h2:B*(t*4294967296+pn2+1)≤B*(Q*(d1*4294967296+d2)):=by
    refine Nat.mul_le_mul_left _ ?_;have:=Nat.mul_le_mul_right 4294967296 (show t+1≤Q*d1 from h);rw [Nat.mul_add,← Nat.mul_assoc Q d1];omega
   rw [Nat.mul_left_comm] at h1;rw [Nat.mul_add B _ 1] at h2;omega
  ·exact h
 refine (mB g i n cap cd pn pn1 pn2 d1 d2 t (val ((rs.drop i).take (n+1)) / val X) bd w hn2 hn (by rw [← e0]; exact rc n (by omega)) (by rw [← e1]; exact rc (n - 1) (by omega)) (by rw [← e2]; exact rc (n - 2) (by omega)) (by rw [← e3]; exact xc (n - 1) (by omega)) (by rw [← e4]; exact xc (n - 2) (by omega))
  b0 b1 b2 b3 b4 hd ht ht64 hle hP.quot hq0 (λq hq=>Aat hV hD hlp hQm q hq)).mono ?_
 rintro e w' ⟨v,rfl,⟨q,rfl,hqb,hq1,hq2⟩,hb⟩
 exact ⟨q,rfl,hqb,hq1,wV hV hD hld hq2 (by omega),hb⟩
theorem qW{y lo P x0 H c:Nat}(e:y=lo+P*x0)(h:c≤x0*H):P*c≤y*H:=by
 rw [e,Nat.add_mul,Nat.mul_assoc];exact Nat.le_trans (Nat.mul_le_mul_left P h) (Nat.le_add_left _ _)
theorem rP{y lo P x0 H c:Nat}(e:y=lo+P*x0)(hl:lo<P)(hH:0<H)(h:(x0+1)*H≤c):y*H<P*c:=by
 have h1:y+1≤P*(x0+1):=by rw [e,Nat.mul_add,Nat.mul_one]; omega
 have h2:(y+1)*H≤P*(x0+1)*H:=Nat.mul_le_mul_right _ h1;rw [Nat.mul_assoc] at h2;have h3:=Nat.mul_le_mul_left P h;rw [Nat.add_mul,Nat.one_mul] at h2;omega
theorem mW{Y lo P d c:Nat}(e:Y=lo+P*d)(hl:lo<P)(h:P*c≤Y):c≤d:=by
 rcases Nat.lt_or_ge d c with hd | hd
 ·exfalso
  have:=Nat.mul_le_mul_left P (show d+1≤c from hd);rw [Nat.mul_add,Nat.mul_one] at this;omega
 ·exact hd
theorem Yd{y n x0 h:Nat}(hn:len y=n)(hn0:0<n)(hx0:(Ac y).getD (n - 1) 0=x0)(hlo:2147483648≤x0*2 ^ h)(hhi:(x0+1)*2 ^ h≤4294967296):len (y*2 ^ h)=n∧2147483648≤(Ac (y*2 ^ h)).getD (n - 1) 0:=by
 obtain ⟨m,rfl⟩:∃ m,n=m+1:=⟨n - 1,by omega⟩;simp only [Nat.add_sub_cancel] at hx0 ⊢;have e:=AE (Ac y) m;rw [List.take_of_length_le (show (Ac y).length≤m+1 by rw [Aa,hn]; exact Nat.le_refl _),Az,hx0] at e;have hl:=De ((AB y).take m);have hlt:((Ac y).take m).length=m:=by rw [List.length_take,Aa,hn]; omega
 rw [hlt] at hl;generalize val ((Ac y).take m)=lo at *;have hlow:4294967296 ^ m*2147483648≤y*2 ^ h:=qW e hlo;have hhigh:y*2 ^ h<4294967296 ^ m*4294967296:=rP e hl (Nat.pow_pos (by decide)) hhi;have hlen:len (y*2 ^ h)=m+1:=by
  have h1:len (y*2 ^ h)≤m+1:=J1 (by rw [Nat.pow_succ]; exact hhigh);have h2:len y≤len (y*2 ^ h):=Bm (Nat.le_mul_of_pos_right _ (Nat.pow_pos (by decide)));omega
 refine ⟨hlen,?_⟩;have e2:=AE (Ac (y*2 ^ h)) m;rw [List.take_of_length_le (show (Ac (y*2 ^ h)).length≤m+1 by rw [Aa,hlen]; exact Nat.le_refl _),Az] at e2;have hl2:=De ((AB (y*2 ^ h)).take m);have hlt2:((Ac (y*2 ^ h)).take m).length=m:=by rw [List.length_take,Aa,hlen]; omega
 rw [hlt2] at hl2;exact mW e2 hl2 hlow
theorem Of{x0:Nat}(h0:0<x0)(h1:x0<4294967296):∃ h:Nat,h<32∧(32 - (Lib.bitLen x0:Int))=(h:Int)∧2147483648≤x0*2 ^ h∧(x0+1)*2 ^ h≤4294967296:=by
 have hL:Lib.bitLen x0≤32:=Lib.bitLen_le x0 32 (by decide) (by simpa using h1);have hlt:=lZ x0 (by omega);have hL0:0<Lib.bitLen x0:=by
  rcases Nat.eq_zero_or_pos (Lib.bitLen x0) with h | h
  ·rw [h] at hlt; simp at hlt; omega
  ·exact h
 have hge:2 ^ (Lib.bitLen x0 - 1)≤x0:=by
  rcases Nat.lt_or_ge x0 (2 ^ (Lib.bitLen x0 - 1)) with h | h
  ·have:=Lib.bitLen_le x0 (Lib.bitLen x0 - 1) (by omega) h
   omega
  ·exact h
 generalize Lib.bitLen x0=L at *;refine ⟨32 - L,by omega,by omega,?_,?_⟩
 ·have:=Nat.mul_le_mul_right (2 ^ (32 - L)) hge
  rw [← Nat.pow_add,show L - 1+(32 - L)=31 by omega] at this;exact this
 ·have:=Nat.mul_le_mul_right (2 ^ (32 - L)) (show x0+1≤2 ^ L from hlt)
  rw [← Nat.pow_add,show L+(32 - L)=32 by omega] at this;exact this
theorem kL{x y q r H:Nat}(hH:0<H)(h:x*H=q*(y*H)+r)(hr:r<y*H):q=x / y∧r / H=x % y:=by
 have hy:0<y:=by
  rcases Nat.eq_zero_or_pos y with h0 | h0
  ·subst h0; simp at hr
  ·exact h0
 have hle:q*y≤x:=by
  have:q*y*H≤x*H:=by rw [Nat.mul_assoc]; omega
  exact Nat.le_of_mul_le_mul_right this hH
 have hlt:x<(q+1)*y:=by
  have:x*H<(q+1)*y*H:=by rw [Nat.mul_assoc,Nat.add_mul,Nat.one_mul]; omega
  exact Nat.lt_of_mul_lt_mul_right this
 obtain ⟨e1,e2⟩:=xY hle hlt;refine ⟨e1.symm,?_⟩;rw [e2];have:r=(x - q*y)*H:=by rw [Nat.sub_mul,Nat.mul_assoc]; omega
 rw [this,Nat.mul_div_cancel _ hH]
theorem IN.start{W w1 w2 w3:World}{gr gd x H D n:Nat}{ds es:List Nat}(hr:Dh w1 gr ds)(h32:BO ds)(hl:ds.length=len x+1)(hv:val ds=x*H)(hd:Dh w2 gd es)(hdl:es.length=n+1)(hdv:val es=D)(h32d:BO es)(hlen:len D=n)(hn:n≤len x)(hD:x*H<4294967296 ^ (len x - n+1)*D)
  (hb1:Below W.heap.size W w1) (hb2:Below w1.heap.size w1 w2) (e3:w3=w2.alloc (CL (List.replicate (len x - n+1) 0))):IN W gr w2.heap.size (len x+1) (len x - n+1) (x*H) (Ac D) ⟨gd,0,none⟩ w3 (len x - n+1):=by
 subst e3;have hv2:=De h32;refine ⟨ds,List.replicate (len x - n+1) 0,hl,h32,?_,by simp,BO.replicate _,Dh.new _ _,?_,?_,?_,?_⟩
 ·exact Dh.alloc (hr.below hb2 hr.lt) _
 ·rw [List.drop_of_length_le (by simp),hv]; simp [val]
 ·rw [Az]
  have h1:=GZ ds (len x - n+1) (by omega);rw [hv] at h1
  rcases Nat.lt_or_ge (val (ds.drop (len x - n+1))) D with h | h
  ·exact h
  ·have:=Nat.mul_le_mul_left (4294967296 ^ (len x - n+1)) h
   omega
 ·intro k u hu
  have hk:k<(Ac D).length:=(List.getElem?_eq_some_iff.1 hu).1;rw [Aa,hlen] at hk;rw [iW,Nat.zero_add];have e1:Ac D=es.take n:=by
   have:=(EV h32d).1;rw [hdv,hlen] at this;exact this
  rw [e1,List.getElem?_take,if_pos hk] at hu;have hk2:k<es.length:=by omega
  rw [(Dh.alloc hd _).cell hk2];rw [List.getElem?_eq_getElem hk2] at hu;rw [Option.some.inj hu]
 ·exact Ab (Ab hb1 hb2) (Aj _ _)
theorem IN.next{W wr:World}{gr gq L M A2 i n q:Nat}{rs ds qs X:List Nat}{bd:Addr}(hP:K5 rs X i n)(r1:rs.length=L)(q1:qs.length=M)(q2:BO qs)(hi:i<M)(t1:A2=4294967296 ^ (i+1)*val (qs.drop (i+1))*val X+val rs)
  (s1:ds.length=rs.length) (s2:BO ds) (s3:Dh wr gr ds) (s4:ds.take i=rs.take i) (s5:ds.drop (i+(n+1))=rs.drop (i+(n+1))) (hv:val ((ds.drop i).take (n+1))=val ((rs.drop i).take (n+1)) % val X) (hq:q=val ((rs.drop i).take (n+1)) / val X)
  (q3:Dh wr gq qs) (cX:EC wr bd X) (hb:Below W.heap.size W wr) (hne:gr≠gq) (hbd:bd.block≠gq) (hW:W.heap.size≤gq) (u:Int) (hu:u=(q:Int)):IN W gr gq L M A2 X bd (wr.setCell ⟨gq,i,none⟩ (.int .u32 u)) i:=by
 subst hu;obtain ⟨w1,w2⟩:=Wc hP s1 s4 s5 hv;refine ⟨ds,qs.set i q,s1.trans r1,s2,s3.far hne _,by simpa using q1,q2.set ?_,q3.set_ i q,?_,w1,?_,hb.setCell hW _⟩
 ·rw [hq]; exact hP.quot
 ·rw [WC (by omega)]
  rw [← hq] at w2;exact Zb t1 w2
 ·intro k x hx
  rw [World.cell?_setCell_far _ _ _ _ (by rw [Ax]; exact λh=>hbd h.symm)];exact cX k x hx
set_option maxHeartbeats 2000000 in
theorem Pp(A B:Option Addr)(c d x y:Nat)(w:World)(ha:AM w (.slice A (len x) c) x)(hb:AM w (.slice B (len y) d) y)(hla:len x≤1099511627775)(h2:2≤len y)(hle:y≤x) :
  Calls Tryz.prog 152 #[.slice A (len x) c,.slice B (len y) d] w (F8 (x / y) (x % y) w):=by
 have hlen:len y≤len x:=Bm hle;obtain ⟨n,hn⟩:∃ n,len y=n:=⟨_,rfl⟩;rw [hn] at hb h2 hlen ⊢;obtain ⟨bd,rfl,_,hcb⟩:=hb.mem.2.2.at_ (show n - 1<(Ac y).length by rw [Aa,hn]; omega);obtain ⟨ad,rfl,_,hca⟩:=ha.mem.2.2.at_ (show 0<(Ac x).length by rw [Aa]; omega);clear hca;have hx0:=(AB y).get (show n - 1<(Ac y).length by rw [Aa,hn]; omega);have gx:=AA (show n - 1<(Ac y).length by rw [Aa,hn]; omega);have hx1:=Fb (show 0<y by rcases Nat.eq_zero_or_pos y with h | h; (subst h; rw [Bi] at hn; omega); exact h);rw [hn,gx] at hx1;generalize (Ac y)[n - 1]'(by rw [Aa,hn]; omega)=x0 at *;obtain ⟨h,hh,hz,hlo,hhi⟩:=Of (show 0<x0 by omega) hx0;obtain ⟨hDl,hDn⟩:=Yd hn (by omega) gx hlo hhi;have HZ:=Lib.hid hz;have HLO:=Lib.hid hlo;have HHI:=Lib.hid hhi;have HDL:=Lib.hid hDl;have HDN:=Lib.hid hDn;have HN:=Lib.hid hn;have HMA:=Lib.hid ha.mem.2.2;have HMB:=Lib.hid hb.mem.2.2;have HLE:=Lib.hid hle;have hmk:=λW=>LJ ((len x:Int) - (n:Int)+1) (by omega) (by omega) W
 rw [show ((len x:Int) - (n:Int)+1).toNat=len x - n+1 by omega] at hmk;clear hz hlo hhi hDl hDn hn gx hx1 ha hb hle
 go_enter Tryz.func152,Tryz.ntmps152
 go_wp2_with fail
 refine (Tryz.bits_LeadingZeros32 (x0:Int) _ (by omega) (by omega)).mono ?_
 rintro e w' ⟨rfl,hw⟩
 replace hw:=hw.symm;subst hw;rw [Int.toNat_natCast,HZ.out]
 go_wp2_with fail
 refine (JF _ (len x) c h (Ac x) _ rfl HMA.out (AB _) (by omega) (by omega) hh).mono ?_
 rintro e w1 ⟨gr,ds,rfl,d1,d2,d3,d4,d5,d6⟩
 rw [Az] at d4;have D1:=Lib.hid d1;have D2:=Lib.hid d2;have D3:=Lib.hid d3;have D4:=Lib.hid d4;have D5:=Lib.hid d5;have D6:=Lib.hid d6;have HMB1:=Lib.hid (HMB.out.into d5);clear d1 d2 d3 d4 d5 d6
 go_wp2_with fail
 refine (JF _ n d h (Ac y) _ HN.out HMB1.out (AB _) (by omega) (by omega) hh).mono ?_
 rintro e w2 ⟨gd,es,rfl,e1,e2,e3,e4,e5,e6⟩
 rw [Az] at e4;have E1:=Lib.hid e1;have E2:=Lib.hid e2;have E3:=Lib.hid e3;have E4:=Lib.hid e4;have E5:=Lib.hid e5;have E6:=Lib.hid e6;clear e1 e2 e3 e4 e5 e6
 go_wp2_with fail
 refine (Ej _ (n+1) (n+1) es _ E1.out (E3.out.mem E3.out.lt) (by omega) (by omega) E2.out).mono ?_
 rintro e w' ⟨rfl,rfl⟩
 rw [E4.out,HDL.out]
 go_wp2_with fail
 have hDhi:x*2 ^ h<4294967296 ^ (len x - n+1)*(y*2 ^ h):=by
  have h1:=B7 x;have h3:=Jv (show n - 1<len y by have:=HN.out; omega);have h4:4294967296 ^ len x=4294967296 ^ (len x - n+1)*4294967296 ^ (n - 1):=by rw [← Nat.pow_add]; congr 1; omega
  rw [h4] at h1;have h5:x<4294967296 ^ (len x - n+1)*y:=Nat.lt_of_lt_of_le h1 (Nat.mul_le_mul_left _ h3);rw [← Nat.mul_assoc];exact Nat.mul_lt_mul_of_pos_right h5 (Nat.pow_pos (by decide))
 have HST:=Lib.hid (IN.start (W:=w) D3.out D2.out D1.out D4.out E3.out E1.out E4.out E2.out HDL.out hlen hDhi D5.out E5.out rfl);have hq1:gr≠w2.heap.size:=by have:=D3.out.lt; have:=E5.out.size; omega
 have hq2:gd≠w2.heap.size:=by have:=E3.out.lt; omega
 have hq3:gd≠gr:=by have:=D3.out.lt; have:=E6.out; omega
 have hq4:w.heap.size≤gr:=D6.out;have hq5:w.heap.size≤w2.heap.size:=by have:=D5.out.size; have:=E5.out.size; omega
 clear hDhi hmk;generalize w2.alloc (CL (List.replicate (len x - n+1) 0))=w3 at *;generalize w2.heap.size=gq at *;obtain ⟨M,hM⟩:∃ M,len x - n=M:=⟨_,rfl⟩;rw [hM] at HST ⊢;have HM:=Lib.hid hM;clear hM
 go_loopw [10] (λi wr=>∃ j:Nat,j≤M+1∧i = .int .i64 ((j:Int) - 1)∧IN w gr gq (len x+1) (M+1) (x*2 ^ h) (Ac (y*2 ^ h)) ⟨gd,0,none⟩ wr j) (λi _=>(intOf i+1).toNat)
 case atStart=>exact ⟨M+1,Nat.le_refl _,by go_num,HST.out⟩
 case round =>
  obtain ⟨j,hj,rfl,hrel⟩:=hrel;have HR:=Lib.hid hrel;clear hrel HST
  rcases Nat.eq_zero_or_pos j with h0 | h0
  ·subst h0
   obtain ⟨rs,qs,r1,r2,r3,q1,q2,q3,t1,t2,cX,hb⟩:=HR.out;rw [List.drop_zero] at t1 t2;rw [Nat.pow_zero,Nat.one_mul,Az] at t1;rw [Az] at t2;obtain ⟨p1,p2⟩:=kL (Nat.pow_pos (by decide)) t1 t2;have P1:=Lib.hid p1;have P2:=Lib.hid p2;have R1:=Lib.hid r1;have R2:=Lib.hid r2;have R3:=Lib.hid r3;have Q1:=Lib.hid q1;have Q2:=Lib.hid q2;have Q3:=Lib.hid q3;have HBW:=Lib.hid hb;clear r1 r2 r3 q1 q2 q3 t1 t2 cX hb HR p1 p2
   go_wp2_with fail
   refine (Ej _ (M+1) (M+1) qs _ Q1.out (Q3.out.mem Q3.out.lt) (by have:=HM.out; omega) (Nat.le_refl _) Q2.out).mono ?_
   rintro e w4 ⟨rfl,rfl⟩
   go_wp2_with fail
   refine (OH _ (len x+1) (len x+1) h rs _ R1.out (R3.out.mem R3.out.lt) R2.out (by omega) (by omega) hh).mono ?_
   rintro e w5 ⟨g2,fs,rfl,f1,f2,f3,f4,f5,f6⟩
   have F1:=Lib.hid f1;have F2:=Lib.hid f2;have F3:=Lib.hid f3;have F4:=Lib.hid f4;have F5:=Lib.hid f5;clear f1 f2 f3 f4 f5 f6
   go_wp2_with fail
   refine (Ej _ (len x+1) (len x+1) fs _ F1.out (F3.out.mem F3.out.lt) (by omega) (Nat.le_refl _) F2.out).mono ?_
   rintro e w6 ⟨rfl,hw⟩
   replace hw:=hw.symm;subst hw
   go_wp2
   go_ret2
   refine ⟨_,_,rfl,?_,?_,Ab HBW.out F5.out⟩
   ·have hq:=(Q3.out.nat Q2.out (c:=M+1) (by rw [Q1.out]; exact Nat.le_refl _)).into F5.out
    rw [← P1.out];exact hq
   ·have hr:=F3.out.nat F2.out (c:=len x+1) (by rw [F1.out]; exact Nat.le_refl _)
    rw [← P2.out,← F4.out];exact hr
  ·obtain ⟨i,rfl⟩:∃ i,j=i+1:=⟨j - 1,by omega⟩
   rw [show (((i+1:Nat):Int) - 1)=(i:Int) from by omega];have hML:M+n=len x:=by have:=HM.out; omega
   obtain ⟨rs,qs,r1,r2,r3,q1,q2,q3,t1,t2,cX,hb⟩:=HR.out;have hP:=Lib.hid (show K5 rs (Ac (y*2 ^ h)) i n from ⟨r2,AB _,HDL.out,h2,by omega,t2,HDN.out⟩);have R1:=Lib.hid r1;have R2:=Lib.hid r2;have R3:=Lib.hid r3;have Q1:=Lib.hid q1;have Q2:=Lib.hid q2;have Q3:=Lib.hid q3;have T1:=Lib.hid t1;have CX:=Lib.hid cX;have HBW:=Lib.hid hb;clear r1 r2 r3 q1 q2 q3 t1 t2 cX hb HR
   go_wp2_with fail
   rw [show i+n+1 - i=n+1 from by omega];refine (Za wr R3.out hP.out CX.out (by omega)).mono ?_
   rintro e w4 ⟨q,rfl,hqb,hg1,hg2,hb4⟩
   have G1:=Lib.hid hg1;have G2:=Lib.hid hg2;have HB4:=Lib.hid (Ab HBW.out hb4);have R34:=Lib.hid (R3.out.below hb4 R3.out.lt);have Q34:=Lib.hid (Q3.out.below hb4 Q3.out.lt);have CX4:=Lib.hid (CX.out.below hb4);clear hg1 hg2 hb4
   go_wp2_with fail
   try rw [show i+n+1 - i=n+1 from by omega]
   refine (sT gr i n _ _ q rs (Ac (y*2 ^ h)) _ w4 HDL.out (by omega) R34.out R2.out (by have:=R1.out; omega) (CX4.out.memN hq3) (AB _) hqb (by have:=R1.out; omega)).mono ?_
   rintro e w5 ⟨ds,neg,rfl,s1,s2,s3,s4,s5,s6,s7⟩
   have S1:=Lib.hid s1;have S2:=Lib.hid s2;have S3:=Lib.hid s3;have S4:=Lib.hid s4;have S5:=Lib.hid s5;have S6:=Lib.hid s6;have Q35:=Lib.hid (Q34.out.only s7 (Ne.symm hq1));have CX5:=Lib.hid (CX4.out.only s7 hq3);have HB5:=Lib.hid (PG HB4.out s7 hq4);clear s1 s2 s3 s4 s5 s6 s7;have hVX:Hid (0<val (Ac (y*2 ^ h))):=by have:=hP.out.low; exact Nat.lt_of_le_of_lt (Nat.zero_le _) this
   cases neg
   ·have hcq:=Q35.out.cell (show i<qs.length by have:=Q1.out; omega)
    have hfq:=Q35.out.frozen i;obtain ⟨p1,p2⟩:=oP (by simpa using S6.out) G1.out hVX.out;have P1:=Lib.hid p1;have P2:=Lib.hid p2;clear p1 p2;have hiM:(i:Int)<(M:Int)+1:=by omega
    go_wp2
    go_roundw
    case rel=>exact ⟨i,by omega,by go_num,IN.next hP.out R1.out Q1.out Q2.out (by omega) T1.out S1.out S2.out S3.out S4.out S5.out P2.out P1.out Q35.out CX5.out HB5.out hq1 hq2 hq5 _ rfl⟩
    case measure=>(simp [intOf] <;> omega)
   ·have huE:=De (((S2.out.drop i)).take (n+1))
    have hDE:=De (AB (y*2 ^ h));rw [List.length_take,List.length_drop,Nat.min_eq_left (by have:=R1.out; have:=S1.out; omega)] at huE;rw [Aa,HDL.out] at hDE;have hs6:=S6.out;simp only [if_true,Nat.mul_one] at hs6;have hq0:0<q:=by
     rcases Nat.eq_zero_or_pos q with h0 | h0
     ·subst h0
      rw [Nat.zero_mul] at hs6;omega
     ·exact h0
    have HUE:=Lib.hid huE;have HDE:=Lib.hid hDE;have HS6:=Lib.hid hs6;clear huE hDE hs6 S6;have hiM:(i:Int)<(M:Int)+1:=by omega
    go_wp2_with fail
    try rw [show i+n+1 - i=n+1 from by omega]
    refine (Aan gr i n _ _ ds (Ac (y*2 ^ h)) _ w5 HDL.out (by omega) S3.out S2.out (by have:=R1.out; have:=S1.out; omega) (CX5.out.memN hq3) (AB _) (by have:=R1.out; have:=S1.out; omega)).mono ?_
    rintro e w6 ⟨fs,f,⟨v,rfl⟩,s1,s2,s3,s4,s5,s6,s7⟩
    have hvE:=De ((s2.drop i).take (n+1));rw [List.length_take,List.length_drop,Nat.min_eq_left (by have:=R1.out; have:=S1.out; omega)] at hvE;obtain ⟨p1,p2,_⟩:=nJ HS6.out HUE.out s6 hvE (Nat.lt_of_lt_of_le HDE.out (Nat.pow_le_pow_right (by decide) (by omega))) G2.out;have P1:=Lib.hid p1;have P2:=Lib.hid p2;have V1:=Lib.hid (s1.trans S1.out);have V2:=Lib.hid s2;have V3:=Lib.hid s3;have V4:=Lib.hid (s4.trans S4.out);have V5:=Lib.hid (s5.trans S5.out);have Q36:=Lib.hid (Q35.out.only s7 (Ne.symm hq1));have CX6:=Lib.hid (CX5.out.only s7 hq3);have HB6:=Lib.hid (PG HB5.out s7 hq4);clear p1 p2 s1 s2 s3 s4 s5 s6 s7 hvE;have hcq:=Q36.out.cell (show i<qs.length by have:=Q1.out; omega);have hfq:=Q36.out.frozen i
    go_wp2
    go_roundw
    case rel=>exact ⟨i,by omega,by go_num,IN.next hP.out R1.out Q1.out Q2.out (by omega) T1.out V1.out V2.out V3.out V4.out V5.out P2.out P1.out Q36.out CX6.out HB6.out hq1 hq2 hq5 _ (by omega)⟩
    case measure=>(simp [intOf] <;> omega)
theorem Gn.nat{w:World}{g c:Nat}{ms:List Nat}(h:Gn w g ms)(h32:BO ms)(hc:ms.length≤c):AM w (.slice (some ⟨g,0,none⟩) (len (val ms)) c) (val ms):=by
 obtain ⟨e1,e2,_⟩:=EV h32;refine ⟨_,c,rfl,by omega,?_⟩;rw [e1];exact h.mem.take _
theorem AcB{y:Nat}(h:len y=1):y<4294967296∧0<y∧(Ac y).getD 0 0=y:=by
 have h1:=B7 y;rw [h,Nat.pow_one] at h1;have h0:0<y:=by
  rcases Nat.eq_zero_or_pos y with e | e
  ·subst e; rw [Bi] at h; omega
  ·exact e
 refine ⟨h1,h0,?_⟩;rw [FP h0];simp only [List.getD_cons_zero];omega
set_option maxHeartbeats 1600000 in
theorem XE(va vb:Value)(x y:Nat)(w:World)(ha:AM w va x)(hb:AM w vb y)(hla:len x≤1099511627776)(h1:len y=1)(h3:3≤len x)(hle:y≤x) :
  Calls Tryz.prog 140 #[va,vb] w (F8 (x / y) (x % y) w):=by
 obtain ⟨hy32,hy0,hyg⟩:=AcB h1;obtain ⟨A,c,rfl,HA⟩:=ha.open_;obtain ⟨B,d,rfl,HB⟩:=hb.open_;obtain ⟨ad,rfl,_,hca⟩:=HA.out.mem.2.2.at_ (show 0<(Ac x).length by rw [Aa]; omega);obtain ⟨v,hc,hv0⟩:∃ v:Int,G5 x y=v∧0≤v:=⟨_,rfl,by rcases Nat.lt_or_ge y x with h | h; rw [Fk h]; omega; rw [FH (by omega)]; omega⟩;have HC:=Lib.hid hc;have hl2:decide ((len x:Int)≤2)=false:=by simp; omega
 have hl2':decide (len x≤2)=false:=by simp; omega
 have hl1:((len y:Int) == 1)=true:=by simp [h1]
 have hr:x % y<4294967296:=Nat.lt_of_lt_of_le (Nat.mod_lt _ hy0) (Nat.le_of_lt hy32);have H1:=Lib.hid h1;have HYG:=Lib.hid hyg;clear hc hca h1 hyg
 go_enter Tryz.func140,Tryz.ntmps140
 go_wp2_with fail
 refine (I_ _ _ _ _ x y _ HA.out HB.out (by omega) (by have:=H1.out; omega)).mono ?_
 rintro e w1 ⟨rfl,hb1⟩
 have HB1:=Lib.hid hb1;have HA1:=Lib.hid (HA.out.into hb1);have HY1:=Lib.hid (HB.out.into hb1);clear hb1;rw [HC.out]
 go_wp2_with fail
 refine (oE ad x c w1 HA1.out (by omega) (by omega)).mono ?_
 rintro e w2 ⟨g,c',rfl,hp2,hg2,hc2,hb2⟩
 have HP2:=Lib.hid hp2;have HB2:=Lib.hid (Ab HB1.out hb2);have HY2:=Lib.hid (HY1.out.into hb2);have hg:w.heap.size≤g:=by have:=HB1.out.size; omega
 have HCC:=Lib.hid hc2;clear hp2 hb2 hg2 hc2;obtain ⟨bd,eB,_,hcb⟩:=HY2.out.mem.2.2.at_ (show 0<(Ac y).length by rw [Aa,H1.out]; decide);subst eB;rw [← AA (show 0<(Ac y).length by rw [Aa,H1.out]; decide),HYG.out,show bd.add 0=bd from by simp [Addr.add]] at hcb;rw [H1.out]
 go_wp2_with fail
 refine (Vh g (len x) c' (Ac x) y w2 rfl HP2.out (AB _) (by omega) hy0 hy32).mono ?_
 rintro e w3 ⟨rfl,⟨ds,s1,s2,s3,s4⟩,s5⟩
 rw [Az] at s3;have S1:=Lib.hid s1;have S2:=Lib.hid s2;have S3:=Lib.hid s3;have S4:=Lib.hid s4;have HB3:=Lib.hid (HB2.out.grown s5 HB2.out.size (λk hk=>by injection hk with hk; omega));clear s1 s2 s3 s4 s5;rw [Az]
 go_wp2_with fail
 refine (Ej _ (len x) c' ds _ S1.out S4.out.mem (by omega) HCC.out S2.out).mono ?_
 rintro e w4 ⟨rfl,hw⟩
 replace hw:=hw.symm;subst hw
 go_wp2_with fail
 refine (DO (x % y) _ (by omega)).mono ?_
 rintro e w5 ⟨v5,rfl,hv5,hb5⟩
 go_wp2
 go_ret2
 refine ⟨_,_,rfl,?_,hv5,Ab HB3.out hb5⟩;have:=(S4.out.nat S2.out (c:=c') (by rw [S1.out]; exact HCC.out)).into hb5;rw [← S3.out];exact this
set_option maxHeartbeats 1600000 in
theorem VP(va vb:Value)(x y:Nat)(w:World)(ha:AM w va x)(hb:AM w vb y)(hla:len x≤1099511627775)(h1:2≤len y)(h3:3≤len x)(hle:y≤x) :
  Calls Tryz.prog 140 #[va,vb] w (F8 (x / y) (x % y) w):=by
 have hlen:len y≤len x:=Bm hle;obtain ⟨A,c,rfl,HA⟩:=ha.open_;obtain ⟨B,d,rfl,HB⟩:=hb.open_;obtain ⟨v,hc,hv0⟩:∃ v:Int,G5 x y=v∧0≤v:=⟨_,rfl,by rcases Nat.lt_or_ge y x with h | h; rw [Fk h]; omega; rw [FH (by omega)]; omega⟩;have HC:=Lib.hid hc;have hl2:decide ((len x:Int)≤2)=false:=by simp; omega
 have hl2':decide (len x≤2)=false:=by simp; omega
 have hl1:((len y:Int) == 1)=false:=by simp; omega
 clear hc
 go_enter Tryz.func140,Tryz.ntmps140
 go_wp2_with fail
 refine (I_ _ _ _ _ x y _ HA.out HB.out (by omega) (by omega)).mono ?_
 rintro e w1 ⟨rfl,hb1⟩
 have HB1:=Lib.hid hb1;have HA1:=Lib.hid (HA.out.into hb1);have HY1:=Lib.hid (HB.out.into hb1);clear hb1;rw [HC.out]
 go_wp2_with fail
 refine (Pp A B c d x y w1 HA1.out HY1.out hla h1 hle).mono ?_
 rintro e w2 ⟨vq,vr,rfl,hq,hr,hb2⟩
 go_wp2
 go_ret2
 exact ⟨_,_,rfl,hq,hr,Ab HB1.out hb2⟩
theorem Pa(va vb:Value)(x y:Nat)(w:World)(ha:AM w va x)(hb:AM w vb y)(hla:len x≤1099511627775)(hlb:len y≤1099511627775)(hy:0<y) :
  Calls Tryz.prog 140 #[va,vb] w (F8 (x / y) (x % y) w):=by
 rcases Nat.lt_or_ge x y with hlt | hge
 ·exact lY va vb x y w ha hb (by omega) (by omega) hlt
 ·rcases Nat.lt_or_ge (len x) 3 with h3 | h3
  ·refine UU va vb x y w ha hb hy hge ?_
   have h1:=B7 x;have h2:4294967296 ^ len x≤4294967296 ^ 2:=Nat.pow_le_pow_right (by decide) (by omega);rw [show 4294967296 ^ 2=18446744073709551616 from rfl] at h2;omega
  ·rcases Nat.lt_or_ge (len y) 2 with h2 | h2
   ·have h0:len y≠0:=λh=>by rw [Bh] at h; omega
    exact XE va vb x y w ha hb (by omega) (by omega) h3 hge
   ·exact VP va vb x y w ha hb hla h2 h3 hge
theorem Ze(va vb:Value)(a b:Int)(w:World)(ha:Aw w va a)(hb:Aw w vb b)(hla:len a.natAbs≤549755813888)(hlb:len b.natAbs≤549755813888)(hb0:b≠0) :
  Calls Tryz.prog 136 #[va,vb] w (kI (a / b) (a % b) 0 w):=
 Vw va vb a b w ha hb hla hlb hb0 λu v W hu hv=>Pa u v _ _ W hu hv (by omega) (by omega) (by omega)
theorem Ic(x:Int){y:Int}(hy:0<y):(x / y).natAbs≤x.natAbs:=by
 have h1:=Int.mul_ediv_add_emod x y;have h2:=Int.emod_nonneg x (show y≠0 by omega);have h3:=Int.emod_lt_of_pos x hy
 rcases Int.lt_or_le (x / y) 0 with h | h
 ·have h4:y*(x / y)≤1*(x / y):=Int.mul_le_mul_of_nonpos_right (by omega) (by omega)
  rcases Int.lt_or_le (x / y) (-1) with h5 | h5
  ·have h6:y*(x / y+1)≤1*(x / y+1):=Int.mul_le_mul_of_nonpos_right (by omega) (by omega)
   rw [Int.mul_add] at h6;omega
  ·have h7:x / y = -1:=by omega
   rw [h7] at h1 ⊢;omega
 ·have h4:1*(x / y)≤y*(x / y):=Int.mul_le_mul_of_nonneg_right (by omega) h
  omega
theorem Sm.div{x y:Int}{i:Nat}(h:Sm x i):Sm (x / y) i:=by
 unfold Sm at *;have:(x / y).natAbs≤x.natAbs:=by
  rcases Int.lt_trichotomy y 0 with hy | hy | hy
  ·rw [show x / y = -(x / (-y)) from by rw [Int.ediv_neg,Int.neg_neg],Int.natAbs_neg]
   exact Ic _ (by omega)
  ·subst hy; simp
  ·exact Ic _ hy
 omega
theorem Sm.mod{x y:Int}{j:Nat}(h:Sm y j)(hy:y≠0):Sm (x % y) j:=by
 unfold Sm at *;have h1:=Int.emod_nonneg x hy;have h2:=Int.emod_lt x hy;omega
theorem Sm.abs{x:Int}{i:Nat}(h:Sm x i):Sm ((x.natAbs:Nat):Int) i:=by
 unfold Sm at *;rw [Int.natAbs_natCast];exact h
theorem AaR{z:Int}{k:Nat}(h:Sm z k)(hk:k≤1000000000):len z.natAbs≤549755813888:=Nat.le_trans (Bc h) (by omega)
section
variable {w : World} {va vb : Value} {x y : Int} {i j : Nat}
theorem Ad9(ha:(Ah x).p va w)(hb:(Ah y).p vb w)(sx:Sm x i)(sy:Sm y j)(hi:i≤1000000000)(hj:j≤1000000000)(hy:y≠0):Calls Tryz.prog 136 #[va,vb] w (Ak (ER (Ah (x / y)) (Ah (x % y)) (Ap (.int .i64 0))) w):=
 (Ze va vb x y w ha hb (AaR sx hi) (AaR sy hj) hy).mono λ_ _ ⟨_vq,_vr,he,hq,hr,hb⟩=>⟨_,he,⟨_,_,_,rfl,hq,hr,rfl⟩,hb⟩
theorem NY{n:Nat}(ha:(AH n).p va w)(hv:(Ap (.bool false)).p vb w)(hn:len n≤4398046511104):Calls Tryz.prog 115 #[va,vb] w (Ak (Ah (n:Int)) w):=by
 have hv:vb = .bool false:=hv;subst hv;have ha:AM w va n:=ha;obtain ⟨A,c,rfl,H⟩:=ha.open_;have h:=D8 A (len n) c (Ac n) false w (Aa n) H.out.mem.2.2.raw hn H.out.mem.2.1 (AB n);rw [Az] at h;exact h
end
theorem rY{ρ:Operand→Value}{w:World}:Hl (.build 34 #[]) ρ w (Ah 0):=⟨.agg #[.bool false,.slice none 0 0],w,λo ho=>by unfold execOp; rw [ho]; simp [go_sem],Below.refl _ _,Aw.zero w none 0⟩
theorem Iz(q:Nat)(w:World):(Instr.fieldAt 34 (.pointer (some ⟨q,0,none⟩)) 1).run Tryz.prog w = .ok (.pointer (some ⟨q,1,none⟩)) w:=by simp [go_sem]
theorem BL{z:Int}(w:World)(q:Nat)(h:(Ao z).p q w):∃ v,(Instr.loadAt 32 (.pointer (some ⟨q,1,none⟩))).run Tryz.prog w = .ok v w∧(AH z.natAbs).p v w:=by
 obtain ⟨b,A,k,c,hh,s,e,hs⟩:=h;have h1:w.cell? ⟨q,1,none⟩=some (.slice A k c):=by rw [cell_of_row w q 1 _ _ (0,0) hh]; rfl
 simp only [Value.agg.injEq,Array.mk.injEq,List.cons.injEq,and_true] at e;exact ⟨.slice A k c,by simp [go_sem,h1],e.2 ▸ hs⟩
def Cb(w:World)(v:Value)(n d:Int):Prop:=∃ b A k c b' A' k' c',v = .agg #[.bool b,.slice A k c,.bool b',.slice A' k' c']∧Aw w (.agg #[.bool b,.slice A k c]) n∧Aw w (.agg #[.bool b',.slice A' k' c']) d
theorem Cb.grow{w w':World}{v:Value}{n d:Int}(h:Cb w v n d)(hg:Bz w w'):Cb w' v n d:=by
 obtain ⟨b,A,k,c,b',A',k',c',e,h1,h2⟩:=h;exact ⟨b,A,k,c,b',A',k',c',e,h1.grow hg,h2.grow hg⟩
def DH(n d:Int):PF:=⟨λv w=>Cb w v n d,λ_ _ _ hg h=>h.grow hg⟩
abbrev As(q:Rat):PF:=DH q.num (q.den:Int)
def Hj(n d:Int):CF:=⟨λg w=>∃ b A k c b' A' k' c',w.heap[g]? = some (.cells #[.bool b,.slice A k c,.bool b',.slice A' k' c'] 36 (0,0))∧Aw w (.agg #[.bool b,.slice A k c]) n∧Aw w (.agg #[.bool b',.slice A' k' c']) d,
 λ_ _ _ hg e ⟨b,A,k,c,b',A',k',c',h,h1,h2⟩=>⟨b,A,k,c,b',A',k',c',e.trans h,h1.grow hg,h2.grow hg⟩,λ_ _ ⟨_,_,_,_,_,_,_,_,h,_⟩=>⟨_,_,h,by decide⟩⟩
abbrev BD(q:Rat):CF:=Hj q.num (q.den:Int)
abbrev BG:CF:=AjC #[.bool false,.slice none 0 0,.bool false,.slice none 0 0] 36 (by decide)
section
variable {w : World} {q : Nat} {n d z : Int}
theorem Ff{b b':Value}{A A':Value}(hh:w.heap[q]? = some (.cells #[b,A,b',A'] 36 (0,0))):w.cell? ⟨q,0,none⟩=some b∧w.cell? ⟨q,1,none⟩=some A∧w.cell? ⟨q,2,none⟩=some b'∧w.cell? ⟨q,3,none⟩=some A':=
 ⟨by rw [cell_of_row w q 0 _ _ (0,0) hh]; rfl,by rw [cell_of_row w q 1 _ _ (0,0) hh]; rfl,by rw [cell_of_row w q 2 _ _ (0,0) hh]; rfl,by rw [cell_of_row w q 3 _ _ (0,0) hh]; rfl⟩
theorem A8(w:World)(q:Nat)(h:(Hj n d).p q w):∃ v,(Instr.loadAt 36 (.pointer (some ⟨q,0,none⟩))).run Tryz.prog w = .ok v w∧(DH n d).p v w:=by
 obtain ⟨b,A,k,c,b',A',k',c',hh,h1,h2⟩:=h;obtain ⟨e0,e1,e2,e3⟩:=Ff hh;exact ⟨.agg #[.bool b,.slice A k c,.bool b',.slice A' k' c'],by simp [go_sem,e0,e1,e2,e3],_,_,_,_,_,_,_,_,rfl,h1,h2⟩
theorem Ca(w:World)(q:Nat)(h:(Hj n d).p q w):∃ v,(Instr.loadAt 34 (.pointer (some ⟨q,0,none⟩))).run Tryz.prog w = .ok v w∧(Ah n).p v w:=by
 obtain ⟨b,A,k,c,b',A',k',c',hh,h1,h2⟩:=h;obtain ⟨e0,e1,e2,e3⟩:=Ff hh;exact ⟨.agg #[.bool b,.slice A k c],by simp [go_sem,e0,e1],h1⟩
theorem Ci(w:World)(q:Nat)(h:(Hj n d).p q w):∃ v,(Instr.loadAt 34 (.pointer (some ⟨q,2,none⟩))).run Tryz.prog w = .ok v w∧(Ah d).p v w:=by
 obtain ⟨b,A,k,c,b',A',k',c',hh,h1,h2⟩:=h;obtain ⟨e0,e1,e2,e3⟩:=Ff hh;exact ⟨.agg #[.bool b',.slice A' k' c'],by simp [go_sem,e2,e3],h2⟩
theorem GN(q:Nat)(w:World):(Instr.fieldAt 36 (.pointer (some ⟨q,0,none⟩)) 0).run Tryz.prog w = .ok (.pointer (some ⟨q,0,none⟩)) w:=by simp [go_sem]
theorem H9(q:Nat)(w:World):(Instr.fieldAt 36 (.pointer (some ⟨q,0,none⟩)) 1).run Tryz.prog w = .ok (.pointer (some ⟨q,2,none⟩)) w:=by simp [go_sem]
def gW:Obj:=.cells #[.bool false,.slice none 0 0,.bool false,.slice none 0 0] 36 (0,0)
theorem Bg(w:World):(Instr.alloc 36 true (.tuple #[])).run Tryz.prog w = .ok (.pointer (some ⟨w.heap.size,0,none⟩)) (w.alloc gW):=by simp [go_sem,gW]
theorem Be(w:World):BG.p w.heap.size (w.alloc gW):=JG w gW
theorem Bo(w:World)(v:Value)(h:(DH n d).p v w):∃ ob,(Instr.box 36 v).run Tryz.prog w = .ok (.pointer (some ⟨w.heap.size,0,none⟩)) (w.alloc ob)∧(Hj n d).p w.heap.size (w.alloc ob):=by
 obtain ⟨b,A,k,c,b',A',k',c',rfl,h1,h2⟩:=h;exact ⟨.cells #[.bool b,.slice A k c,.bool b',.slice A' k' c'] 36 (0,0),by simp [go_sem],b,A,k,c,b',A',k',c',JG w _,h1.into (Aj w _),h2.into (Aj w _)⟩
def pG(w:World)(q:Nat):Prop:=∃ b A k c b' A' k' c',w.heap[q]? = some (.cells #[.bool b,.slice A k c,.bool b',.slice A' k' c'] 36 (0,0))
theorem Ri{old:CF}(ho:∀ q w,old.p q w→pG w q):Gy 36 old (DH n d) (Hj n d):=by
 intro w q v h1 h2;obtain ⟨b,A,k,c,b',A',k',c',rfl,h2,h3⟩:=h2;obtain ⟨x0,B0,k0,c0,x1,B1,k1,c1,hh⟩:=ho q w h1;obtain ⟨e0,e1,e2,e3⟩:=Ff hh;have f0:=AF hh 0;have f1:=AF hh 1;have f2:=AF hh 2;have f3:=AF hh 3;have hne:(36:TypeId)≠109:=by decide
 have g0:=Bz.set hh hne 0 (.bool b);have b0:=AI hh 0 (.bool b);have g1:=Bz.set b0 hne 1 (.slice A k c);have b1:=AI b0 1 (.slice A k c);have g2:=Bz.set b1 hne 2 (.bool b');have b2:=AI b1 2 (.bool b');have g3:=Bz.set b2 hne 3 (.slice A' k' c');have b3:=AI b2 3 (.slice A' k' c');have g:=((g0.trans g1).trans g2).trans g3;refine ⟨(((w.setCell ⟨q,0,none⟩ (.bool b)).setCell ⟨q,1,none⟩ (.slice A k c)).setCell ⟨q,2,none⟩ (.bool b')).setCell ⟨q,3,none⟩ (.slice A' k' c'),by simp [go_sem,e0,e1,e2,e3,f0,f1,f2,f3],λB W hq hB=>(((hB.setCell hq _).setCell hq _).setCell hq _).setCell hq _,g,λj hj=>?_,b,A,k,c,b',A',k',c',b3,h2.grow g,h3.grow g⟩;rw [Below.heap_setCell _ _ _ _ hj,Below.heap_setCell _ _ _ _ hj,Below.heap_setCell _ _ _ _ hj,Below.heap_setCell _ _ _ _ hj]
theorem Ba:Gy 36 BG (DH n d) (Hj n d):=Ri λ_ _ h=>⟨_,_,_,_,_,_,_,_,h⟩
theorem Xs{n' d':Int}:Gy 36 (Hj n' d') (DH n d) (Hj n d):=Ri λ_ _ ⟨b,A,k,c,b',A',k',c',h,_⟩=>⟨b,A,k,c,b',A',k',c',h⟩
theorem Cb.mk{w:World}{a b:Value}(h1:Aw w a n)(h2:Aw w b d):∃ x A k c y B l e,a = .agg #[.bool x,.slice A k c]∧b = .agg #[.bool y,.slice B l e]∧Cb w (.agg #[.bool x,.slice A k c,.bool y,.slice B l e]) n d:=by
 obtain ⟨x,A,k,c,rfl,H1⟩:=h1.open_;obtain ⟨y,B,l,e,rfl,H2⟩:=h2.open_;exact ⟨x,A,k,c,y,B,l,e,rfl,rfl,x,A,k,c,y,B,l,e,rfl,H1.out,H2.out⟩
end
section
variable {ρ : Operand → Value} {w : World} {x y : Operand} {n d : Int}
theorem AbU(hx:(Ah n).p (ρ x) w)(hy:(Ah d).p (ρ y) w):Hl (.build 36 #[(0,x),(1,y)]) ρ w (DH n d):=by
 obtain ⟨b,A,k,c,b',A',k',c',e1,e2,h⟩:=Cb.mk hx hy;exact ⟨_,w,λo ho=>by unfold execOp; rw [ho]; simp [go_sem,e1,e2],Below.refl _ _,h⟩
theorem Cn{n' d':Int}(e1:n=n')(e2:d=d')(hx:(Ah n).p (ρ x) w)(hy:(Ah d).p (ρ y) w):Hl (.build 36 #[(0,x),(1,y)]) ρ w (DH n' d'):=by
 subst e1 e2;exact AbU hx hy
theorem RE:Hl (.build 36 #[]) ρ w (DH 0 0):=⟨.agg #[.bool false,.slice none 0 0,.bool false,.slice none 0 0],w,λo ho=>by unfold execOp; rw [ho]; simp [go_sem],Below.refl _ _,_,_,_,_,_,_,_,_,rfl,Aw.zero w none 0,Aw.zero w none 0⟩
end
section
inductive CE where
 | v (k:Nat)
 | lit (z:Int)
 | ap (f:Nat) (a b:CE)
 deriving Inhabited,DecidableEq
def CE.beq:CE→CE→Bool
 | .v a,.v b=>Nat.beq a b
 | .lit a,.lit b=>decide (a=b)
 | .ap f a b,.ap f' a' b'=>Nat.beq f f' && CE.beq a a' && CE.beq b b'
 | _,_=>false
theorem CE.beq_eq:∀{a b:CE},CE.beq a b=true→a=b
 | .v a,.v b,h=>by unfold CE.beq at h; rw [Nat.eq_of_beq_eq_true h]
 | .lit a,.lit b,h=>by unfold CE.beq at h; rw [of_decide_eq_true h]
 | .ap f a b,.ap f' a' b',h=>by
  unfold CE.beq at h;rw [Bool.and_eq_true,Bool.and_eq_true] at h;rw [Nat.eq_of_beq_eq_true h.1.1,CE.beq_eq h.1.2,CE.beq_eq h.2]
 | .v _,.lit _,h=>by cases h
 | .v _,.ap _ _ _,h=>by cases h
 | .lit _,.v _,h=>by cases h
 | .lit _,.ap _ _ _,h=>by cases h
 | .ap _ _ _,.v _,h=>by cases h
 | .ap _ _ _,.lit _,h=>by cases h
structure XP where
 p:(Nat→Prop)→World→List Value→Prop
 st:∀(M M':Nat→Prop)(w w':World)(cs:List Value),Bz w w'→(∀ b:Nat,b<w.heap.size → ¬ M b→w'.heap[b]? = w.heap[b]?)→(∀ b:Nat,b<w.heap.size→M' b→M b)→p M w cs→p M' w' cs
 one:∀ M w cs,p M w cs→∀ v∈cs,v.oneCell'=true
class Dn where
 X:CE→XP
 B:CE→XP
 N:CE→Nat
 J:CE→Nat
inductive AV where
 | any
 | val (v:Value)
 | num (z:Int)
 | rat (q:Rat)
 | rats (l:List Rat)
 | row (n:Nat) (l:List AV)
 | rptr (l:List AV)
 | ptr (o off:Nat)
 | sl (o off len:Nat) (cap:Option Nat)
 | fn (f:FuncId) (first caps:List AV)
 | ext (n:Nat) (ag:Bool) (c:CE)
 | slx (o:Nat) (c:CE)
 | epx (o:Nat) (c:CE)
 | agg (l:List AV)
 | tup (l:List AV)
 deriving Inhabited
structure OB where
 ty:TypeId
 k:Nat
 cs:List AV
 room:Bool
 bl:Option CE
def AV.sz:AV→Nat
 | .num _=>2
 | .rat _=>4
 | .ext n _ _=>n
 | _=>1
abbrev B6:=Nat→Option (Nat × Nat)
def Mz:Value→Bool
 | .bool _ | .int _ _ | .string _ | .nilFunc | .nilIface=>true
 | .slice none _ _ | .pointer none=>true
 | .slice (some _) 0 _=>true
 | _=>false
def AX(w:World):List Rat→List Value→Prop
 | [],cs=>cs=[]
 | q :: l,cs=>∃ a b c d r,cs=a :: b :: c :: d :: r∧Aw w (.agg #[a,b]) q.num∧Aw w (.agg #[c,d]) (q.den:Int)∧AX w l r
section
variable [Dn]
mutual
def Rp(ρ:B6)(M:Nat→Prop)(w:World):AV→List Value→Prop
 | .val v,cs=>cs=[v]∧Mz v=true
 | .num z,cs=>∃ a b,cs=[a,b]∧Aw w (.agg #[a,b]) z
 | .rat q,cs=>∃ a b c d,cs=[a,b,c,d]∧Aw w (.agg #[a,b]) q.num∧Aw w (.agg #[c,d]) (q.den:Int)
 | .rats l,cs=>∃ A c,cs=[.slice A l.length c]∧l.length≤c∧(l.length≠0→∃ g off xs,A=some ⟨g,off,none⟩ ∧ ¬ M g∧g<w.heap.size∧w.rangeAt g off xs∧AX w l xs)
 | .row n l,cs=>∃ A c,cs=[.slice A n c]∧n≤c∧(n≠0→∃ g off xs,A=some ⟨g,off,none⟩ ∧ ¬ M g∧g<w.heap.size∧w.rangeAt g off xs∧BC ρ M w l xs)
 | .rptr l,cs=>∃ g off xs,cs=[.pointer (some ⟨g,off,none⟩)] ∧ ¬ M g∧g<w.heap.size∧w.rangeAt g off xs∧BC ρ M w l xs
 | .ptr o off,cs=>∃ g c,ρ o=some (g,c)∧cs=[.pointer (some ⟨g,off,none⟩)]
 | .sl o off len cap,cs=>∃ g c k,ρ o=some (g,c)∧cs=[.slice (some ⟨g,off,none⟩) len k]∧len≤k∧(∀ n,cap=some n→k=n)∧(cap=none→off=0∧k=c)
 | .fn f a b,cs=>∃ xs ys,cs=[.func (.func f) xs ys]∧BC ρ M w a xs.toList∧BC ρ M w b ys.toList
 | .ext n _ c,cs=>cs.length=n∧(Dn.X c).p M w cs
 | .slx o c,cs=>∃ g k cc,ρ o=some (g,cc)∧cs=[.slice (some ⟨g,0,none⟩) (Dn.N c) k]∧Dn.N c≤k
 | .epx o c,cs=>∃ g cc,ρ o=some (g,cc)∧cs=[.pointer (some ⟨g,Dn.J c,none⟩)]
 | .any,_=>False
 | .agg _,_=>False
 | .tup _,_=>False
def BC(ρ:B6)(M:Nat→Prop)(w:World):List AV→List Value→Prop
 | [],cs=>cs=[]
 | a :: l,cs=>∃ x y,cs=x ++ y∧Rp ρ M w a x∧BC ρ M w l y
end
def Co(ρ:B6)(M:Nat→Prop)(w:World)(a:AV)(v:Value):Prop:=match a with
 | .any=>True
 | .val u=>v=u
 | .num z=>∃ cs,v = .agg cs∧Rp ρ M w (.num z) cs.toList
 | .rat q=>∃ cs,v = .agg cs∧Rp ρ M w (.rat q) cs.toList
 | .agg l=>∃ cs,v = .agg cs∧BC ρ M w l cs.toList
 | .ext n true c=>∃ cs,v = .agg cs∧Rp ρ M w (.ext n true c) cs.toList
 | .tup _=>False
 | a=>Rp ρ M w a [v]
def Cz(ρ:B6)(M:Nat→Prop)(w:World):List AV→List Value→Prop
 | [],vs=>vs=[]
 | a :: l,vs=>∃ v r,vs=v :: r∧Co ρ M w a v∧Cz ρ M w l r
def RV(ρ:B6)(M:Nat→Prop)(w:World)(a:AV)(v:Value):Prop:=match a with
 | .tup l=>∃ vs,v = .tuple vs∧Cz ρ M w l vs.toList
 | a=>Co ρ M w a v
end
structure Tr (ρ:B6) (M:Nat→Prop) (w:World) (ρ':B6) (M':Nat→Prop) (w':World):Prop where
 grow:Bz w w'
 keep:∀ b:Nat,b<w.heap.size → ¬ M b→w'.heap[b]? = w.heap[b]?
 mono:∀ b:Nat,b<w.heap.size→M' b→M b
 ext:∀ o p,ρ o=some p→ρ' o=some p
section
variable [Dn] {ρ ρ' : B6} {M M' : Nat → Prop} {w w' : World}
theorem Tr.refl(ρ:B6)(M:Nat→Prop)(w:World):Tr ρ M w ρ M w:=⟨Bz.refl w,λ_ _ _=>rfl,λ_ _ h=>h,λ_ _ h=>h⟩
theorem Tr.trans{ρ2:B6}{M2:Nat→Prop}{w2:World}(h:Tr ρ M w ρ' M' w')(k:Tr ρ' M' w' ρ2 M2 w2):Tr ρ M w ρ2 M2 w2:=
 ⟨h.grow.trans k.grow,λb hb hm=>(k.keep b (Nat.lt_of_lt_of_le hb h.grow.size) (λh2=>hm (h.mono b hb h2))).trans (h.keep b hb hm),λb hb h2=>h.mono b hb (k.mono b (Nat.lt_of_lt_of_le hb h.grow.size) h2),λo p e=>k.ext o p (h.ext o p e)⟩
theorem Tr.range(h:Tr ρ M w ρ' M' w'){g off:Nat}{xs:List Value}(hm:¬ M g)(hg:g<w.heap.size)(hr:w.rangeAt g off xs):¬ M' g∧g<w'.heap.size∧w'.rangeAt g off xs:=
 ⟨λk=>hm (h.mono g hg k),Nat.lt_of_lt_of_le hg h.grow.size,λj v e=>(World.cell?_of_block (w:=w) (h.keep g hg hm)).trans (hr j v e)⟩
theorem AX.grow(h:Bz w w'):∀{l:List Rat}{cs:List Value},AX w l cs→AX w' l cs
 | [],_,r=>r
 | _ :: _,_,⟨a,b,c,d,r,e,h1,h2,h3⟩=>⟨a,b,c,d,r,e,h1.grow h,h2.grow h,AX.grow h h3⟩
mutual
theorem Rp.st(h:Tr ρ M w ρ' M' w'):∀(a:AV)(cs:List Value),Rp ρ M w a cs→Rp ρ' M' w' a cs
 | .val _,_,r=>by unfold Rp at r ⊢; exact r
 | .num _,_,r=>by
  unfold Rp at r ⊢;obtain ⟨a,b,e,i⟩:=r;exact ⟨a,b,e,i.grow h.grow⟩
 | .rat _,_,r=>by
  unfold Rp at r ⊢;obtain ⟨a,b,c,d,e,i,j⟩:=r;exact ⟨a,b,c,d,e,i.grow h.grow,j.grow h.grow⟩
 | .rats l,_,r=>by
  unfold Rp at r ⊢;obtain ⟨A,c,e,hc,r⟩:=r;refine ⟨A,c,e,hc,λh0=>?_⟩;obtain ⟨g,off,xs,e1,m,s,ra,rc⟩:=r h0;obtain ⟨m',s',ra'⟩:=h.range m s ra;exact ⟨g,off,xs,e1,m',s',ra',rc.grow h.grow⟩
 | .row n l,_,r=>by
  unfold Rp at r ⊢;obtain ⟨A,c,e,hc,r⟩:=r;refine ⟨A,c,e,hc,λh0=>?_⟩;obtain ⟨g,off,xs,e1,m,s,ra,rc⟩:=r h0;obtain ⟨m',s',ra'⟩:=h.range m s ra;exact ⟨g,off,xs,e1,m',s',ra',BC.st h l xs rc⟩
 | .rptr l,_,r=>by
  unfold Rp at r ⊢;obtain ⟨g,off,xs,e1,m,s,ra,rc⟩:=r;obtain ⟨m',s',ra'⟩:=h.range m s ra;exact ⟨g,off,xs,e1,m',s',ra',BC.st h l xs rc⟩
 | .ptr _ _,_,r=>by
  unfold Rp at r ⊢;obtain ⟨g,c,e,k⟩:=r;exact ⟨g,c,h.ext _ _ e,k⟩
 | .sl _ _ _ _,_,r=>by
  unfold Rp at r ⊢;obtain ⟨g,c,k,e,r⟩:=r;exact ⟨g,c,k,h.ext _ _ e,r⟩
 | .fn _ a b,_,r=>by
  unfold Rp at r ⊢;obtain ⟨xs,ys,e,r1,r2⟩:=r;exact ⟨xs,ys,e,BC.st h a _ r1,BC.st h b _ r2⟩
 | .ext _ _ c,_,r=>by
  unfold Rp at r ⊢;exact ⟨r.1,(Dn.X c).st _ _ _ _ _ h.grow h.keep h.mono r.2⟩
 | .slx _ _,_,r=>by
  unfold Rp at r ⊢;obtain ⟨g,k,cc,e,r⟩:=r;exact ⟨g,k,cc,h.ext _ _ e,r⟩
 | .epx _ _,_,r=>by
  unfold Rp at r ⊢;obtain ⟨g,cc,e,r⟩:=r;exact ⟨g,cc,h.ext _ _ e,r⟩
 | .any,_,r=>by unfold Rp at r; exact r.elim
 | .agg _,_,r=>by unfold Rp at r; exact r.elim
 | .tup _,_,r=>by unfold Rp at r; exact r.elim
theorem BC.st(h:Tr ρ M w ρ' M' w'):∀(l:List AV)(cs:List Value),BC ρ M w l cs→BC ρ' M' w' l cs
 | [],_,r=>by unfold BC at r ⊢; exact r
 | a :: l,_,r=>by
  unfold BC at r ⊢;obtain ⟨x,y,e,r1,r2⟩:=r;exact ⟨x,y,e,Rp.st h a x r1,BC.st h l y r2⟩
end
theorem Co.st(h:Tr ρ M w ρ' M' w'){a:AV}{v:Value}(r:Co ρ M w a v):Co ρ' M' w' a v:=by
 unfold Co at r ⊢;split at r <;> first
  | exact r
  | (obtain ⟨cs,e,r⟩:=r; exact ⟨cs,e,Rp.st h _ _ r⟩)
  | (obtain ⟨cs,e,r⟩:=r; exact ⟨cs,e,BC.st h _ _ r⟩)
  | exact Rp.st h _ _ r
theorem Cz.st(h:Tr ρ M w ρ' M' w'):∀{l:List AV}{vs:List Value},Cz ρ M w l vs→Cz ρ' M' w' l vs
 | [],_,r=>r
 | _ :: _,_,⟨v,r,e,h1,h2⟩=>⟨v,r,e,h1.st h,Cz.st h h2⟩
theorem RV.st(h:Tr ρ M w ρ' M' w'){a:AV}{v:Value}(r:RV ρ M w a v):RV ρ' M' w' a v:=by
 unfold RV at r ⊢;split at r
 ·obtain ⟨vs,e,r⟩:=r
  exact ⟨vs,e,Cz.st h r⟩
 ·exact Co.st h r
end
section
variable [Dn] {ρ : B6} {M : Nat → Prop} {w : World}
theorem Rp.len:∀{a:AV}{cs:List Value},Rp ρ M w a cs→cs.length=a.sz
 | .val _,_,r=>by unfold Rp at r; rw [r.1]; rfl
 | .num _,_,r=>by unfold Rp at r; obtain ⟨_,_,rfl,_⟩:=r; rfl
 | .rat _,_,r=>by unfold Rp at r; obtain ⟨_,_,_,_,rfl,_⟩:=r; rfl
 | .rats _,_,r=>by unfold Rp at r; obtain ⟨_,_,rfl,_⟩:=r; rfl
 | .row _ _,_,r=>by unfold Rp at r; obtain ⟨_,_,rfl,_⟩:=r; rfl
 | .rptr _,_,r=>by unfold Rp at r; obtain ⟨_,_,_,rfl,_⟩:=r; rfl
 | .ptr _ _,_,r=>by unfold Rp at r; obtain ⟨_,_,_,rfl⟩:=r; rfl
 | .sl _ _ _ _,_,r=>by unfold Rp at r; obtain ⟨_,_,_,_,rfl,_⟩:=r; rfl
 | .fn _ _ _,_,r=>by unfold Rp at r; obtain ⟨_,_,rfl,_⟩:=r; rfl
 | .ext _ _ _,_,r=>by unfold Rp at r; exact r.1
 | .slx _ _,_,r=>by unfold Rp at r; obtain ⟨_,_,_,_,rfl,_⟩:=r; rfl
 | .epx _ _,_,r=>by unfold Rp at r; obtain ⟨_,_,_,rfl⟩:=r; rfl
 | .any,_,r=>by unfold Rp at r; exact r.elim
 | .agg _,_,r=>by unfold Rp at r; exact r.elim
 | .tup _,_,r=>by unfold Rp at r; exact r.elim
def szs:List AV→Nat
 | []=>0
 | a :: l=>a.sz+szs l
theorem BC.len:∀{l:List AV}{cs:List Value},BC ρ M w l cs→cs.length=szs l
 | [],_,r=>by unfold BC at r; rw [r]; rfl
 | _ :: _,_,r=>by
  unfold BC at r;obtain ⟨x,y,rfl,r1,r2⟩:=r;rw [List.length_append,r1.len,BC.len r2];rfl
theorem BC.app:∀{l l':List AV}{cs cs':List Value},BC ρ M w l cs→BC ρ M w l' cs'→BC ρ M w (l ++ l') (cs ++ cs')
 | [],_,_,_,r,r'=>by unfold BC at r; rw [r]; exact r'
 | _ :: _,_,_,_,r,r'=>by
  unfold BC at r;obtain ⟨x,y,rfl,r1,r2⟩:=r;rw [List.cons_append];unfold BC;exact ⟨x,_,List.append_assoc _ _ _,r1,BC.app r2 r'⟩
theorem BC.one{a:AV}{cs:List Value}(r:Rp ρ M w a cs):BC ρ M w [a] cs:=by
 unfold BC;exact ⟨cs,[],(List.append_nil _).symm,r,by unfold BC; rfl⟩
theorem BC.one'{a:AV}{cs:List Value}(r:BC ρ M w [a] cs):Rp ρ M w a cs:=by
 unfold BC at r;obtain ⟨x,y,rfl,r1,r2⟩:=r;unfold BC at r2;rw [r2,List.append_nil];exact r1
def El:Nat→List AV→Option (List AV)
 | 0,l=>some l
 | _+1,[]=>none
 | n+1,a :: l=>if a.sz≤n+1 then El (n+1 - a.sz) l else match a with
  | .rat q=>if n+1 == 2 then some (.num (q.den:Int) :: l) else none
  | _=>none
def Fl:Nat→List AV→Option (List AV)
 | 0,_=>some []
 | _+1,[]=>none
 | n+1,a :: l=>if a.sz≤n+1 then (Fl (n+1 - a.sz) l).map (a :: ·) else match a with
  | .rat q=>if n+1 == 2 then some [.num q.num] else none
  | _=>none
theorem BC.drop:∀{l:List AV}{n:Nat}{l':List AV}{cs:List Value},El n l=some l'→BC ρ M w l cs→n≤cs.length∧BC ρ M w l' (cs.drop n)
 | l,0,l',cs,h,r=>by
  have h:some l=some l':=by unfold El at h; exact h
  obtain rfl:=Option.some.inj h;exact ⟨Nat.zero_le _,r⟩
 | [],n+1,l',cs,h,r=>by unfold El at h; cases h
 | a :: l,n+1,l',cs,h,r=>by
  unfold El at h;unfold BC at r;obtain ⟨x,y,rfl,r1,r2⟩:=r;have hx:=r1.len;split at h
  ·rename_i hle
   obtain ⟨h1,h2⟩:=BC.drop h r2;refine ⟨by rw [List.length_append,hx]; omega,?_⟩;rw [List.drop_append,hx,List.drop_eq_nil_of_le (by rw [hx]; exact hle),List.nil_append];exact h2
  ·split at h
   ·rename_i q _
    split at h
    ·rename_i hn
     have hn:n+1=2:=by simpa using hn
     cases h
     unfold Rp at r1;obtain ⟨a,b,c,d,rfl,i,j⟩:=r1;refine ⟨by rw [List.length_append]; simp; omega,?_⟩;rw [hn];unfold BC;exact ⟨[c,d],y,rfl,by unfold Rp; exact ⟨c,d,rfl,j⟩,r2⟩
    ·cases h
   ·cases h
theorem BC.take:∀{l:List AV}{n:Nat}{l':List AV}{cs:List Value},Fl n l=some l'→BC ρ M w l cs→n≤cs.length∧BC ρ M w l' (cs.take n)
 | l,0,l',cs,h,r=>by
  have h:some []=some l':=by unfold Fl at h; exact h
  obtain rfl:=Option.some.inj h;exact ⟨Nat.zero_le _,by unfold BC; rfl⟩
 | [],n+1,l',cs,h,r=>by unfold Fl at h; cases h
 | a :: l,n+1,l',cs,h,r=>by
  unfold Fl at h;unfold BC at r;obtain ⟨x,y,rfl,r1,r2⟩:=r;have hx:=r1.len;split at h
  ·rename_i hle
   cases ht:Fl (n+1 - a.sz) l with
   | none=>rw [ht] at h; cases h
   | some l1 =>
    rw [ht] at h
    cases h
    obtain ⟨h1,h2⟩:=BC.take ht r2;refine ⟨by rw [List.length_append,hx]; omega,?_⟩;rw [List.take_append,hx,List.take_of_length_le (by rw [hx]; exact hle)];unfold BC;exact ⟨x,_,rfl,r1,h2⟩
  ·split at h
   ·rename_i q _
    split at h
    ·rename_i hn
     have hn:n+1=2:=by simpa using hn
     cases h
     unfold Rp at r1;obtain ⟨a,b,c,d,rfl,i,j⟩:=r1;refine ⟨by rw [List.length_append]; simp; omega,?_⟩;rw [hn];exact BC.one (by unfold Rp; exact ⟨a,b,rfl,i⟩)
    ·cases h
   ·cases h
end
end
section
variable [Dn]
abbrev HP:=List (Nat × Option OB)
def lk:HP→Nat→Option OB
 | [],_=>none
 | x :: r,o=>if Nat.beq x.1 o then x.2 else lk r o
def FQ(H:Nat→Option OB):HP→Nat→Option OB
 | [],o=>H o
 | x :: r,o=>if Nat.beq x.1 o then x.2 else FQ H r o
theorem Rb(U H:HP)(o:Nat):lk (U ++ H) o=FQ (lk H) U o:=by
 induction U with
 | nil=>rfl
 | cons x r ih=>simp only [List.cons_append,lk,FQ,ih]
theorem K7{H:Nat→Option OB}{U:HP}{o:Nat}(h:∀ x∈U,x.1≠o):FQ H U o=H o:=by
 induction U with
 | nil=>rfl
 | cons x r ih =>
  simp only [FQ];rw [if_neg (by simpa using h x (by simp)),ih λy hy=>h y (by simp [hy])]
theorem uU{H H':Nat→Option OB}{U:HP}{o:Nat}(h:∃ x∈U,x.1=o):FQ H U o=FQ H' U o:=by
 induction U with
 | nil=>obtain ⟨_,hx,_⟩:=h; cases hx
 | cons x r ih =>
  simp only [FQ];split
  ·rfl
  ·rename_i hne
   refine ih ?_;obtain ⟨y,hy,e⟩:=h
   rcases List.mem_cons.1 hy with rfl | hy
   ·exact absurd (by simpa using e) hne
   ·exact ⟨y,hy,e⟩
structure QS (A:Nat→Prop) (w w':World):Prop where
 os:w'.os=w.os
 tape:w'.tape=w.tape
 output:w'.output=w.output
 size:w.heap.size≤w'.heap.size
 keep:∀ b:Nat,b<w.heap.size → ¬ A b→w'.heap[b]? = w.heap[b]?
theorem QS.refl(A:Nat→Prop)(w:World):QS A w w:=⟨rfl,rfl,rfl,Nat.le_refl _,λ_ _ _=>rfl⟩
theorem QS.trans{A:Nat→Prop}{a b c:World}(h:QS A a b)(k:QS A b c):QS A a c:=
 ⟨k.os.trans h.os,k.tape.trans h.tape,k.output.trans h.output,Nat.le_trans h.size k.size,λi hi hA=>(k.keep i (Nat.lt_of_lt_of_le hi h.size) hA).trans (h.keep i hi hA)⟩
theorem QS.below{A:Nat→Prop}{w w':World}(h:Below w.heap.size w w'):QS A w w':=⟨h.os,h.tape,h.output,h.size,λb hb _=>h.block b hb⟩
def Cj(ρ:B6)(M:Nat→Prop)(w:World)(b:OB)(cs:List Value):Prop:=match b.bl with
 | none=>BC ρ M w b.cs cs
 | some c=>(Dn.B c).p M w cs
theorem Cj.st{ρ ρ':B6}{M M':Nat→Prop}{w w':World}{b:OB}{cs:List Value}(h:Cj ρ M w b cs)(ht:Tr ρ M w ρ' M' w'):Cj ρ' M' w' b cs:=by
 unfold Cj at h ⊢;split at h
 ·exact BC.st ht _ _ h
 ·exact (Dn.B _).st _ _ _ _ _ ht.grow ht.keep ht.mono h
theorem Cj.rps{ρ:B6}{M:Nat→Prop}{w:World}{b:OB}{cs:List Value}(h:Cj ρ M w b cs)(hb:b.bl=none):BC ρ M w b.cs cs:=by
 unfold Cj at h;rw [hb] at h;exact h
theorem Cj.of{ρ:B6}{M:Nat→Prop}{w:World}{b:OB}{cs:List Value}(h:BC ρ M w b.cs cs)(hb:b.bl=none):Cj ρ M w b cs:=by
 unfold Cj;rw [hb];exact h
structure VX (ρ:B6) (M A:Nat→Prop) (w:World) (o:Nat) (b:OB) (g c:Nat) (arr:Array Value) (cs:List Value):Prop where
 at_:ρ o=some (g,c)
 mut_:M g
 own:A g
 blk:w.heap[g]? = some (.cells arr b.ty (0,0))
 ty:b.ty≠109∧b.ty≠5
 cells:Cj ρ M w b cs
 pre:∃ tl,arr.toList=cs ++ tl∧(b.room=false→tl=[])
 cap:b.room=true→arr.size=b.k*c∧c≤maxLen
structure RH (ρ:B6) (M A:Nat→Prop) (w:World) (H:Nat→Option OB):Prop where
 obj:∀ o b,H o=some b→∃ g c arr cs,VX ρ M A w o b g c arr cs
 inj:∀ o o' b b' g c c',H o=some b→H o'=some b'→ρ o=some (g,c)→ρ o'=some (g,c')→o=o'
section
variable {ρ ρ' : B6} {M M' A : Nat → Prop} {w w' : World} {H : Nat → Option OB}
theorem VX.st{o:Nat}{b:OB}{g c:Nat}{arr:Array Value}{cs:List Value}(h:VX ρ M A w o b g c arr cs)(ht:Tr ρ M w ρ' M' w')(hm:M g→M' g)(hb:w'.heap[g]? = w.heap[g]?):VX ρ' M' A w' o b g c arr cs:=
 ⟨ht.ext _ _ h.at_,hm h.mut_,h.own,hb.trans h.blk,h.ty,h.cells.st ht,h.pre,h.cap⟩
theorem RH.st(h:RH ρ M A w H)(ht:Tr ρ M w ρ' M' w')(hm:∀ b,M b→M' b)(hb:∀ o b g c,H o=some b→ρ o=some (g,c)→w'.heap[g]? = w.heap[g]?):RH ρ' M' A w' H:=by
 refine ⟨λo b e=>?_,λo o' b b' g c c' e e' r r'=>?_⟩
 ·obtain ⟨g,c,arr,cs,k⟩:=h.obj o b e
  exact ⟨g,c,arr,cs,k.st ht (hm g) (hb o b g c e k.at_)⟩
 ·obtain ⟨g1,c1,_,_,k1⟩:=h.obj o b e
  obtain ⟨g2,c2,_,_,k2⟩:=h.obj o' b' e';have e1:=ht.ext _ _ k1.at_;have e2:=ht.ext _ _ k2.at_;rw [r] at e1;rw [r'] at e2;simp only [Option.some.injEq,Prod.mk.injEq] at e1 e2;exact h.inj o o' b b' g1 c1 c2 e e' k1.at_ (by rw [k2.at_,← e2.1,e1.1])
end
structure Fr (ρ:B6) (M A:Nat→Prop) (w:World) (t0:Nat) (H:Nat→Option OB):Prop where
 heap:RH ρ M A w H
 bnd:∀ b,M b→b<w.heap.size
 new:∀ o,t0≤o→o<t0+16→ρ o=none
 fresh:∀ b,w.heap.size≤b→A b
def Cw(ρ:B6)(M A:Nat→Prop)(w:World)(t0:Nat)(H:Nat→Option OB)(U:HP)(r:AV)(v:Value)(w':World):Prop:=
 ∃ ρ' M',Tr ρ M w ρ' M' w'∧RV ρ' M' w' r v∧RH ρ' M' A w' (FQ H U)∧(∀ o p,ρ' o=some p→ρ o=some p ∨ (t0≤o∧o<t0+16))∧(∀ b,M b→M' b)∧(∀ b,M' b→M b ∨ w.heap.size≤b)∧(∀ b,M' b→b<w'.heap.size)∧QS A w w'∧(∀ o b g c,H o=some b→(∀ x∈U,x.1≠o)→ρ o=some (g,c)→w'.heap[g]? = w.heap[g]?)
def DG(op:Op)(ρv:Operand→Value)(w:World)(K:Value→World→Prop):Prop:=
 ∀ o:Oper,o.op=op→match (execOp ρv o).run Tryz.prog w with
  | .ok (.value v) w'=>K v w'
  | .ok .skip w'=>K undef w'
  | .ok (.enter f args) w'=>Calls Tryz.prog f args w' λe w''=>∃ v,e = .returned v∧K v w''
  | _=>False
theorem DG.upon{op:Op}{a:Act}{w:World}{K:Value→World→Prop}{next:Act→World→Prop}{Q:Exit→Act→World→Prop}{o:Oper}(h:DG op a.eval w K)(hn:∀ v w',K v w'→next (a.put o.dst v) w')(ho:o.op=op):o.wp Tryz.prog a w next Q:=by
  have h:=h o ho
  unfold Oper.wp
  generalize (execOp a.eval o).run Tryz.prog w=r at h
  cases r with
  | halt x w'=>exact h.elim
  | ok x w' =>
    cases x <;> first
      | exact h.elim
      | exact hn _ _ h
      | (refine Calls.mono h λe w'' he=>?_
         obtain ⟨v,rfl,k⟩:=he
         exact hn _ _ k)
section
variable {ρ : B6} {M A : Nat → Prop} {w : World} {t0 : Nat} {H : Nat → Option OB} {op : Op} {ρv : Operand → Value} {r : AV}
theorem Ab3{v:Value}(hs:Fr ρ M A w t0 H)(hv:RV ρ M w r v):Cw ρ M A w t0 H [] r v w:=
 ⟨ρ,M,Tr.refl _ _ _,hv,hs.heap,λ_ _ e=>.inl e,λ_ h=>h,λ_ h=>.inl h,hs.bnd,QS.refl _ _,λ_ _ _ _ _ _ _=>rfl⟩
theorem BH{v:Value}(hs:Fr ρ M A w t0 H)(hrun:∀ o:Oper,o.op=op→(execOp ρv o).run Tryz.prog w = .ok (.value v) w)(hv:RV ρ M w r v):DG op ρv w (Cw ρ M A w t0 H [] r):=by
 intro o ho;rw [hrun o ho];exact Ab3 hs hv
theorem nC{f:Nat}{args:Array Value}(hs:Fr ρ M A w t0 H)(hrun:∀ o:Oper,o.op=op→(execOp ρv o).run Tryz.prog w = .ok (.enter f args) w)
  (hc:Calls Tryz.prog f args w λe w'=>∃ v,e = .returned v∧RV ρ M w' r v∧Below w.heap.size w w'):DG op ρv w (Cw ρ M A w t0 H [] r):=by
 intro o ho;rw [hrun o ho];refine Calls.mono hc λe w' he=>?_
 obtain ⟨v,e,hv,hb⟩:=he;have ht:Tr ρ M w ρ M w':=⟨Bz.of_below hb,λb hlt _=>hb.block b hlt,λ_ _ h=>h,λ_ _ h=>h⟩;have hblk:∀ o b g c,H o=some b→ρ o=some (g,c)→w'.heap[g]? = w.heap[g]? := λo b g c e1 e2=>by
  obtain ⟨g1,c1,arr,cs,k⟩:=hs.heap.obj o b e1;have:g=g1:=by
   have:=k.at_;rw [e2] at this;simpa using congrArg Prod.fst (Option.some.inj this)
  exact hb.block g (this ▸ Bu k.blk)
 exact ⟨v,e,ρ,M,ht,hv,hs.heap.st ht (λ_ h=>h) hblk,λ_ _ e=>.inl e,λ_ h=>h,λ_ h=>.inl h,λb h=>Nat.lt_of_lt_of_le (hs.bnd b h) hb.size,QS.below hb,λo b g c e1 _ e2=>hblk o b g c e1 e2⟩
theorem LG{arr:Array Value}{b0:OB}{c:Nat}{cs:List Value}{w':World}{v:Value}(hs:Fr ρ M A w t0 H)(hT:b0.ty≠109∧b0.ty≠5)(hl:Cj ρ M w b0 cs)(hpre:∃ tl,arr.toList=cs ++ tl∧(b0.room=false→tl=[]))(hcap:b0.room=true→arr.size=b0.k*c∧c≤maxLen)
  (hw:w'=w.alloc (.cells arr b0.ty) ∨ w'=w.drew.alloc (.cells arr b0.ty)) (dead:HP) (hd:∀ x∈dead,x.2=none) (hr:∀ ρ' M',ρ' t0=some (w.heap.size,c)→RV ρ' M' w' r v):Cw ρ M A w t0 H ((t0,some b0) :: dead) r v w':=by
 have hb:Below w.heap.size w w':=by
  rcases hw with rfl | rfl
  ·exact Aj w _
  ·exact ((Below.refl w.heap.size w).drew).alloc (Nat.le_refl _) _
 have hn:w'.heap[w.heap.size]? = some (.cells arr b0.ty (0,0)):=by
  rcases hw with rfl | rfl
  ·exact heap_alloc_new w _
  ·exact heap_alloc_new w.drew _
 have hsz:w'.heap.size=w.heap.size+1:=by
  rcases hw with rfl | rfl <;> exact BQ _ _
 have h0:ρ t0=none:=hs.new t0 (Nat.le_refl _) (by omega)
 let ρ':B6:=λo=>if o=t0 then some (w.heap.size,c) else ρ o
 let M':Nat→Prop:=λb=>M b ∨ b=w.heap.size
 have ht:Tr ρ M w ρ' M' w':=⟨Bz.of_below hb,λb hlt _=>hb.block b hlt,λb hlt h=>h.elim id λe=>absurd e (Nat.ne_of_lt hlt),λo p e=>by
  show (if o=t0 then some (w.heap.size,c) else ρ o)=some p;rw [if_neg (by rintro rfl; rw [h0] at e; cases e)];exact e⟩
 have hρ:ρ' t0=some (w.heap.size,c):=if_pos rfl;have hold:∀ o b,FQ H dead o=some b→H o=some b:=by
  intro o b e;clear hr
  induction dead with
  | nil=>exact e
  | cons x rr ih =>
   simp only [FQ] at e;split at e
   ·rw [hd x (by simp)] at e; cases e
   ·exact ih (λy hy=>hd y (by simp [hy])) e
 have old:∀ o b,o≠t0→FQ H ((t0,some b0) :: dead) o=some b→H o=some b:=λo b hne e=>by
  simp only [FQ] at e;rw [if_neg (by simpa using Ne.symm hne)] at e;exact hold o b e
 have new:∀ b,FQ H ((t0,some b0) :: dead) t0=some b→b=b0:=λb e=>by
  simp only [FQ] at e;rw [if_pos (by simp)] at e;exact (Option.some.inj e).symm
 refine ⟨ρ',M',ht,hr ρ' M' hρ,⟨λo b e=>?_,λo o' b b' g c1 c2 e e' q q'=>?_⟩,λo p e=>?_,λ_ h=>.inl h,λb h=>h.elim .inl λe=>.inr (Nat.le_of_eq e.symm),λb h=>?_,QS.below hb,λo b g c1 e _ q=>?_⟩
 ·by_cases ho:o=t0
  ·subst ho
   rw [new b e];exact ⟨w.heap.size,c,arr,cs,hρ,.inr rfl,hs.fresh _ (Nat.le_refl _),hn,hT,hl.st ht,hpre,hcap⟩
  ·obtain ⟨g,c1,arr1,cs1,q⟩:=hs.heap.obj o b (old o b ho e)
   exact ⟨g,c1,arr1,cs1,q.st ht .inl (hb.block g (Bu q.blk))⟩
 ·have key:∀ o b g c1,FQ H ((t0,some b0) :: dead) o=some b→ρ' o=some (g,c1)→(o=t0∧g=w.heap.size) ∨ (o≠t0∧g<w.heap.size∧H o=some b∧ρ o=some (g,c1)):=by
   intro o b g c1 e q
   by_cases ho:o=t0
   ·subst ho
    rw [hρ] at q;exact .inl ⟨rfl,(congrArg Prod.fst (Option.some.inj q)).symm⟩
   ·have q:ρ o=some (g,c1):=by
     have:ρ' o=ρ o:=if_neg ho;rw [← this]; exact q
    have hH:=old o b ho e;obtain ⟨g',c',arr1,cs1,k1⟩:=hs.heap.obj o b hH;have hg:g=g':=by
     have:=k1.at_;rw [q] at this;simpa using congrArg Prod.fst (Option.some.inj this)
    exact .inr ⟨ho,hg ▸ Bu k1.blk,hH,q⟩
  rcases key o b g c1 e q with ⟨e1,g1⟩ | ⟨n1,l1,H1,r1⟩ <;> rcases key o' b' g c2 e' q' with ⟨e2,g2⟩ | ⟨n2,l2,H2,r2⟩
  ·rw [e1,e2]
  ·omega
  ·omega
  ·exact hs.heap.inj o o' b b' g c1 c2 H1 H2 r1 r2
 ·by_cases ho:o=t0
  ·exact .inr ⟨by omega,by omega⟩
  ·exact .inl (by rw [← e]; exact (if_neg ho).symm)
 ·rcases h with h | rfl
  ·have:=hs.bnd b h; omega
  ·omega
 ·obtain ⟨g',c',arr1,cs1,k1⟩:=hs.heap.obj o b e
  have hg:g=g':=by
   have:=k1.at_;rw [q] at this;simpa using congrArg Prod.fst (Option.some.inj this)
  exact hb.block g (hg ▸ Bu k1.blk)
theorem Pc{arr:Array Value}{T:TypeId}{k c:Nat}{l:List AV}{cs:List Value}{room:Bool}{w':World}{v:Value}(hs:Fr ρ M A w t0 H)(hT:T≠109∧T≠5)(hl:BC ρ M w l cs)(hpre:∃ tl,arr.toList=cs ++ tl∧(room=false→tl=[]))(hcap:room=true→arr.size=k*c∧c≤maxLen)
  (hw:w'=w.alloc (.cells arr T) ∨ w'=w.drew.alloc (.cells arr T)) (dead:HP) (hd:∀ x∈dead,x.2=none) (hr:∀ ρ' M',ρ' t0=some (w.heap.size,c)→RV ρ' M' w' r v):Cw ρ M A w t0 H ((t0,some ⟨T,k,l,room,none⟩) :: dead) r v w':=
 LG (b0:=⟨T,k,l,room,none⟩) hs hT (Cj.of hl rfl) hpre hcap hw dead hd hr
theorem K6{arr:Array Value}{T:TypeId}{k:Nat}{l:List AV}{v:Value}(c:Nat)(hs:Fr ρ M A w t0 H)(hT:T≠109∧T≠5)(hl:BC ρ M w l arr.toList)
  (hrun:∀ o:Oper,o.op=op→(execOp ρv o).run Tryz.prog w = .ok (.value v) (w.alloc (.cells arr T))) (hr:∀ ρ' M' w',ρ' t0=some (w.heap.size,c)→RV ρ' M' w' r v):DG op ρv w (Cw ρ M A w t0 H [(t0,some ⟨T,k,l,false,none⟩)] r):=by
 intro o ho;rw [hrun o ho];exact Pc hs hT hl ⟨[],(List.append_nil _).symm,λ_=>rfl⟩ (λh=>by cases h) (.inl rfl) [] (λx h=>by cases h) λρ' M' e=>hr ρ' M' _ e
theorem Rn{o g c:Nat}{b b1:OB}{arr arr':Array Value}{cs cs':List Value}(hs:Fr ρ M A w t0 H)(ho:H o=some b)(hk:VX ρ M A w o b g c arr cs)(q1:b1.ty=b.ty)(q2:b1.k=b.k)(q3:b1.room=b.room)(hl:Cj ρ M w b1 cs')(hpre:∃ tl,arr'.toList=cs' ++ tl∧(b.room=false→tl=[]))(hsz:arr'.size=arr.size)
  (t:Nat) (dead:Bool) (ht0:t=o∧dead=false ∨ t=t0∧dead=true) (r:AV) (v:Value) (hr:∀ ρ' M' w',(∀ o p,ρ o=some p→ρ' o=some p)→ρ' t=some (g,c)→RV ρ' M' w' r v) :
  Cw ρ M A w t0 H ((t,some b1) :: (if dead then [(o,none)] else [])) r v (w.setRow g arr'):=by
 have hg:=setRow_heap w g arr arr' b.ty (0,0) hk.blk;have hoth:∀ x:Nat,x≠g→(w.setRow g arr').heap[x]? = w.heap[x]? := λx hx=>setRow_other w g x arr' hx
 have hsize:(w.setRow g arr').heap.size=w.heap.size:=by simp [World.setRow]
 have hgr:Bz w (w.setRow g arr'):=by
  have key:∀(X:TypeId),b.ty≠X→∀(x:Nat)(cs:Array Value)(fr:Nat × Nat),w.heap[x]? = some (.cells cs X fr)→(w.setRow g arr').heap[x]? = some (.cells cs X fr):=λX hX x cs fr e=>by
   rw [hoth x,e]
   rintro rfl
   rw [hk.blk] at e;injection Option.some.inj e with _ e2 _
   exact hX e2
  exact ⟨Nat.le_of_eq hsize.symm,key _ hk.ty.1,key _ hk.ty.2⟩
 have hlt:=Bu hk.blk
 let ρ':B6:=λx=>if x=t then some (g,c) else ρ x
 have hext:∀ x p,ρ x=some p→ρ' x=some p:=λx p e=>by
  show (if x=t then some (g,c) else ρ x)=some p
  by_cases hx:x=t
  ·rw [if_pos hx]
   rcases ht0 with ⟨rfl,_⟩ | ⟨rfl,_⟩
   ·subst hx; rw [hk.at_] at e; exact e
   ·subst hx; rw [hs.new _ (Nat.le_refl _) (by omega)] at e; cases e
  ·rw [if_neg hx]; exact e
 have hρ:ρ' t=some (g,c):=if_pos rfl;have ht:Tr ρ M w ρ' M (w.setRow g arr'):=⟨hgr,λx _ hm=>hoth x (by rintro rfl; exact hm hk.mut_),λ_ _ h=>h,hext⟩;have old:∀ x bx,x≠t→FQ H ((t,some b1) :: (if dead then [(o,none)] else [])) x=some bx→H x=some bx∧x≠o:=λx bx hne e=>by
  simp only [FQ] at e;rw [if_neg (by simpa using Ne.symm hne)] at e
  rcases ht0 with ⟨rfl,rfl⟩ | ⟨rfl,rfl⟩
  ·exact ⟨by simpa [FQ] using e,hne⟩
  ·by_cases hx:x=o
   ·subst hx; simp [FQ] at e
   ·refine ⟨?_,hx⟩
    simpa [FQ,Ne.symm hx] using e
 refine ⟨ρ',M,ht,hr _ _ _ hext hρ,⟨λx bx e=>?_,λx x' bx bx' g1 c1 c2 e e' q q'=>?_⟩,λx p e=>?_,λ_ h=>h,λ_ h=>.inl h,λx h=>by rw [hsize]; exact hs.bnd x h,⟨rfl,rfl,rfl,Nat.le_of_eq hsize.symm,λx _ hA=>hoth x (by rintro rfl; exact hA hk.own)⟩,λx bx g1 c1 e hx q=>hoth g1 ?_⟩
 ·by_cases hx:x=t
  ·subst hx
   simp only [FQ,Nat.beq_refl,if_true] at e;obtain rfl:=Option.some.inj e;exact ⟨g,c,arr',cs',hρ,hk.mut_,hk.own,by rw [q1]; exact hg,by rw [q1]; exact hk.ty,hl.st ht,by rw [q3]; exact hpre,λh=>by rw [hsz,q2]; exact hk.cap (by rw [← q3]; exact h)⟩
  ·obtain ⟨hH,hne⟩:=old x bx hx e
   obtain ⟨g1,c1,arr1,cs1,k1⟩:=hs.heap.obj x bx hH;refine ⟨g1,c1,arr1,cs1,k1.st ht id (hoth g1 ?_)⟩
   rintro rfl
   exact hne (hs.heap.inj x o bx b g1 c1 c hH ho k1.at_ hk.at_)
 ·have key:∀ x bx g1 c1,FQ H ((t,some b1) :: (if dead then [(o,none)] else [])) x=some bx→ρ' x=some (g1,c1)→∃ y by',H y=some by'∧(∃ c2,ρ y=some (g1,c2))∧((x=t∧y=o) ∨ (x≠t∧x=y∧y≠o)):=by
   intro x bx g1 c1 e q
   by_cases hx:x=t
   ·subst hx
    rw [hρ] at q;have hg1:g=g1:=congrArg Prod.fst (Option.some.inj q);exact ⟨o,b,ho,⟨c,by rw [← hg1]; exact hk.at_⟩,.inl ⟨rfl,rfl⟩⟩
   ·obtain ⟨hH,hne⟩:=old x bx hx e
    have:ρ' x=ρ x:=if_neg hx;exact ⟨x,bx,hH,⟨c1,by rw [← this]; exact q⟩,.inr ⟨hx,rfl,hne⟩⟩
  obtain ⟨y,b1,h1,⟨d1,r1⟩,k1⟩:=key x bx g1 c1 e q;obtain ⟨y',b2,h2,⟨d2,r2⟩,k2⟩:=key x' bx' g1 c2 e' q';have:=hs.heap.inj y y' b1 b2 g1 d1 d2 h1 h2 r1 r2
  rcases k1 with ⟨rfl,rfl⟩ | ⟨n1,rfl,m1⟩ <;> rcases k2 with ⟨rfl,rfl⟩ | ⟨n2,rfl,m2⟩
  ·rfl
  ·exact absurd this.symm m2
  ·exact absurd this m1
  ·exact this
 ·by_cases hx:x=t
  ·rcases ht0 with ⟨h1,_⟩ | ⟨h1,_⟩
   ·refine .inl ?_
    have q:ρ' x=some (g,c):=if_pos hx;rw [q] at e;rw [hx,h1,hk.at_];exact e
   ·exact .inr ⟨by omega,by omega⟩
  ·exact .inl (by rw [← e]; exact (if_neg hx).symm)
 ·rintro rfl
  have hxo:x=o:=hs.heap.inj x o bx b g1 c1 c e ho q hk.at_;subst hxo
  rcases ht0 with ⟨rfl,rfl⟩ | ⟨rfl,rfl⟩
  ·exact hx _ (List.mem_cons_self ..) rfl
  ·exact hx (x,none) (by simp) rfl
theorem Wo{o g c:Nat}{b:OB}{arr arr':Array Value}{cs cs':List Value}{l':List AV}(hs:Fr ρ M A w t0 H)(ho:H o=some b)(hbl:b.bl=none)(hk:VX ρ M A w o b g c arr cs)(hl:BC ρ M w l' cs')(hpre:∃ tl,arr'.toList=cs' ++ tl∧(b.room=false→tl=[]))(hsz:arr'.size=arr.size)
  (t:Nat) (dead:Bool) (ht0:t=o∧dead=false ∨ t=t0∧dead=true) (r:AV) (v:Value) (hr:∀ ρ' M' w',(∀ o p,ρ o=some p→ρ' o=some p)→ρ' t=some (g,c)→RV ρ' M' w' r v) :
  Cw ρ M A w t0 H ((t,some { b with cs:=l' }) :: (if dead then [(o,none)] else [])) r v (w.setRow g arr'):=
 Rn (b1:={ b with cs:=l' }) hs ho hk rfl rfl rfl (Cj.of hl hbl) hpre hsz t dead ht0 r v hr
end
end
section
variable [Dn]
noncomputable def D0(T:TypeId):Option Nat:=(Tryz.prog.info? T).map (·.size)
noncomputable def SR(T:TypeId):Option TypeDesc:=Tryz.prog.underlying T
def iO:List AV→AV
 | [.rat q]=>.rat q
 | [.num z]=>.num z
 | [.ext n true c]=>.ext n true c
 | l=>.agg l
def Aid:List AV→Option AV
 | [.ext n ag c]=>if Nat.beq n 1 && !ag then some (.ext n ag c) else none
 | [a]=>if Nat.beq a.sz 1 then some a else none
 | _=>none
noncomputable def mkT(T:TypeId)(l:List AV):Option AV:=match SR T with
 | none=>none
 | some d=>if d.isRow then some (iO l) else Aid l
section
variable {ρ : B6} {M A : Nat → Prop} {w : World} {t0 : Nat} {Hr : Nat → Option OB} {H : HP} {ev : Operand → Option AV} {ρv : Operand → Value} {r : AV} {R : List Nat} {U : HP} {op : Op}
theorem In{l:List AV}{cs:List Value}(h:BC ρ M w l cs):Co ρ M w (iO l) (.agg cs.toArray):=by
 unfold iO;split
 ·exact ⟨cs.toArray,rfl,by simpa using h.one'⟩
 ·exact ⟨cs.toArray,rfl,by simpa using h.one'⟩
 ·exact ⟨cs.toArray,rfl,by simpa using h.one'⟩
 ·exact ⟨cs.toArray,rfl,by simpa using h⟩
theorem PV{l:List AV}{a:AV}{cs:List Value}(ha:Aid l=some a)(h:BC ρ M w l cs):∃ v,cs=[v]∧Co ρ M w a v:=by
 unfold Aid at ha;split at ha
 ·rename_i n ag c
  split at ha
  ·rename_i hz
   cases ha
   rw [Bool.and_eq_true,Bool.not_eq_true'] at hz;have h:=h.one';have hl:=h.len;have hn:AV.sz (.ext n ag c)=1:=Nat.eq_of_beq_eq_true hz.1;rw [hn] at hl;obtain ⟨v,rfl⟩:=List.length_eq_one_iff.1 hl;have:=hz.2;subst this;exact ⟨v,rfl,h⟩
  ·cases ha
 ·rename_i x hne
  split at ha
  ·rename_i hz
   cases ha
   have h:=h.one';have hl:=h.len;rw [Nat.eq_of_beq_eq_true hz] at hl;obtain ⟨v,rfl⟩:=List.length_eq_one_iff.1 hl;refine ⟨v,rfl,?_⟩
   cases a <;> first
    | (exact absurd rfl (hne _ _ _); done)
    | (simp [AV.sz] at hz; done)
    | (unfold Rp at h; exact h.elim)
    | (unfold Rp at h; exact (List.cons.inj h.1).1)
    | exact h
  ·cases ha
 ·cases ha
theorem Co.rv{a:AV}{v:Value}(h:Co ρ M w a v):RV ρ M w a v:=by
 unfold RV;split
 ·unfold Co at h; exact h.elim
 ·exact h
def AV.one:AV→Bool
 | .tup _=>false
 | _=>true
theorem RV.one{a:AV}{v:Value}(h:RV ρ M w a v)(ha:a.one=true):Co ρ M w a v:=by
 unfold RV at h;split at h
 ·cases ha
 ·exact h
def iE(H:HP):AV→Option (List AV × List Nat)
 | .ptr o off=>match lk H o with
  | some b=>if b.bl.isNone then (El off b.cs).map λl=>(l,[o]) else none
  | none=>none
 | .rptr l=>some (l,[])
 | _=>none
theorem IK{arr:Array Value}{T:TypeId}{g:Nat}{cs tl:List Value}(hg:w.heap[g]? = some (.cells arr T (0,0)))(he:arr.toList=cs ++ tl)(n:Nat):w.rangeAt g n (cs.drop n):=λj v e=>by
 rw [cell_of_row w g (n+j) _ _ (0,0) hg,← Array.getElem?_toList,he];rw [List.getElem?_drop] at e;rw [List.getElem?_append_left (List.getElem?_eq_some_iff.1 e).1];exact e
theorem C8{g off n:Nat}{cs:List Value}(h:w.rangeAt g off cs):w.rangeAt g off (cs.take n):=λj v e=>by
 rw [List.getElem?_take] at e;split at e
 ·exact h j v e
 ·cases e
theorem Eh{g off n:Nat}{cs:List Value}(h:w.rangeAt g off cs):w.rangeAt g (off+n) (cs.drop n):=λj v e=>by
 rw [List.getElem?_drop] at e;rw [Nat.add_assoc];exact h (n+j) v e
theorem MT(hs:Fr ρ M A w t0 Hr){a:AV}{l:List AV}(h:iE H a=some (l,R))(hag:∀ o∈R,Hr o=lk H o){v:Value}(hv:RV ρ M w a v) :
  ∃ g off xs,v = .pointer (some ⟨g,off,none⟩)∧BC ρ M w l xs∧w.rangeAt g off xs:=by
 unfold iE at h;split at h
 ·rename_i o off
  split at h
  ·rename_i b hb
   split at h
   case isFalse=>cases h
   rename_i hbn;have hbn:b.bl=none:=by simpa using hbn
   cases hd:El off b.cs with
   | none=>rw [hd] at h; cases h
   | some l1 =>
    rw [hd] at h
    cases h
    obtain ⟨g,c,arr,cs,k⟩:=hs.heap.obj o b ((hag o (by simp)).trans hb);obtain ⟨h1,h2⟩:=BC.drop hd (k.cells.rps hbn);obtain ⟨tl,he,_⟩:=k.pre;have hv:Rp ρ M w (.ptr o off) [v]:=hv;unfold Rp at hv;obtain ⟨g',c',e1,e2⟩:=hv;rw [k.at_] at e1;simp only [Option.some.injEq,Prod.mk.injEq] at e1;refine ⟨g,off,_,?_,h2,IK k.blk he off⟩;rw [e1.1];exact (List.cons.inj e2).1
  ·cases h
 ·cases h
  have hv:Rp ρ M w (.rptr l) [v]:=hv;unfold Rp at hv;obtain ⟨g,off,xs,e,_,_,hr,hc⟩:=hv;exact ⟨g,off,xs,(List.cons.inj e).1,hc,hr⟩
 ·cases h
theorem PJ{T:TypeId}{d:TypeDesc}{g off:Nat}{v:Value}(hu:Tryz.prog.underlying T=some d)(hd:d.isRow=false)(hc:w.cell? ⟨g,off,none⟩=some v):(Instr.loadAt T (.pointer (some ⟨g,off,none⟩))).run Tryz.prog w = .ok v w:=by
 have hagg:(isAgg T).run Tryz.prog w = .ok false w:=by
  unfold isAgg;rw [Sem.run_bind,run_underlying hu w]
  cases d <;> simp_all
 simp only [Instr.loadAt,Instr.sureAddr,Sem.run_bind,Sem.run_pure,Result.andThen_ok,loadVar,hagg];simp [hc]
noncomputable def Zd(H:HP)(ev:Operand→Option AV)(T:TypeId)(x:Operand):Option (AV × List Nat × HP):=do
 let a ← ev x
 let p ← iE H a
 let n ← D0 T
 let l ← Fl n p.1
 let r ← mkT T l
 pure (r,p.2,[])
theorem Mt{T:TypeId}{n:Nat}{l l':List AV}{g off:Nat}{xs:List Value}(hn:D0 T=some n)(ht:Fl n l=some l')(hm:mkT T l'=some r)(hl:BC ρ M w l xs)(hr:w.rangeAt g off xs) :
  ∃ v,(Instr.loadAt T (.pointer (some ⟨g,off,none⟩))).run Tryz.prog w = .ok v w∧Co ρ M w r v:=by
 obtain ⟨h1,h2⟩:=BC.take ht hl;have hr:=C8 (n:=n) hr;have hlen:(xs.take n).length=n:=by rw [List.length_take]; omega
 unfold mkT at hm;split at hm
 ·cases hm
 ·rename_i d hd
  have hd:Tryz.prog.underlying T=some d:=hd;split at hm
  ·rename_i hrow
   cases hm
   exact ⟨_,run_loadAt_mid w g off T (xs.take n) d hr hd hrow (by rw [hlen]; exact hn),In h2⟩
  ·rename_i hrow
   obtain ⟨v,e,hv⟩:=PV hm h2;refine ⟨v,PJ hd (by simpa using hrow) ?_,hv⟩;have:=hr 0 v (by rw [e]; rfl);exact this
theorem Ad5{T:TypeId}{x:Operand}(h:Zd H ev T x=some (r,R,U))(hs:Fr ρ M A w t0 Hr)(hag:∀ o∈R,Hr o=lk H o)(hev:∀ x a,ev x=some a→RV ρ M w a (ρv x)):DG (.load T x) ρv w (Cw ρ M A w t0 Hr U r):=by
 simp only [Zd,Option.bind_eq_bind,Option.bind_eq_some_iff,Option.pure_def,Option.some.injEq,Prod.mk.injEq] at h;obtain ⟨a,ha,⟨l,R'⟩,hp,n,hn,l',ht,r',hm,rfl,rfl,rfl⟩:=h;obtain ⟨g,off,xs,e,hl,hr⟩:=MT hs hp hag (hev _ _ ha);obtain ⟨v,hrun,hv⟩:=Mt hn ht hm hl hr;refine BH (v:=v) hs (λo ho=>?_) hv.rv;unfold execOp;rw [ho];show Sem.run _ (Instr.loadAt T (ρv x) >>= λx=>pure (Next.value x)) w=_;rw [e];exact DC hrun
noncomputable def Td(ev:Operand→Option AV)(S:TypeId)(x:Operand)(k:Nat):Option (AV × List Nat × HP):=do
 let a ← ev x
 let d ← SR S
 let f ← (match d with | .struct fs=>fs[k]? | _=>none)
 let z ← D0 f.type
 if Nat.beq z 0 then none else
 match a with
 | .ptr o off=>some (.ptr o (off+f.offset),[],[])
 | .rptr l=>(El f.offset l).map λl'=>(.rptr l',[],[])
 | _=>none
theorem VD{S:TypeId}{fs:Array Field}{k:Nat}{f:Field}{z g off:Nat}(hd:Tryz.prog.underlying S=some (.struct fs))(hf:fs[k]? = some f)(hz:D0 f.type=some z)(h0:z≠0):(Instr.fieldAt S (.pointer (some ⟨g,off,none⟩)) k).run Tryz.prog w = .ok (.pointer (some ⟨g,off+f.offset,none⟩)) w:=by
 unfold D0 at hz
 cases hi:Tryz.prog.info? f.type with
 | none=>rw [hi] at hz; cases hz
 | some i =>
  rw [hi] at hz;have hz:i.size=z:=by simpa using hz
  simp [Instr.fieldAt,Sem.run_bind,run_underlying hd,hf,Instr.sureAddr,fieldPlace,sizeOf,typeInfo,hi,hz,h0,Addr.add_mid]
theorem AbQ{S:TypeId}{x:Operand}{k:Nat}(h:Td ev S x k=some (r,R,U))(hs:Fr ρ M A w t0 Hr)(hev:∀ x a,ev x=some a→RV ρ M w a (ρv x)):DG (.fieldAddr S x k) ρv w (Cw ρ M A w t0 Hr U r):=by
 simp only [Td,Option.bind_eq_bind,Option.bind_eq_some_iff] at h;obtain ⟨a,ha,d,hd,f,hf,z,hz,h⟩:=h;split at h
 ·cases h
 ·rename_i h0
  have h0:z≠0:=λe=>h0 (by rw [e]; rfl)
  have hf':∃ fs,d = .struct fs∧fs[k]? = some f:=by
   cases d <;> first | (cases hf; done) | exact ⟨_,rfl,hf⟩
  obtain ⟨fs,rfl,hf⟩:=hf';have hv:=hev _ _ ha;have go:∀ g off,ρv x = .pointer (some ⟨g,off,none⟩)→∀ o:Oper,o.op = .fieldAddr S x k→(execOp ρv o).run Tryz.prog w = .ok (.value (.pointer (some ⟨g,off+f.offset,none⟩))) w:=λg off e o ho=>by
   unfold execOp;rw [ho];show Sem.run _ (Instr.fieldAt S (ρv x) k >>= λx=>pure (Next.value x)) w=_;rw [e];exact DC (VD hd hf hz h0)
  split at h
  ·rename_i o off
   cases h
   have hv:Rp ρ M w (.ptr o off) [ρv x]:=hv;unfold Rp at hv;obtain ⟨g,c,e1,e2⟩:=hv;refine BH hs (go g off (List.cons.inj e2).1) ?_;show Rp ρ M w (.ptr o (off+f.offset)) [_];unfold Rp;exact ⟨g,c,e1,rfl⟩
  ·rename_i l
   cases hdr:El f.offset l with
   | none=>rw [hdr] at h; cases h
   | some l' =>
    rw [hdr] at h
    cases h
    have hv:Rp ρ M w (.rptr l) [ρv x]:=hv;unfold Rp at hv;obtain ⟨g,off,xs,e,hm,hlt,hr,hc⟩:=hv;obtain ⟨_,h2⟩:=BC.drop hdr hc;refine BH hs (go g off (List.cons.inj e).1) ?_;show Rp ρ M w (.rptr l') [_];unfold Rp;exact ⟨g,off+f.offset,_,rfl,hm,hlt,Eh hr,h2⟩
  ·cases h
theorem Vt:∀{l:List Rat}{cs:List Value},AX w l cs→BC ρ M w (l.map .rat) cs
 | [],_,h=>by unfold AX at h; unfold List.map BC; exact h
 | q :: l,_,h=>by
  unfold AX at h;obtain ⟨a,b,c,d,r,rfl,h1,h2,h3⟩:=h;rw [List.map_cons];unfold BC;exact ⟨[a,b,c,d],r,rfl,by unfold Rp; exact ⟨a,b,c,d,rfl,h1,h2⟩,Vt h3⟩
def Sw(H:HP):AV→Option (Nat × List AV × List Nat)
 | .sl o off len _=>match lk H o with
  | some b=>if b.bl.isNone then (El off b.cs).map λl=>(len,l,[o]) else none
  | none=>none
 | .rats l=>some (l.length,l.map .rat,[])
 | .row n l=>some (n,l,[])
 | .val (.slice _ 0 _)=>some (0,[],[])
 | _=>none
theorem Jw(hs:Fr ρ M A w t0 Hr){a:AV}{n:Nat}{l:List AV}(h:Sw H a=some (n,l,R))(hag:∀ o∈R,Hr o=lk H o){v:Value}(hv:RV ρ M w a v) :
  ∃ Ad c xs,v = .slice Ad n c∧(n≠0→BC ρ M w l xs∧∃ g off,Ad=some ⟨g,off,none⟩∧w.rangeAt g off xs):=by
 unfold Sw at h;split at h
 ·rename_i o off len cap
  split at h
  ·rename_i b hb
   split at h
   case isFalse=>cases h
   rename_i hbn;have hbn:b.bl=none:=by simpa using hbn
   cases hd:El off b.cs with
   | none=>rw [hd] at h; cases h
   | some l1 =>
    rw [hd] at h
    cases h
    obtain ⟨g,c,arr,cs,k⟩:=hs.heap.obj o b ((hag o (by simp)).trans hb);obtain ⟨h1,h2⟩:=BC.drop hd (k.cells.rps hbn);obtain ⟨tl,he,_⟩:=k.pre;have hv:Rp ρ M w (.sl o off n cap) [v]:=hv;unfold Rp at hv;obtain ⟨g',c',k',e1,e2,_⟩:=hv;rw [k.at_] at e1;simp only [Option.some.injEq,Prod.mk.injEq] at e1;rw [← e1.1] at e2;exact ⟨_,_,_,(List.cons.inj e2).1,λ_=>⟨h2,g,off,rfl,IK k.blk he off⟩⟩
  ·cases h
 ·rename_i q
  cases h
  have hv:Rp ρ M w (.rats q) [v]:=hv;unfold Rp at hv;obtain ⟨Ad,c,e,_,hr⟩:=hv
  by_cases h0:q.length=0
  ·exact ⟨Ad,c,[],(List.cons.inj e).1,λh=>absurd h0 h⟩
  ·obtain ⟨g,off,xs,e1,_,_,hr,hc⟩:=hr h0
   exact ⟨Ad,c,xs,(List.cons.inj e).1,λ_=>⟨Vt hc,g,off,e1,hr⟩⟩
 ·cases h
  have hv:Rp ρ M w (.row n l) [v]:=hv;unfold Rp at hv;obtain ⟨Ad,c,e,_,hr⟩:=hv
  by_cases h0:n=0
  ·exact ⟨Ad,c,[],(List.cons.inj e).1,λh=>absurd h0 h⟩
  ·obtain ⟨g,off,xs,e1,_,_,hr,hc⟩:=hr h0
   exact ⟨Ad,c,xs,(List.cons.inj e).1,λ_=>⟨hc,g,off,e1,hr⟩⟩
 ·rename_i A c
  cases h
  exact ⟨A,c,[],hv,λh=>absurd rfl h⟩
 ·cases h
noncomputable def Ab9(ev:Operand→Option AV)(T:TypeId)(x y:Operand):Option (AV × List Nat × HP):=do
 let a ← ev x
 let b ← ev y
 let d ← SR T
 match d,b with
 | .slice e,.val (.int _ i)=>do
  let z ← D0 e
  match a with
  | .sl o off len _=>if decide (0≤i∧i<len) then some (.ptr o (off+i.toNat*z),[],[]) else none
  | .rats l=>if decide (0≤i∧i<l.length) && Nat.beq z 4 then some (.rptr [.rat (l.getD i.toNat 0)],[],[]) else none
  | .row n l=>if decide (0≤i∧i<n) then (El (i.toNat*z) l).map λl'=>(.rptr l',[],[]) else none
  | _=>none
 | .array n e,.val (.int _ i)=>do
  let z ← D0 e
  if decide (0≤i∧i<n) then match a with
   | .ptr o off=>some (.ptr o (off+i.toNat*z),[],[])
   | .rptr l=>(El (i.toNat*z) l).map λl'=>(.rptr l',[],[])
   | _=>none
  else none
 | _,_=>none
theorem FL{T e:TypeId}{z g off len c:Nat}{k:IntKind}{i:Int}(hd:Tryz.prog.underlying T=some (.slice e))(hz:D0 e=some z)(h0:0≤i∧i<len):(Instr.indexAt T (.slice (some ⟨g,off,none⟩) len c) (.int k i)).run Tryz.prog w = .ok (.pointer (some ⟨g,off+i.toNat*z,none⟩)) w:=by
 unfold D0 at hz
 cases hi:Tryz.prog.info? e with
 | none=>rw [hi] at hz; cases hz
 | some j =>
  rw [hi] at hz;have hz:j.size=z:=by simpa using hz
  simp [Instr.indexAt,asIntOf,Sem.run_bind,run_underlying hd,sizeOf,typeInfo,hi,hz,h0.1,h0.2,Addr.add_mid]
theorem Y8{T e:TypeId}{z g off n:Nat}{k:IntKind}{i:Int}(hd:Tryz.prog.underlying T=some (.array n e))(hz:D0 e=some z)(h0:0≤i∧i<n):(Instr.indexAt T (.pointer (some ⟨g,off,none⟩)) (.int k i)).run Tryz.prog w = .ok (.pointer (some ⟨g,off+i.toNat*z,none⟩)) w:=by
 unfold D0 at hz
 cases hi:Tryz.prog.info? e with
 | none=>rw [hi] at hz; cases hz
 | some j =>
  rw [hi] at hz;have hz:j.size=z:=by simpa using hz
  simp [Instr.indexAt,asIntOf,Sem.run_bind,run_underlying hd,Instr.sureAddr,sizeOf,typeInfo,hi,hz,h0.1,h0.2,Addr.add_mid]
theorem AX.drop:∀{l:List Rat}{cs:List Value}{i:Nat},AX w l cs→i<l.length→Rp ρ M w (.rat (l.getD i 0)) ((cs.drop (i*4)).take 4)
 | q :: l,_,0,h,_=>by
  unfold AX at h;obtain ⟨a,b,c,d,r,rfl,h1,h2,h3⟩:=h;unfold Rp;exact ⟨a,b,c,d,rfl,h1,h2⟩
 | q :: l,_,i+1,h,hi=>by
  unfold AX at h;obtain ⟨a,b,c,d,r,rfl,h1,h2,h3⟩:=h;have:=AX.drop (i:=i) h3 (by simpa using hi);rw [show (i+1)*4=4+i*4 by omega,← List.drop_drop,List.drop_succ_cons,List.drop_succ_cons,List.drop_succ_cons,List.drop_succ_cons,List.drop_zero];simpa using this
theorem AiZ{T:TypeId}{x y:Operand}(h:Ab9 ev T x y=some (r,R,U))(hs:Fr ρ M A w t0 Hr)(hev:∀ x a,ev x=some a→RV ρ M w a (ρv x)):DG (.indexAddr T x y) ρv w (Cw ρ M A w t0 Hr U r):=by
 simp only [Ab9,Option.bind_eq_bind,Option.bind_eq_some_iff] at h;obtain ⟨a,ha,b,hb,d,hd,h⟩:=h;have hva:=hev _ _ ha;have hvb:=hev _ _ hb;split at h
 ·rename_i e k i
  have hvb:ρv y = .int k i:=hvb;simp only [Option.bind_eq_some_iff] at h;obtain ⟨z,hz,h⟩:=h;have go:∀ g off len c,ρv x = .slice (some ⟨g,off,none⟩) len c→0≤i∧i<len→∀ o:Oper,o.op = .indexAddr T x y→(execOp ρv o).run Tryz.prog w = .ok (.value (.pointer (some ⟨g,off+i.toNat*z,none⟩))) w:=λg off len c e hi o ho=>by
   unfold execOp;rw [ho];show Sem.run _ (Instr.indexAt T (ρv x) (ρv y) >>= λx=>pure (Next.value x)) w=_;rw [e,hvb];exact DC (FL hd hz hi)
  split at h
  ·rename_i o off len cap
   split at h
   ·rename_i hi
    cases h
    have hv:Rp ρ M w (.sl o off len cap) [ρv x]:=hva;unfold Rp at hv;obtain ⟨g,c,k',e1,e2,_⟩:=hv;refine BH hs (go g off len k' (List.cons.inj e2).1 (of_decide_eq_true hi)) ?_;show Rp ρ M w (.ptr o (off+i.toNat*z)) [_];unfold Rp;exact ⟨g,c,e1,rfl⟩
   ·cases h
  ·rename_i l
   split at h
   ·rename_i hi
    cases h
    rw [Bool.and_eq_true] at hi;have hz4:z=4:=Nat.eq_of_beq_eq_true hi.2;have hi1:=of_decide_eq_true hi.1;have hv:Rp ρ M w (.rats l) [ρv x]:=hva;unfold Rp at hv;obtain ⟨Ad,c,e,_,hr0⟩:=hv;obtain ⟨g,off,xs,e1,hm,hlt,hr,hc⟩:=hr0 (by omega);subst e1;subst hz4;have hlt':i.toNat<l.length:=by omega
    refine BH hs (go g off l.length c (List.cons.inj e).1 hi1) ?_;show Rp ρ M w (.rptr [.rat (l.getD i.toNat 0)]) [_];unfold Rp;exact ⟨g,off+i.toNat*4,_,rfl,hm,hlt,C8 (Eh hr),BC.one (AX.drop hc hlt')⟩
   ·cases h
  ·rename_i n l
   split at h
   ·rename_i hi
    have hi:=of_decide_eq_true hi
    cases hdr:El (i.toNat*z) l with
    | none=>rw [hdr] at h; cases h
    | some l' =>
     rw [hdr] at h
     cases h
     have hv:Rp ρ M w (.row n l) [ρv x]:=hva;unfold Rp at hv;obtain ⟨Ad,c,e,_,hr0⟩:=hv;obtain ⟨g,off,xs,e1,hm,hlt,hr,hc⟩:=hr0 (by omega);subst e1;obtain ⟨_,h2⟩:=BC.drop hdr hc;refine BH hs (go g off n c (List.cons.inj e).1 hi) ?_;show Rp ρ M w (.rptr l') [_];unfold Rp;exact ⟨g,off+i.toNat*z,_,rfl,hm,hlt,Eh hr,h2⟩
   ·cases h
  ·cases h
 ·rename_i n e k i
  have hvb:ρv y = .int k i:=hvb;simp only [Option.bind_eq_some_iff] at h;obtain ⟨z,hz,h⟩:=h;split at h
  ·rename_i hi
   have hi:=of_decide_eq_true hi;have go:∀ g off,ρv x = .pointer (some ⟨g,off,none⟩)→∀ o:Oper,o.op = .indexAddr T x y→(execOp ρv o).run Tryz.prog w = .ok (.value (.pointer (some ⟨g,off+i.toNat*z,none⟩))) w:=λg off e o ho=>by
    unfold execOp;rw [ho];show Sem.run _ (Instr.indexAt T (ρv x) (ρv y) >>= λx=>pure (Next.value x)) w=_;rw [e,hvb];exact DC (Y8 hd hz hi)
   split at h
   ·rename_i o off
    cases h
    have hv:Rp ρ M w (.ptr o off) [ρv x]:=hva;unfold Rp at hv;obtain ⟨g,c,e1,e2⟩:=hv;refine BH hs (go g off (List.cons.inj e2).1) ?_;show Rp ρ M w (.ptr o (off+i.toNat*z)) [_];unfold Rp;exact ⟨g,c,e1,rfl⟩
   ·rename_i l
    cases hdr:El (i.toNat*z) l with
    | none=>rw [hdr] at h; cases h
    | some l' =>
     rw [hdr] at h
     cases h
     have hv:Rp ρ M w (.rptr l) [ρv x]:=hva;unfold Rp at hv;obtain ⟨g,off,xs,e,hm,hlt,hr,hc⟩:=hv;obtain ⟨_,h2⟩:=BC.drop hdr hc;refine BH hs (go g off (List.cons.inj e).1) ?_;show Rp ρ M w (.rptr l') [_];unfold Rp;exact ⟨g,off+i.toNat*z,_,rfl,hm,hlt,Eh hr,h2⟩
   ·cases h
  ·cases h
 ·cases h
end
end
theorem Ev(q:Rat):(0:Int)<(q.den:Int):=by have:=q.den_pos; omega
theorem T5(a b:Rat)(g n:Int)(hg:g=(Int.gcd (a.den:Int) (b.den:Int):Nat))(hn:n=a.num*((b.den:Int) / g)+b.num*((a.den:Int) / g)) :
  (a+b).num=n / (Int.gcd n g:Nat)∧((a+b).den:Int)=g / (Int.gcd n g:Nat)*((a.den:Int) / g*((b.den:Int) / g)):=by
 obtain ⟨G,hG⟩:∃ G,G=a.den.gcd b.den:=⟨_,rfl⟩;have hgG:g=(G:Int):=by rw [hg,hG]; rfl
 have hb:=Nat.gcd_dvd_right a.den b.den;rw [← hG] at hb;obtain ⟨bd,hbd⟩:=hb;have hGp:0<G:=by rw [hG]; exact Nat.gcd_pos_of_pos_left _ a.den_pos
 subst hgG;have e1:((b.den:Int) / (G:Int))=((b.den / G:Nat):Int):=by rw [Int.natCast_ediv]
 have e2:((a.den:Int) / (G:Int))=((a.den / G:Nat):Int):=by rw [Int.natCast_ediv]
 rw [e1,e2] at hn;have hb1:b.den / G=bd:=by rw [hbd,Nat.mul_div_cancel_left _ hGp]
 have hgcd:Int.gcd n (G:Int)=n.natAbs.gcd G:=rfl;show (Rat.add a b).num=_∧((Rat.add a b).den:Int)=_;obtain ⟨g1,hg1⟩:∃ g1,g1=n.natAbs.gcd G:=⟨_,rfl⟩;have hdv:g1 ∣ G:=by rw [hg1]; exact Nat.gcd_dvd_right _ _
 obtain ⟨g',hg'⟩:=hdv;have hg1p:0<g1:=by rw [hg1]; exact Nat.gcd_pos_of_pos_right _ hGp
 have hden:(a.den / G)*b.den / g1=G / g1*(a.den / G*(b.den / G)):=by
  rw [hb1];have:G / g1=g':=by rw [hg',Nat.mul_div_cancel_left _ hg1p]
  rw [this];have:a.den / G*b.den=g1*(g'*(a.den / G*bd)):=by
   conv=>lhs; rw [hbd]
   conv=>lhs; arg 2; rw [hg']
   simp only [Nat.mul_left_comm,Nat.mul_comm]
  rw [this,Nat.mul_div_cancel_left _ hg1p]
 have key:(a+b).num=n / (g1:Int)∧(a+b).den=(a.den / G)*b.den / g1:=by
  show (Rat.add a b).num=_∧(Rat.add a b).den=_
  delta Rat.add
  simp only [← hG];split
  ·rename_i h1
   subst h1;have:g1=1:=by rw [hg1,Nat.gcd_one_right]
   rw [this];simp only [Nat.div_one,Int.natCast_one,Int.ediv_one,and_true];rw [hn]; simp
  ·simp only [← hn,← hg1,Rat.maybeNormalize_eq,Int.divExact_eq_tdiv,and_true]
   rw [Int.tdiv_eq_ediv_of_dvd];rw [hg1];exact Int.ofNat_dvd_left.2 (Nat.gcd_dvd_left _ _)
 rw [hgcd,← hg1,e1,e2];refine ⟨key.1,?_⟩;rw [show (Rat.add a b).den=_ from key.2,hden]
 push_cast
 rfl
theorem ZP(a b:Rat):(a*b).num=a.num / (Int.gcd a.num (b.den:Int):Nat)*(b.num / (Int.gcd b.num (a.den:Int):Nat))∧((a*b).den:Int)=(a.den:Int) / (Int.gcd b.num (a.den:Int):Nat)*((b.den:Int) / (Int.gcd a.num (b.den:Int):Nat)):=by
 have h1:((Int.gcd a.num (b.den:Int):Nat):Int) ∣ a.num:=Int.gcd_dvd_left ..;have h2:((Int.gcd b.num (a.den:Int):Nat):Int) ∣ b.num:=Int.gcd_dvd_left ..;show (Rat.mul a b).num=_∧((Rat.mul a b).den:Int)=_
 delta Rat.mul
 simp only [Int.divExact_eq_tdiv,Nat.divExact_eq_div];refine ⟨?_,?_⟩
 ·rw [Int.tdiv_eq_ediv_of_dvd (by exact h1),Int.tdiv_eq_ediv_of_dvd (by exact h2)]
  rfl
 ·push_cast; rfl
theorem L6(n d:Int)(hd:0<d):(Rat.divInt n d).num=n / (Int.gcd n d:Nat)∧((Rat.divInt n d).den:Int)=d / (Int.gcd n d:Nat):=by
 rw [Rat.num_divInt,Rat.den_divInt,if_neg (by omega),Int.sign_eq_one_of_pos hd,Int.one_mul,Int.gcd_comm d n];refine ⟨rfl,?_⟩
 push_cast
 rw [Int.natAbs_of_nonneg (by omega)]
theorem xP(n d:Int)(hd:d<0):(Rat.divInt n d).num=n / -(Int.gcd n d:Nat)∧((Rat.divInt n d).den:Int)=d / -(Int.gcd n d:Nat):=by
 have h:=L6 (-n) (-d) (by omega);rw [Rat.neg_divInt_neg,Int.gcd_neg,Int.neg_gcd] at h;rw [Int.ediv_neg,Int.ediv_neg,← Int.neg_ediv_of_dvd (Int.gcd_dvd_left ..),← Int.neg_ediv_of_dvd (Int.gcd_dvd_right ..)];exact h
theorem Ja(n:Int):((n:Rat)).num=n∧(((n:Rat)).den:Int)=1:=⟨rfl,rfl⟩
theorem O4(a:Rat)(h:a.num<0):(a⁻¹).num = -(a.den:Int)∧((a⁻¹).den:Int) = -a.num:=by
 rw [Rat.num_inv,Rat.den_inv,if_neg (by omega),Int.sign_eq_neg_one_of_neg h];omega
theorem Ok(a:Rat)(h:0<a.num):(a⁻¹).num=(a.den:Int)∧((a⁻¹).den:Int)=a.num:=by
 rw [Rat.num_inv,Rat.den_inv,if_neg (by omega),Int.sign_eq_one_of_pos h];omega
def DR(a b:Rat):Int:=if a<b then -1 else if a=b then 0 else 1
theorem Qz(a b:Rat):Int.sign (a.num*b.den - b.num*a.den)=DR a b:=by
 unfold DR;split
 ·rename_i h
  rw [Rat.lt_iff] at h;exact Int.sign_eq_neg_one_of_neg (by omega)
 ·rename_i h
  rw [Rat.lt_iff] at h;split
  ·rename_i e
   rw [Rat.eq_iff_mul_eq_mul] at e;rw [e,Int.sub_self]; rfl
  ·rename_i e
   rw [Rat.eq_iff_mul_eq_mul] at e;exact Int.sign_eq_one_of_pos (by omega)
theorem Po(a:Rat):Int.sign a.num=DR a 0:=by
 rw [← Qz]; simp
theorem Y7(a b:Rat):(a+b).den≤a.den*b.den:=by
 have:=Rat.den_add a b;rw [this]; exact Nat.div_le_self _ _
def At(q:Rat)(k:Nat):Prop:=Sm q.num k∧Sm (q.den:Int) k
theorem tD{a b i:Nat}(h:Sm ((b:Nat):Int) i)(hle:a≤b):Sm ((a:Nat):Int) i:=Nat.lt_of_le_of_lt hle h
theorem Fi{x y:Int}{i j:Nat}(hx:Sm x i)(hy:Sm y j):Sm ((Int.gcd x y:Nat):Int) (max i j):=by
 by_cases h:x=0
 ·subst h
  rw [Int.gcd_zero_left];exact hy.abs.mono (Nat.le_max_right _ _)
 ·exact tD (hx.abs.mono (Nat.le_max_left _ _)) (Nat.le_of_dvd (by omega) (Int.ofNat_dvd_left.1 (Int.gcd_dvd_left ..)))
theorem At.mono{q:Rat}{i j:Nat}(h:At q i)(hk:i≤j):At q j:=⟨h.1.mono hk,h.2.mono hk⟩
theorem At.add{a b:Rat}{i j:Nat}(ha:At a i)(hb:At b j):At (a+b) (i+j+1):=by
 have h:=(T5 a b _ _ rfl rfl)
 constructor
 ·rw [h.1]
  exact (((ha.1.mul hb.2.div).add (hb.1.mul ha.2.div)).mono (by omega)).div
 ·have h2:Sm ((a.den*b.den:Nat):Int) (i+j):=by push_cast; exact ha.2.mul hb.2
  exact (tD h2 (Y7 a b)).mono (by omega)
theorem At.neg{a:Rat}{i:Nat}(ha:At a i):At (-a) i:=⟨by rw [Rat.neg_num]; exact ha.1.neg,by rw [Rat.neg_den]; exact ha.2⟩
theorem At.sub{a b:Rat}{i j:Nat}(ha:At a i)(hb:At b j):At (a - b) (i+j+1):=by
 rw [Rat.sub_eq_add_neg]; exact ha.add hb.neg
theorem At.mul{a b:Rat}{i j:Nat}(ha:At a i)(hb:At b j):At (a*b) (i+j):=by
 have h:=ZP a b;exact ⟨by rw [h.1]; exact ha.1.div.mul hb.1.div,by rw [h.2]; exact ha.2.div.mul hb.2.div⟩
theorem At.inv{a:Rat}{i:Nat}(ha:At a i):At a⁻¹ i:=by
 rcases Int.lt_trichotomy a.num 0 with h | h | h
 ·have:=O4 a h
  exact ⟨by rw [this.1]; exact ha.2.neg,by rw [this.2]; exact ha.1.neg⟩
 ·have:a=0:=Rat.num_eq_zero.1 h
  subst this;rw [Rat.inv_zero];exact ha
 ·have:=Ok a h
  exact ⟨by rw [this.1]; exact ha.2,by rw [this.2]; exact ha.1⟩
theorem At.div{a b:Rat}{i j:Nat}(ha:At a i)(hb:At b j):At (a / b) (i+j):=by
 rw [Rat.div_def]; exact ha.mul hb.inv
theorem At.whole{n:Int}{i:Nat}(hn:Sm n (i+1)):At (n:Rat) (i+1):=⟨hn,by
 show (1:Nat)<4294967296 ^ (i+1);exact Nat.lt_of_lt_of_le (by decide:1<4294967296 ^ 1) (Nat.pow_le_pow_right (by decide) (by omega))⟩
theorem At.of{n d:Int}{i:Nat}(hn:Sm n i)(hd:Sm d i)(h0:d≠0):At (Rat.divInt n d) i:=by
 rcases Int.lt_or_gt_of_ne h0 with h | h
 ·have:=xP n d h
  exact ⟨by rw [this.1]; exact hn.div,by rw [this.2]; exact hd.div⟩
 ·have:=L6 n d h
  exact ⟨by rw [this.1]; exact hn.div,by rw [this.2]; exact hd.div⟩
end Go.Proofs.YtgaehhapjnbieaaGreat
