/- Algorithm D: the beginning, the rounds and the end, in memory. No walk but the calls of guess, subtractMultiple and addBack, put together. -/
import Derived.Test.YtdopbgnkneeceaaGreatqKnQ
import Derived.Test.YtdopbgnkneeceaaGreatqGuess
import Derived.Test.YtdopbgnkneeceaaGreatqShr
set_option linter.unusedSectionVars false
set_option linter.unusedVariables false
set_option linter.unusedSimpArgs false
set_option maxRecDepth 100000
namespace Go.Proofs.YtdopbgnkneeceaaGreat
open Go.RowKit
def DP(w:World)(bd:Addr)(X:List Nat):Prop:=∀(k x:Nat),X[k]? = some x→w.cell? (bd.add k)=some (.int .u32 (x:Int))
def GD(W:World)(gr gq L M A2:Nat)(X:List Nat)(bd:Addr)(wr:World)(j:Nat):Prop:=
 ∃ rs qs:List Nat,rs.length=L∧Bx rs∧Cx wr gr rs∧qs.length=M∧Bx qs∧Cx wr gq qs∧A2=4294967296 ^ j*val (qs.drop j)*val X+val rs∧val (rs.drop j)<val X∧DP wr bd X∧Below W.heap.size W wr
theorem DP.below{w w':World}{bd:Addr}{X:List Nat}(h:DP w bd X)(hb:Below w.heap.size w w'):DP w' bd X:=λk x hx=>(hb.cell (World.block_lt_of_cell? _ _ (h k x hx))).trans (h k x hx)
theorem DP.memN{w:World}{bd:Addr}{X:List Nat}{g:Nat}(h:DP w bd X)(hg:bd.block≠g):Mx w g (some bd) X:=⟨bd,rfl,hg,h⟩
theorem DP.only{w w':World}{bd:Addr}{X:List Nat}{g:Nat}(h:DP w bd X)(hg:w.grownBy w' (some g))(hne:bd.block≠g):DP w' bd X:=by
 obtain ⟨ad,e,_,hc⟩:=(h.memN hne).only hg;injection e with e
 subst e;exact hc
theorem Cx.only{w w':World}{g g':Nat}{ms:List Nat}(h:Cx w g' ms)(hg:w.grownBy w' (some g))(hne:g'≠g):Cx w' g' ms:=(hg.block g' h.lt (by simpa using hne)).trans h
theorem ME{W w w':World}{g:Nat}(h:Below W.heap.size W w)(hg:w.grownBy w' (some g))(hle:W.heap.size≤g):Below W.heap.size W w':=h.grown hg h.size (λk hk=>by injection hk with hk; omega)
theorem XL(g i k:Nat):(⟨g,i,none⟩:Addr).add k=⟨g,i+k,none⟩:=by
 unfold Addr.add;split
 ·next h=>rw [h]; rfl
 ·rfl
theorem WK{g i n cap cd:Nat}{rs X:List Nat}{bd:Addr}(w:World)(hr:Cx w g rs)(hP:I6 rs X i n)(hX:DP w bd X)(hn:n≤1099511627776) :
  Calls Tryz.prog 145 #[.slice (some ⟨g,i,none⟩) (n+1) cap,.slice (some bd) n cd] w λe w'=>∃ q:Nat,e = .returned (.int .u32 (q:Int))∧q<4294967296∧val ((rs.drop i).take (n+1)) / val X≤q∧(q - 1)*val X≤val ((rs.drop i).take (n+1))∧Below w.heap.size w w':=by
 obtain ⟨pn,pn1,pn2,d1,d2,t,B,lp,ld,e0,e1,e2,e3,e4,b0,b1,b2,b3,b4,hd,ht,ht64,hle,hV,hD,hlp,hld⟩:=hP.lead;have hx:0<val X:=by have:=hP.low; omega
 have hlen:=hP.len;have hn2:=hP.n2;have hxl:=hP.xlen;have rc:∀ k,i+k<rs.length→w.cell? ((⟨g,i,none⟩:Addr).add k)=some (.int .u32 ((rs.getD (i+k) 0:Nat):Int)):=λk hk=>by rw [XL,hr.cell hk,At hk]
 have xc:∀ k,k<X.length→w.cell? (bd.add k)=some (.int .u32 ((X.getD k 0:Nat):Int)):=λk hk=>by rw [hX k _ (List.getElem?_eq_getElem hk),At hk]
 have hQm:val ((rs.drop i).take (n+1)) / val X*val X≤val ((rs.drop i).take (n+1)):=Nat.div_mul_le_self _ _;have hq0:val ((rs.drop i).take (n+1)) / val X≤t / d1:=by
  rw [Nat.le_div_iff_mul_le (by omega)];generalize val ((rs.drop i).take (n+1)) / val X=Q at *
  rcases Nat.lt_or_ge t (Q*d1) with h | h
  ·exfalso
   have h1:Q*(B*(d1*4294967296+d2))≤Q*val X:=Nat.mul_le_mul_left _ (by omega);have h2:B*(t*4294967296+pn2+1)≤B*(Q*(d1*4294967296+d2)):=by
    refine Nat.mul_le_mul_left _ ?_;have:=Nat.mul_le_mul_right 4294967296 (show t+1≤Q*d1 from h);rw [Nat.mul_add,← Nat.mul_assoc Q d1];omega
   rw [Nat.mul_left_comm] at h1;rw [Nat.mul_add B _ 1] at h2;omega
  ·exact h
 refine (aU g i n cap cd pn pn1 pn2 d1 d2 t (val ((rs.drop i).take (n+1)) / val X) bd w hn2 hn (by rw [← e0]; exact rc n (by omega)) (by rw [← e1]; exact rc (n - 1) (by omega)) (by rw [← e2]; exact rc (n - 2) (by omega)) (by rw [← e3]; exact xc (n - 1) (by omega)) (by rw [← e4]; exact xc (n - 2) (by omega))
  b0 b1 b2 b3 b4 hd ht ht64 hle hP.quot hq0 (λq hq=>hZ hV hD hlp hQm q hq)).mono ?_
 rintro e w' ⟨v,rfl,⟨q,rfl,hqb,hq1,hq2⟩,hb⟩
 exact ⟨q,rfl,hqb,hq1,mG hV hD hld hq2 (by omega),hb⟩
theorem iE{y lo P x0 H c:Nat}(e:y=lo+P*x0)(h:c≤x0*H):P*c≤y*H:=by
 rw [e,Nat.add_mul,Nat.mul_assoc];exact Nat.le_trans (Nat.mul_le_mul_left P h) (Nat.le_add_left _ _)
theorem rB{y lo P x0 H c:Nat}(e:y=lo+P*x0)(hl:lo<P)(hH:0<H)(h:(x0+1)*H≤c):y*H<P*c:=by
 have h1:y+1≤P*(x0+1):=by rw [e,Nat.mul_add,Nat.mul_one]; omega
 have h2:(y+1)*H≤P*(x0+1)*H:=Nat.mul_le_mul_right _ h1;rw [Nat.mul_assoc] at h2;have h3:=Nat.mul_le_mul_left P h;rw [Nat.add_mul,Nat.one_mul] at h2;omega
theorem dL{Y lo P d c:Nat}(e:Y=lo+P*d)(hl:lo<P)(h:P*c≤Y):c≤d:=by
 rcases Nat.lt_or_ge d c with hd | hd
 ·exfalso
  have:=Nat.mul_le_mul_left P (show d+1≤c from hd);rw [Nat.mul_add,Nat.mul_one] at this;omega
 ·exact hd
theorem WL{y n x0 h:Nat}(hn:len y=n)(hn0:0<n)(hx0:(Ae y).getD (n - 1) 0=x0)(hlo:2147483648≤x0*2 ^ h)(hhi:(x0+1)*2 ^ h≤4294967296):len (y*2 ^ h)=n∧2147483648≤(Ae (y*2 ^ h)).getD (n - 1) 0:=by
 obtain ⟨m,rfl⟩:∃ m,n=m+1:=⟨n - 1,by omega⟩;simp only [Nat.add_sub_cancel] at hx0 ⊢;have e:=Au (Ae y) m;rw [List.take_of_length_le (show (Ae y).length≤m+1 by rw [Aa,hn]; exact Nat.le_refl _),Ao,hx0] at e;have hl:=Cv ((As y).take m);have hlt:((Ae y).take m).length=m:=by rw [List.length_take,Aa,hn]; omega
 rw [hlt] at hl;generalize val ((Ae y).take m)=lo at *;have hlow:4294967296 ^ m*2147483648≤y*2 ^ h:=iE e hlo;have hhigh:y*2 ^ h<4294967296 ^ m*4294967296:=rB e hl (Nat.pow_pos (by decide)) hhi;have hlen:len (y*2 ^ h)=m+1:=by
  have h1:len (y*2 ^ h)≤m+1:=IY (by rw [Nat.pow_succ]; exact hhigh);have h2:len y≤len (y*2 ^ h):=AY (Nat.le_mul_of_pos_right _ (Nat.pow_pos (by decide)));omega
 refine ⟨hlen,?_⟩;have e2:=Au (Ae (y*2 ^ h)) m;rw [List.take_of_length_le (show (Ae (y*2 ^ h)).length≤m+1 by rw [Aa,hlen]; exact Nat.le_refl _),Ao] at e2;have hl2:=Cv ((As (y*2 ^ h)).take m);have hlt2:((Ae (y*2 ^ h)).take m).length=m:=by rw [List.length_take,Aa,hlen]; omega
 rw [hlt2] at hl2;exact dL e2 hl2 hlow
theorem M4{x0:Nat}(h0:0<x0)(h1:x0<4294967296):∃ h:Nat,h<32∧(32 - (Lib.bitLen x0:Int))=(h:Int)∧2147483648≤x0*2 ^ h∧(x0+1)*2 ^ h≤4294967296:=by
 have hL:Lib.bitLen x0≤32:=Lib.bitLen_le x0 32 (by decide) (by simpa using h1);have hlt:=Z2 x0 (by omega);have hL0:0<Lib.bitLen x0:=by
  rcases Nat.eq_zero_or_pos (Lib.bitLen x0) with h | h
  ·rw [h] at hlt; simp at hlt; omega
  ·exact h
 have hge:2 ^ (Lib.bitLen x0 - 1)≤x0:=by
  rcases Nat.lt_or_ge x0 (2 ^ (Lib.bitLen x0 - 1)) with h | h
  ·have:=Lib.bitLen_le x0 (Lib.bitLen x0 - 1) (by omega) h
   omega
  ·exact h
 generalize Lib.bitLen x0=L at *;refine ⟨32 - L,by omega,by omega,?_,?_⟩
 ·have:=Nat.mul_le_mul_right (2 ^ (32 - L)) hge
  rw [← Nat.pow_add,show L - 1+(32 - L)=31 by omega] at this;exact this
 ·have:=Nat.mul_le_mul_right (2 ^ (32 - L)) (show x0+1≤2 ^ L from hlt)
  rw [← Nat.pow_add,show L+(32 - L)=32 by omega] at this;exact this
theorem YE{x y q r H:Nat}(hH:0<H)(h:x*H=q*(y*H)+r)(hr:r<y*H):q=x / y∧r / H=x % y:=by
 have hy:0<y:=by
  rcases Nat.eq_zero_or_pos y with h0 | h0
  ·subst h0; simp at hr
  ·exact h0
 have hle:q*y≤x:=by
  have:q*y*H≤x*H:=by rw [Nat.mul_assoc]; omega
  exact Nat.le_of_mul_le_mul_right this hH
 have hlt:x<(q+1)*y:=by
  have:x*H<(q+1)*y*H:=by rw [Nat.mul_assoc,Nat.add_mul,Nat.one_mul]; omega
  exact Nat.lt_of_mul_lt_mul_right this
 obtain ⟨e1,e2⟩:=rM hle hlt;refine ⟨e1.symm,?_⟩;rw [e2];have:r=(x - q*y)*H:=by rw [Nat.sub_mul,Nat.mul_assoc]; omega
 rw [this,Nat.mul_div_cancel _ hH]
theorem GD.start{W w1 w2 w3:World}{gr gd x H D n:Nat}{ds es:List Nat}(hr:Cx w1 gr ds)(h32:Bx ds)(hl:ds.length=len x+1)(hv:val ds=x*H)(hd:Cx w2 gd es)(hdl:es.length=n+1)(hdv:val es=D)(h32d:Bx es)(hlen:len D=n)(hn:n≤len x)(hD:x*H<4294967296 ^ (len x - n+1)*D)
  (hb1:Below W.heap.size W w1) (hb2:Below w1.heap.size w1 w2) (e3:w3=w2.alloc (B9 (List.replicate (len x - n+1) 0))):GD W gr w2.heap.size (len x+1) (len x - n+1) (x*H) (Ae D) ⟨gd,0,none⟩ w3 (len x - n+1):=by
 subst e3;have hv2:=Cv h32;refine ⟨ds,List.replicate (len x - n+1) 0,hl,h32,?_,by simp,Bx.replicate _,Cx.new _ _,?_,?_,?_,?_⟩
 ·exact Cx.alloc (hr.below hb2 hr.lt) _
 ·rw [List.drop_of_length_le (by simp),hv]; simp [val]
 ·rw [Ao]
  have h1:=FH ds (len x - n+1) (by omega);rw [hv] at h1
  rcases Nat.lt_or_ge (val (ds.drop (len x - n+1))) D with h | h
  ·exact h
  ·have:=Nat.mul_le_mul_left (4294967296 ^ (len x - n+1)) h
   omega
 ·intro k u hu
  have hk:k<(Ae D).length:=(List.getElem?_eq_some_iff.1 hu).1;rw [Aa,hlen] at hk;rw [XL,Nat.zero_add];have e1:Ae D=es.take n:=by
   have:=(DY h32d).1;rw [hdv,hlen] at this;exact this
  rw [e1,List.getElem?_take,if_pos hk] at hu;have hk2:k<es.length:=by omega
  rw [(Cx.alloc hd _).cell hk2];rw [List.getElem?_eq_getElem hk2] at hu;rw [Option.some.inj hu]
 ·exact Ac (Ac hb1 hb2) (Ai _ _)
theorem GD.next{W wr:World}{gr gq L M A2 i n q:Nat}{rs ds qs X:List Nat}{bd:Addr}(hP:I6 rs X i n)(r1:rs.length=L)(q1:qs.length=M)(q2:Bx qs)(hi:i<M)(t1:A2=4294967296 ^ (i+1)*val (qs.drop (i+1))*val X+val rs)
  (s1:ds.length=rs.length) (s2:Bx ds) (s3:Cx wr gr ds) (s4:ds.take i=rs.take i) (s5:ds.drop (i+(n+1))=rs.drop (i+(n+1))) (hv:val ((ds.drop i).take (n+1))=val ((rs.drop i).take (n+1)) % val X) (hq:q=val ((rs.drop i).take (n+1)) / val X)
  (q3:Cx wr gq qs) (cX:DP wr bd X) (hb:Below W.heap.size W wr) (hne:gr≠gq) (hbd:bd.block≠gq) (hW:W.heap.size≤gq) (u:Int) (hu:u=(q:Int)):GD W gr gq L M A2 X bd (wr.setCell ⟨gq,i,none⟩ (.int .u32 u)) i:=by
 subst hu;obtain ⟨w1,w2⟩:=SK hP s1 s4 s5 hv;refine ⟨ds,qs.set i q,s1.trans r1,s2,s3.far hne _,by simpa using q1,q2.set ?_,q3.set_ i q,?_,w1,?_,hb.setCell hW _⟩
 ·rw [hq]; exact hP.quot
 ·rw [SL (by omega)]
  rw [← hq] at w2;exact Vu t1 w2
 ·intro k x hx
  rw [World.cell?_setCell_far _ _ _ _ (by rw [Ap]; exact λh=>hbd h.symm)];exact cX k x hx
set_option maxHeartbeats 2000000 in
theorem Nt(A B:Option Addr)(c d x y:Nat)(w:World)(ha:AB w (.slice A (len x) c) x)(hb:AB w (.slice B (len y) d) y)(hla:len x≤1099511627775)(h2:2≤len y)(hle:y≤x) :
  Calls Tryz.prog 140 #[.slice A (len x) c,.slice B (len y) d] w (EY (x / y) (x % y) w):=by
 have hlen:len y≤len x:=AY hle;obtain ⟨n,hn⟩:∃ n,len y=n:=⟨_,rfl⟩;rw [hn] at hb h2 hlen ⊢;obtain ⟨bd,rfl,_,hcb⟩:=hb.mem.2.2.at_ (show n - 1<(Ae y).length by rw [Aa,hn]; omega);obtain ⟨ad,rfl,_,hca⟩:=ha.mem.2.2.at_ (show 0<(Ae x).length by rw [Aa]; omega);clear hca;have hx0:=(As y).get (show n - 1<(Ae y).length by rw [Aa,hn]; omega);have gx:=At (show n - 1<(Ae y).length by rw [Aa,hn]; omega);have hx1:=EM (show 0<y by rcases Nat.eq_zero_or_pos y with h | h; (subst h; rw [AX] at hn; omega); exact h);rw [hn,gx] at hx1;generalize (Ae y)[n - 1]'(by rw [Aa,hn]; omega)=x0 at *;obtain ⟨h,hh,hz,hlo,hhi⟩:=M4 (show 0<x0 by omega) hx0;obtain ⟨hDl,hDn⟩:=WL hn (by omega) gx hlo hhi;have HZ:=Lib.hid hz;have HLO:=Lib.hid hlo;have HHI:=Lib.hid hhi;have HDL:=Lib.hid hDl;have HDN:=Lib.hid hDn;have HN:=Lib.hid hn;have HMA:=Lib.hid ha.mem.2.2;have HMB:=Lib.hid hb.mem.2.2;have HLE:=Lib.hid hle;have hmk:=λW=>Kw ((len x:Int) - (n:Int)+1) (by omega) (by omega) W
 rw [show ((len x:Int) - (n:Int)+1).toNat=len x - n+1 by omega] at hmk;clear hz hlo hhi hDl hDn hn gx hx1 ha hb hle
 go_enter Tryz.func140,Tryz.ntmps140
 go_wp2_with fail
 refine (Tryz.bits_LeadingZeros32 (x0:Int) _ (by omega) (by omega)).mono ?_
 rintro e w' ⟨rfl,hw⟩
 replace hw:=hw.symm;subst hw;rw [Int.toNat_natCast,HZ.out]
 go_wp2_with fail
 refine (Iq _ (len x) c h (Ae x) _ rfl HMA.out (As _) (by omega) (by omega) hh).mono ?_
 rintro e w1 ⟨gr,ds,rfl,d1,d2,d3,d4,d5,d6⟩
 rw [Ao] at d4;have D1:=Lib.hid d1;have D2:=Lib.hid d2;have D3:=Lib.hid d3;have D4:=Lib.hid d4;have D5:=Lib.hid d5;have D6:=Lib.hid d6;have HMB1:=Lib.hid (HMB.out.into d5);clear d1 d2 d3 d4 d5 d6
 go_wp2_with fail
 refine (Iq _ n d h (Ae y) _ HN.out HMB1.out (As _) (by omega) (by omega) hh).mono ?_
 rintro e w2 ⟨gd,es,rfl,e1,e2,e3,e4,e5,e6⟩
 rw [Ao] at e4;have E1:=Lib.hid e1;have E2:=Lib.hid e2;have E3:=Lib.hid e3;have E4:=Lib.hid e4;have E5:=Lib.hid e5;have E6:=Lib.hid e6;clear e1 e2 e3 e4 e5 e6
 go_wp2_with fail
 refine (Dg _ (n+1) (n+1) es _ E1.out (E3.out.mem E3.out.lt) (by omega) (by omega) E2.out).mono ?_
 rintro e w' ⟨rfl,rfl⟩
 rw [E4.out,HDL.out]
 go_wp2_with fail
 have hDhi:x*2 ^ h<4294967296 ^ (len x - n+1)*(y*2 ^ h):=by
  have h1:=BG x;have h3:=Iw (show n - 1<len y by have:=HN.out; omega);have h4:4294967296 ^ len x=4294967296 ^ (len x - n+1)*4294967296 ^ (n - 1):=by rw [← Nat.pow_add]; congr 1; omega
  rw [h4] at h1;have h5:x<4294967296 ^ (len x - n+1)*y:=Nat.lt_of_lt_of_le h1 (Nat.mul_le_mul_left _ h3);rw [← Nat.mul_assoc];exact Nat.mul_lt_mul_of_pos_right h5 (Nat.pow_pos (by decide))
 have HST:=Lib.hid (GD.start (W:=w) D3.out D2.out D1.out D4.out E3.out E1.out E4.out E2.out HDL.out hlen hDhi D5.out E5.out rfl);have hq1:gr≠w2.heap.size:=by have:=D3.out.lt; have:=E5.out.size; omega
 have hq2:gd≠w2.heap.size:=by have:=E3.out.lt; omega
 have hq3:gd≠gr:=by have:=D3.out.lt; have:=E6.out; omega
 have hq4:w.heap.size≤gr:=D6.out;have hq5:w.heap.size≤w2.heap.size:=by have:=D5.out.size; have:=E5.out.size; omega
 clear hDhi hmk;generalize w2.alloc (B9 (List.replicate (len x - n+1) 0))=w3 at *;generalize w2.heap.size=gq at *;obtain ⟨M,hM⟩:∃ M,len x - n=M:=⟨_,rfl⟩;rw [hM] at HST ⊢;have HM:=Lib.hid hM;clear hM
 go_loopw [10] (λi wr=>∃ j:Nat,j≤M+1∧i = .int .i64 ((j:Int) - 1)∧GD w gr gq (len x+1) (M+1) (x*2 ^ h) (Ae (y*2 ^ h)) ⟨gd,0,none⟩ wr j) (λi _=>(intOf i+1).toNat)
 case atStart=>exact ⟨M+1,Nat.le_refl _,by go_num,HST.out⟩
 case round =>
  obtain ⟨j,hj,rfl,hrel⟩:=hrel;have HR:=Lib.hid hrel;clear hrel HST
  rcases Nat.eq_zero_or_pos j with h0 | h0
  ·subst h0
   obtain ⟨rs,qs,r1,r2,r3,q1,q2,q3,t1,t2,cX,hb⟩:=HR.out;rw [List.drop_zero] at t1 t2;rw [Nat.pow_zero,Nat.one_mul,Ao] at t1;rw [Ao] at t2;obtain ⟨p1,p2⟩:=YE (Nat.pow_pos (by decide)) t1 t2;have P1:=Lib.hid p1;have P2:=Lib.hid p2;have R1:=Lib.hid r1;have R2:=Lib.hid r2;have R3:=Lib.hid r3;have Q1:=Lib.hid q1;have Q2:=Lib.hid q2;have Q3:=Lib.hid q3;have HBW:=Lib.hid hb;clear r1 r2 r3 q1 q2 q3 t1 t2 cX hb HR p1 p2
   go_wp2_with fail
   refine (Dg _ (M+1) (M+1) qs _ Q1.out (Q3.out.mem Q3.out.lt) (by have:=HM.out; omega) (Nat.le_refl _) Q2.out).mono ?_
   rintro e w4 ⟨rfl,rfl⟩
   go_wp2_with fail
   refine (Mn _ (len x+1) (len x+1) h rs _ R1.out (R3.out.mem R3.out.lt) R2.out (by omega) (by omega) hh).mono ?_
   rintro e w5 ⟨g2,fs,rfl,f1,f2,f3,f4,f5,f6⟩
   have F1:=Lib.hid f1;have F2:=Lib.hid f2;have F3:=Lib.hid f3;have F4:=Lib.hid f4;have F5:=Lib.hid f5;clear f1 f2 f3 f4 f5 f6
   go_wp2_with fail
   refine (Dg _ (len x+1) (len x+1) fs _ F1.out (F3.out.mem F3.out.lt) (by omega) (Nat.le_refl _) F2.out).mono ?_
   rintro e w6 ⟨rfl,hw⟩
   replace hw:=hw.symm;subst hw
   go_wp2
   go_ret2
   refine ⟨_,_,rfl,?_,?_,Ac HBW.out F5.out⟩
   ·have hq:=(Q3.out.nat Q2.out (c:=M+1) (by rw [Q1.out]; exact Nat.le_refl _)).into F5.out
    rw [← P1.out];exact hq
   ·have hr:=F3.out.nat F2.out (c:=len x+1) (by rw [F1.out]; exact Nat.le_refl _)
    rw [← P2.out,← F4.out];exact hr
  ·obtain ⟨i,rfl⟩:∃ i,j=i+1:=⟨j - 1,by omega⟩
   rw [show (((i+1:Nat):Int) - 1)=(i:Int) from by omega];have hML:M+n=len x:=by have:=HM.out; omega
   obtain ⟨rs,qs,r1,r2,r3,q1,q2,q3,t1,t2,cX,hb⟩:=HR.out;have hP:=Lib.hid (show I6 rs (Ae (y*2 ^ h)) i n from ⟨r2,As _,HDL.out,h2,by omega,t2,HDN.out⟩);have R1:=Lib.hid r1;have R2:=Lib.hid r2;have R3:=Lib.hid r3;have Q1:=Lib.hid q1;have Q2:=Lib.hid q2;have Q3:=Lib.hid q3;have T1:=Lib.hid t1;have CX:=Lib.hid cX;have HBW:=Lib.hid hb;clear r1 r2 r3 q1 q2 q3 t1 t2 cX hb HR
   go_wp2_with fail
   rw [show i+n+1 - i=n+1 from by omega];refine (WK wr R3.out hP.out CX.out (by omega)).mono ?_
   rintro e w4 ⟨q,rfl,hqb,hg1,hg2,hb4⟩
   have G1:=Lib.hid hg1;have G2:=Lib.hid hg2;have HB4:=Lib.hid (Ac HBW.out hb4);have R34:=Lib.hid (R3.out.below hb4 R3.out.lt);have Q34:=Lib.hid (Q3.out.below hb4 Q3.out.lt);have CX4:=Lib.hid (CX.out.below hb4);clear hg1 hg2 hb4
   go_wp2_with fail
   try rw [show i+n+1 - i=n+1 from by omega]
   refine (pB gr i n _ _ q rs (Ae (y*2 ^ h)) _ w4 HDL.out (by omega) R34.out R2.out (by have:=R1.out; omega) (CX4.out.memN hq3) (As _) hqb (by have:=R1.out; omega)).mono ?_
   rintro e w5 ⟨ds,neg,rfl,s1,s2,s3,s4,s5,s6,s7⟩
   have S1:=Lib.hid s1;have S2:=Lib.hid s2;have S3:=Lib.hid s3;have S4:=Lib.hid s4;have S5:=Lib.hid s5;have S6:=Lib.hid s6;have Q35:=Lib.hid (Q34.out.only s7 (Ne.symm hq1));have CX5:=Lib.hid (CX4.out.only s7 hq3);have HB5:=Lib.hid (ME HB4.out s7 hq4);clear s1 s2 s3 s4 s5 s6 s7;have hVX:Hid (0<val (Ae (y*2 ^ h))):=by have:=hP.out.low; exact Nat.lt_of_le_of_lt (Nat.zero_le _) this
   cases neg
   ·have hcq:=Q35.out.cell (show i<qs.length by have:=Q1.out; omega)
    have hfq:=Q35.out.frozen i;obtain ⟨p1,p2⟩:=aT (by simpa using S6.out) G1.out hVX.out;have P1:=Lib.hid p1;have P2:=Lib.hid p2;clear p1 p2;have hiM:(i:Int)<(M:Int)+1:=by omega
    go_wp2
    go_roundw
    case rel=>exact ⟨i,by omega,by go_num,GD.next hP.out R1.out Q1.out Q2.out (by omega) T1.out S1.out S2.out S3.out S4.out S5.out P2.out P1.out Q35.out CX5.out HB5.out hq1 hq2 hq5 _ rfl⟩
    case measure=>(simp [intOf] <;> omega)
   ·have huE:=Cv (((S2.out.drop i)).take (n+1))
    have hDE:=Cv (As (y*2 ^ h));rw [List.length_take,List.length_drop,Nat.min_eq_left (by have:=R1.out; have:=S1.out; omega)] at huE;rw [Aa,HDL.out] at hDE;have hs6:=S6.out;simp only [if_true,Nat.mul_one] at hs6;have hq0:0<q:=by
     rcases Nat.eq_zero_or_pos q with h0 | h0
     ·subst h0
      rw [Nat.zero_mul] at hs6;omega
     ·exact h0
    have HUE:=Lib.hid huE;have HDE:=Lib.hid hDE;have HS6:=Lib.hid hs6;clear huE hDE hs6 S6;have hiM:(i:Int)<(M:Int)+1:=by omega
    go_wp2_with fail
    try rw [show i+n+1 - i=n+1 from by omega]
    refine (tI gr i n _ _ ds (Ae (y*2 ^ h)) _ w5 HDL.out (by omega) S3.out S2.out (by have:=R1.out; have:=S1.out; omega) (CX5.out.memN hq3) (As _) (by have:=R1.out; have:=S1.out; omega)).mono ?_
    rintro e w6 ⟨fs,f,⟨v,rfl⟩,s1,s2,s3,s4,s5,s6,s7⟩
    have hvE:=Cv ((s2.drop i).take (n+1));rw [List.length_take,List.length_drop,Nat.min_eq_left (by have:=R1.out; have:=S1.out; omega)] at hvE;obtain ⟨p1,p2,_⟩:=eU HS6.out HUE.out s6 hvE (Nat.lt_of_lt_of_le HDE.out (Nat.pow_le_pow_right (by decide) (by omega))) G2.out;have P1:=Lib.hid p1;have P2:=Lib.hid p2;have V1:=Lib.hid (s1.trans S1.out);have V2:=Lib.hid s2;have V3:=Lib.hid s3;have V4:=Lib.hid (s4.trans S4.out);have V5:=Lib.hid (s5.trans S5.out);have Q36:=Lib.hid (Q35.out.only s7 (Ne.symm hq1));have CX6:=Lib.hid (CX5.out.only s7 hq3);have HB6:=Lib.hid (ME HB5.out s7 hq4);clear p1 p2 s1 s2 s3 s4 s5 s6 s7 hvE;have hcq:=Q36.out.cell (show i<qs.length by have:=Q1.out; omega);have hfq:=Q36.out.frozen i
    go_wp2
    go_roundw
    case rel=>exact ⟨i,by omega,by go_num,GD.next hP.out R1.out Q1.out Q2.out (by omega) T1.out V1.out V2.out V3.out V4.out V5.out P2.out P1.out Q36.out CX6.out HB6.out hq1 hq2 hq5 _ (by omega)⟩
    case measure=>(simp [intOf] <;> omega)
theorem ET.nat{w:World}{g c:Nat}{ms:List Nat}(h:ET w g ms)(h32:Bx ms)(hc:ms.length≤c):AB w (.slice (some ⟨g,0,none⟩) (len (val ms)) c) (val ms):=by
 obtain ⟨e1,e2,_⟩:=DY h32;refine ⟨_,c,rfl,by omega,?_⟩;rw [e1];exact h.mem.take _
theorem Aao{y:Nat}(h:len y=1):y<4294967296∧0<y∧(Ae y).getD 0 0=y:=by
 have h1:=BG y;rw [h,Nat.pow_one] at h1;have h0:0<y:=by
  rcases Nat.eq_zero_or_pos y with e | e
  ·subst e; rw [AX] at h; omega
  ·exact e
 refine ⟨h1,h0,?_⟩;rw [EI h0];simp only [List.getD_cons_zero];omega
set_option maxHeartbeats 1600000 in
theorem WN(va vb:Value)(x y:Nat)(w:World)(ha:AB w va x)(hb:AB w vb y)(hla:len x≤1099511627776)(h1:len y=1)(h3:3≤len x)(hle:y≤x) :
  Calls Tryz.prog 126 #[va,vb] w (EY (x / y) (x % y) w):=by
 obtain ⟨hy32,hy0,hyg⟩:=Aao h1;obtain ⟨A,c,rfl,HA⟩:=ha.open_;obtain ⟨B,d,rfl,HB⟩:=hb.open_;obtain ⟨ad,rfl,_,hca⟩:=HA.out.mem.2.2.at_ (show 0<(Ae x).length by rw [Aa]; omega);obtain ⟨v,hc,hv0⟩:∃ v:Int,GC x y=v∧0≤v:=⟨_,rfl,by rcases Nat.lt_or_ge y x with h | h; rw [FB h]; omega; rw [Gc (by omega)]; omega⟩;have HC:=Lib.hid hc;have hl2:decide ((len x:Int)≤2)=false:=by simp; omega
 have hl2':decide (len x≤2)=false:=by simp; omega
 have hl1:((len y:Int) == 1)=true:=by simp [h1]
 have hr:x % y<4294967296:=Nat.lt_of_lt_of_le (Nat.mod_lt _ hy0) (Nat.le_of_lt hy32);have H1:=Lib.hid h1;have HYG:=Lib.hid hyg;clear hc hca h1 hyg
 go_enter Tryz.func126,Tryz.ntmps126
 go_wp2_with fail
 refine (Hl _ _ _ _ x y _ HA.out HB.out (by omega) (by have:=H1.out; omega)).mono ?_
 rintro e w1 ⟨rfl,hb1⟩
 have HB1:=Lib.hid hb1;have HA1:=Lib.hid (HA.out.into hb1);have HY1:=Lib.hid (HB.out.into hb1);clear hb1;rw [HC.out]
 go_wp2_with fail
 refine (aR ad x c w1 HA1.out (by omega) (by omega)).mono ?_
 rintro e w2 ⟨g,c',rfl,hp2,hg2,hc2,hb2⟩
 have HP2:=Lib.hid hp2;have HB2:=Lib.hid (Ac HB1.out hb2);have HY2:=Lib.hid (HY1.out.into hb2);have hg:w.heap.size≤g:=by have:=HB1.out.size; omega
 have HCC:=Lib.hid hc2;clear hp2 hb2 hg2 hc2;obtain ⟨bd,eB,_,hcb⟩:=HY2.out.mem.2.2.at_ (show 0<(Ae y).length by rw [Aa,H1.out]; decide);subst eB;rw [← At (show 0<(Ae y).length by rw [Aa,H1.out]; decide),HYG.out,show bd.add 0=bd from by simp [Addr.add]] at hcb;rw [H1.out]
 go_wp2_with fail
 refine (Sf g (len x) c' (Ae x) y w2 rfl HP2.out (As _) (by omega) hy0 hy32).mono ?_
 rintro e w3 ⟨rfl,⟨ds,s1,s2,s3,s4⟩,s5⟩
 rw [Ao] at s3;have S1:=Lib.hid s1;have S2:=Lib.hid s2;have S3:=Lib.hid s3;have S4:=Lib.hid s4;have HB3:=Lib.hid (HB2.out.grown s5 HB2.out.size (λk hk=>by injection hk with hk; omega));clear s1 s2 s3 s4 s5;rw [Ao]
 go_wp2_with fail
 refine (Dg _ (len x) c' ds _ S1.out S4.out.mem (by omega) HCC.out S2.out).mono ?_
 rintro e w4 ⟨rfl,hw⟩
 replace hw:=hw.symm;subst hw
 go_wp2_with fail
 refine (CV (x % y) _ (by omega)).mono ?_
 rintro e w5 ⟨v5,rfl,hv5,hb5⟩
 go_wp2
 go_ret2
 refine ⟨_,_,rfl,?_,hv5,Ac HB3.out hb5⟩;have:=(S4.out.nat S2.out (c:=c') (by rw [S1.out]; exact HCC.out)).into hb5;rw [← S3.out];exact this
set_option maxHeartbeats 1600000 in
theorem SI(va vb:Value)(x y:Nat)(w:World)(ha:AB w va x)(hb:AB w vb y)(hla:len x≤1099511627775)(h1:2≤len y)(h3:3≤len x)(hle:y≤x) :
  Calls Tryz.prog 126 #[va,vb] w (EY (x / y) (x % y) w):=by
 have hlen:len y≤len x:=AY hle;obtain ⟨A,c,rfl,HA⟩:=ha.open_;obtain ⟨B,d,rfl,HB⟩:=hb.open_;obtain ⟨v,hc,hv0⟩:∃ v:Int,GC x y=v∧0≤v:=⟨_,rfl,by rcases Nat.lt_or_ge y x with h | h; rw [FB h]; omega; rw [Gc (by omega)]; omega⟩;have HC:=Lib.hid hc;have hl2:decide ((len x:Int)≤2)=false:=by simp; omega
 have hl2':decide (len x≤2)=false:=by simp; omega
 have hl1:((len y:Int) == 1)=false:=by simp; omega
 clear hc
 go_enter Tryz.func126,Tryz.ntmps126
 go_wp2_with fail
 refine (Hl _ _ _ _ x y _ HA.out HB.out (by omega) (by omega)).mono ?_
 rintro e w1 ⟨rfl,hb1⟩
 have HB1:=Lib.hid hb1;have HA1:=Lib.hid (HA.out.into hb1);have HY1:=Lib.hid (HB.out.into hb1);clear hb1;rw [HC.out]
 go_wp2_with fail
 refine (Nt A B c d x y w1 HA1.out HY1.out hla h1 hle).mono ?_
 rintro e w2 ⟨vq,vr,rfl,hq,hr,hb2⟩
 go_wp2
 go_ret2
 exact ⟨_,_,rfl,hq,hr,Ac HB1.out hb2⟩
theorem Nq(va vb:Value)(x y:Nat)(w:World)(ha:AB w va x)(hb:AB w vb y)(hla:len x≤1099511627775)(hlb:len y≤1099511627775)(hy:0<y) :
  Calls Tryz.prog 126 #[va,vb] w (EY (x / y) (x % y) w):=by
 rcases Nat.lt_or_ge x y with hlt | hge
 ·exact eH va vb x y w ha hb (by omega) (by omega) hlt
 ·rcases Nat.lt_or_ge (len x) 3 with h3 | h3
  ·refine Ru va vb x y w ha hb hy hge ?_
   have h1:=BG x;have h2:4294967296 ^ len x≤4294967296 ^ 2:=Nat.pow_le_pow_right (by decide) (by omega);rw [show 4294967296 ^ 2=18446744073709551616 from rfl] at h2;omega
  ·rcases Nat.lt_or_ge (len y) 2 with h2 | h2
   ·have h0:len y≠0:=λh=>by rw [AZ] at h; omega
    exact WN va vb x y w ha hb (by omega) (by omega) h3 hge
   ·exact SI va vb x y w ha hb hla h2 h3 hge
theorem WO(va vb:Value)(a b:Int)(w:World)(ha:Al w va a)(hb:Al w vb b)(hla:len a.natAbs≤549755813888)(hlb:len b.natAbs≤549755813888)(hb0:b≠0) :
  Calls Tryz.prog 119 #[va,vb] w (Yp (a / b) (a % b) 0 w):=
 TH va vb a b w ha hb hla hlb hb0 λu v W hu hv=>Nq u v _ _ W hu hv (by omega) (by omega) (by omega)
theorem Gy(x:Int){y:Int}(hy:0<y):(x / y).natAbs≤x.natAbs:=by
 have h1:=Int.mul_ediv_add_emod x y;have h2:=Int.emod_nonneg x (show y≠0 by omega);have h3:=Int.emod_lt_of_pos x hy
 rcases Int.lt_or_le (x / y) 0 with h | h
 ·have h4:y*(x / y)≤1*(x / y):=Int.mul_le_mul_of_nonpos_right (by omega) (by omega)
  rcases Int.lt_or_le (x / y) (-1) with h5 | h5
  ·have h6:y*(x / y+1)≤1*(x / y+1):=Int.mul_le_mul_of_nonpos_right (by omega) (by omega)
   rw [Int.mul_add] at h6;omega
  ·have h7:x / y = -1:=by omega
   rw [h7] at h1 ⊢;omega
 ·have h4:1*(x / y)≤y*(x / y):=Int.mul_le_mul_of_nonneg_right (by omega) h
  omega
theorem Sm.div{x y:Int}{i:Nat}(h:Sm x i):Sm (x / y) i:=by
 unfold Sm at *;have:(x / y).natAbs≤x.natAbs:=by
  rcases Int.lt_trichotomy y 0 with hy | hy | hy
  ·rw [show x / y = -(x / (-y)) from by rw [Int.ediv_neg,Int.neg_neg],Int.natAbs_neg]
   exact Gy _ (by omega)
  ·subst hy; simp
  ·exact Gy _ hy
 omega
theorem Sm.mod{x y:Int}{j:Nat}(h:Sm y j)(hy:y≠0):Sm (x % y) j:=by
 unfold Sm at *;have h1:=Int.emod_nonneg x hy;have h2:=Int.emod_lt x hy;omega
theorem Sm.abs{x:Int}{i:Nat}(h:Sm x i):Sm ((x.natAbs:Nat):Int) i:=by
 unfold Sm at *;rw [Int.natAbs_natCast];exact h
theorem mC{z:Int}{k:Nat}(h:Sm z k)(hk:k≤1000000000):len z.natAbs≤549755813888:=Nat.le_trans (AO h) (by omega)
section
variable {w : World} {va vb : Value} {x y : Int} {i j : Nat}
theorem vA(ha:(Af x).p va w)(hb:(Af y).p vb w)(sx:Sm x i)(sy:Sm y j)(hi:i≤1000000000)(hj:j≤1000000000)(hy:y≠0):Calls Tryz.prog 119 #[va,vb] w (Aj (DS (Af (x / y)) (Af (x % y)) (Am (.int .i64 0))) w):=
 (WO va vb x y w ha hb (mC sx hi) (mC sy hj) hy).mono λ_ _ ⟨_vq,_vr,he,hq,hr,hb⟩=>⟨_,he,⟨_,_,_,rfl,hq,hr,rfl⟩,hb⟩
theorem Lv{n:Nat}(ha:(Aw n).p va w)(hv:(Am (.bool false)).p vb w)(hn:len n≤4398046511104):Calls Tryz.prog 89 #[va,vb] w (Aj (Af (n:Int)) w):=by
 have hv:vb = .bool false:=hv;subst hv;have ha:AB w va n:=ha;obtain ⟨A,c,rfl,H⟩:=ha.open_;have h:=C4 A (len n) c (Ae n) false w (Aa n) H.out.mem.2.2.raw hn H.out.mem.2.1 (As n);rw [Ao] at h;exact h
end
theorem iF{ρ:Operand→Value}{w:World}:FU (.build 34 #[]) ρ w (Af 0):=⟨.agg #[.bool false,.slice none 0 0],w,λo ho=>by unfold execOp; rw [ho]; simp [go_sem],Below.refl _ _,Al.zero w none 0⟩
theorem GE(q:Nat)(w:World):(Instr.fieldAt 34 (.pointer (some ⟨q,0,none⟩)) 1).run Tryz.prog w = .ok (.pointer (some ⟨q,1,none⟩)) w:=by simp [go_sem]
theorem Br{z:Int}(w:World)(q:Nat)(h:(Ak z).p q w):∃ v,(Instr.loadAt 32 (.pointer (some ⟨q,1,none⟩))).run Tryz.prog w = .ok v w∧(Aw z.natAbs).p v w:=by
 obtain ⟨b,A,k,c,hh,s,e,hs⟩:=h;have h1:w.cell? ⟨q,1,none⟩=some (.slice A k c):=by rw [cell_of_row w q 1 _ _ (0,0) hh]; rfl
 simp only [Value.agg.injEq,Array.mk.injEq,List.cons.injEq,and_true] at e;exact ⟨.slice A k c,by simp [go_sem,h1],e.2 ▸ hs⟩
def B4(w:World)(v:Value)(n d:Int):Prop:=∃ b A k c b' A' k' c',v = .agg #[.bool b,.slice A k c,.bool b',.slice A' k' c']∧Al w (.agg #[.bool b,.slice A k c]) n∧Al w (.agg #[.bool b',.slice A' k' c']) d
theorem B4.grow{w w':World}{v:Value}{n d:Int}(h:B4 w v n d)(hg:Bt w w'):B4 w' v n d:=by
 obtain ⟨b,A,k,c,b',A',k',c',e,h1,h2⟩:=h;exact ⟨b,A,k,c,b',A',k',c',e,h1.grow hg,h2.grow hg⟩
def CO(n d:Int):PF:=⟨λv w=>B4 w v n d,λ_ _ _ hg h=>h.grow hg⟩
abbrev An(q:Rat):PF:=CO q.num (q.den:Int)
def FQ(n d:Int):CF:=⟨λg w=>∃ b A k c b' A' k' c',w.heap[g]? = some (.cells #[.bool b,.slice A k c,.bool b',.slice A' k' c'] 36 (0,0))∧Al w (.agg #[.bool b,.slice A k c]) n∧Al w (.agg #[.bool b',.slice A' k' c']) d,
 λ_ _ _ hg e ⟨b,A,k,c,b',A',k',c',h,h1,h2⟩=>⟨b,A,k,c,b',A',k',c',e.trans h,h1.grow hg,h2.grow hg⟩,λ_ _ ⟨_,_,_,_,_,_,_,_,h,_⟩=>⟨_,_,h,by decide⟩⟩
abbrev A8(q:Rat):CF:=FQ q.num (q.den:Int)
abbrev Bd:CF:=Afq #[.bool false,.slice none 0 0,.bool false,.slice none 0 0] 36 (by decide)
section
variable {w : World} {q : Nat} {n d z : Int}
theorem Ev{b b':Value}{A A':Value}(hh:w.heap[q]? = some (.cells #[b,A,b',A'] 36 (0,0))):w.cell? ⟨q,0,none⟩=some b∧w.cell? ⟨q,1,none⟩=some A∧w.cell? ⟨q,2,none⟩=some b'∧w.cell? ⟨q,3,none⟩=some A':=
 ⟨by rw [cell_of_row w q 0 _ _ (0,0) hh]; rfl,by rw [cell_of_row w q 1 _ _ (0,0) hh]; rfl,by rw [cell_of_row w q 2 _ _ (0,0) hh]; rfl,by rw [cell_of_row w q 3 _ _ (0,0) hh]; rfl⟩
theorem AH(w:World)(q:Nat)(h:(FQ n d).p q w):∃ v,(Instr.loadAt 36 (.pointer (some ⟨q,0,none⟩))).run Tryz.prog w = .ok v w∧(CO n d).p v w:=by
 obtain ⟨b,A,k,c,b',A',k',c',hh,h1,h2⟩:=h;obtain ⟨e0,e1,e2,e3⟩:=Ev hh;exact ⟨.agg #[.bool b,.slice A k c,.bool b',.slice A' k' c'],by simp [go_sem,e0,e1,e2,e3],_,_,_,_,_,_,_,_,rfl,h1,h2⟩
theorem Bc(w:World)(q:Nat)(h:(FQ n d).p q w):∃ v,(Instr.loadAt 34 (.pointer (some ⟨q,0,none⟩))).run Tryz.prog w = .ok v w∧(Af n).p v w:=by
 obtain ⟨b,A,k,c,b',A',k',c',hh,h1,h2⟩:=h;obtain ⟨e0,e1,e2,e3⟩:=Ev hh;exact ⟨.agg #[.bool b,.slice A k c],by simp [go_sem,e0,e1],h1⟩
theorem Bs(w:World)(q:Nat)(h:(FQ n d).p q w):∃ v,(Instr.loadAt 34 (.pointer (some ⟨q,2,none⟩))).run Tryz.prog w = .ok v w∧(Af d).p v w:=by
 obtain ⟨b,A,k,c,b',A',k',c',hh,h1,h2⟩:=h;obtain ⟨e0,e1,e2,e3⟩:=Ev hh;exact ⟨.agg #[.bool b',.slice A' k' c'],by simp [go_sem,e2,e3],h2⟩
theorem DC(q:Nat)(w:World):(Instr.fieldAt 36 (.pointer (some ⟨q,0,none⟩)) 0).run Tryz.prog w = .ok (.pointer (some ⟨q,0,none⟩)) w:=by simp [go_sem]
theorem Et(q:Nat)(w:World):(Instr.fieldAt 36 (.pointer (some ⟨q,0,none⟩)) 1).run Tryz.prog w = .ok (.pointer (some ⟨q,2,none⟩)) w:=by simp [go_sem]
def YG:Obj:=.cells #[.bool false,.slice none 0 0,.bool false,.slice none 0 0] 36 (0,0)
theorem AN(w:World):(Instr.alloc 36 true (.tuple #[])).run Tryz.prog w = .ok (.pointer (some ⟨w.heap.size,0,none⟩)) (w.alloc YG):=by simp [go_sem,YG]
theorem AP(w:World):Bd.p w.heap.size (w.alloc YG):=Io w YG
theorem AL(w:World)(v:Value)(h:(CO n d).p v w):∃ ob,(Instr.box 36 v).run Tryz.prog w = .ok (.pointer (some ⟨w.heap.size,0,none⟩)) (w.alloc ob)∧(FQ n d).p w.heap.size (w.alloc ob):=by
 obtain ⟨b,A,k,c,b',A',k',c',rfl,h1,h2⟩:=h;exact ⟨.cells #[.bool b,.slice A k c,.bool b',.slice A' k' c'] 36 (0,0),by simp [go_sem],b,A,k,c,b',A',k',c',Io w _,h1.into (Ai w _),h2.into (Ai w _)⟩
def sV(w:World)(q:Nat):Prop:=∃ b A k c b' A' k' c',w.heap[q]? = some (.cells #[.bool b,.slice A k c,.bool b',.slice A' k' c'] 36 (0,0))
theorem OL{old:CF}(ho:∀ q w,old.p q w→sV w q):Fb 36 old (CO n d) (FQ n d):=by
 intro w q v h1 h2;obtain ⟨b,A,k,c,b',A',k',c',rfl,h2,h3⟩:=h2;obtain ⟨x0,B0,k0,c0,x1,B1,k1,c1,hh⟩:=ho q w h1;obtain ⟨e0,e1,e2,e3⟩:=Ev hh;have f0:=AA hh 0;have f1:=AA hh 1;have f2:=AA hh 2;have f3:=AA hh 3;have hne:(36:TypeId)≠114:=by decide
 have g0:=Bt.set hh hne 0 (.bool b);have b0:=Az hh 0 (.bool b);have g1:=Bt.set b0 hne 1 (.slice A k c);have b1:=Az b0 1 (.slice A k c);have g2:=Bt.set b1 hne 2 (.bool b');have b2:=Az b1 2 (.bool b');have g3:=Bt.set b2 hne 3 (.slice A' k' c');have b3:=Az b2 3 (.slice A' k' c');have g:=((g0.trans g1).trans g2).trans g3;refine ⟨(((w.setCell ⟨q,0,none⟩ (.bool b)).setCell ⟨q,1,none⟩ (.slice A k c)).setCell ⟨q,2,none⟩ (.bool b')).setCell ⟨q,3,none⟩ (.slice A' k' c'),by simp [go_sem,e0,e1,e2,e3,f0,f1,f2,f3],λB W hq hB=>(((hB.setCell hq _).setCell hq _).setCell hq _).setCell hq _,g,λj hj=>?_,b,A,k,c,b',A',k',c',b3,h2.grow g,h3.grow g⟩;rw [Below.heap_setCell _ _ _ _ hj,Below.heap_setCell _ _ _ _ hj,Below.heap_setCell _ _ _ _ hj,Below.heap_setCell _ _ _ _ hj]
theorem AK:Fb 36 Bd (CO n d) (FQ n d):=OL λ_ _ h=>⟨_,_,_,_,_,_,_,_,h⟩
theorem VF{n' d':Int}:Fb 36 (FQ n' d') (CO n d) (FQ n d):=OL λ_ _ ⟨b,A,k,c,b',A',k',c',h,_⟩=>⟨b,A,k,c,b',A',k',c',h⟩
theorem B4.mk{w:World}{a b:Value}(h1:Al w a n)(h2:Al w b d):∃ x A k c y B l e,a = .agg #[.bool x,.slice A k c]∧b = .agg #[.bool y,.slice B l e]∧B4 w (.agg #[.bool x,.slice A k c,.bool y,.slice B l e]) n d:=by
 obtain ⟨x,A,k,c,rfl,H1⟩:=h1.open_;obtain ⟨y,B,l,e,rfl,H2⟩:=h2.open_;exact ⟨x,A,k,c,y,B,l,e,rfl,rfl,x,A,k,c,y,B,l,e,rfl,H1.out,H2.out⟩
end
section
variable {ρ : Operand → Value} {w : World} {x y : Operand} {n d : Int}
theorem gP(hx:(Af n).p (ρ x) w)(hy:(Af d).p (ρ y) w):FU (.build 36 #[(0,x),(1,y)]) ρ w (CO n d):=by
 obtain ⟨b,A,k,c,b',A',k',c',e1,e2,h⟩:=B4.mk hx hy;exact ⟨_,w,λo ho=>by unfold execOp; rw [ho]; simp [go_sem,e1,e2],Below.refl _ _,h⟩
theorem BA{n' d':Int}(e1:n=n')(e2:d=d')(hx:(Af n).p (ρ x) w)(hy:(Af d).p (ρ y) w):FU (.build 36 #[(0,x),(1,y)]) ρ w (CO n' d'):=by
 subst e1 e2;exact gP hx hy
theorem Ok:FU (.build 36 #[]) ρ w (CO 0 0):=⟨.agg #[.bool false,.slice none 0 0,.bool false,.slice none 0 0],w,λo ho=>by unfold execOp; rw [ho]; simp [go_sem],Below.refl _ _,_,_,_,_,_,_,_,_,rfl,Al.zero w none 0,Al.zero w none 0⟩
end
theorem Cy(q:Rat):(0:Int)<(q.den:Int):=by have:=q.den_pos; omega
theorem Hp(a b:Rat)(g n:Int)(hg:g=(Int.gcd (a.den:Int) (b.den:Int):Nat))(hn:n=a.num*((b.den:Int) / g)+b.num*((a.den:Int) / g)) :
  (a+b).num=n / (Int.gcd n g:Nat)∧((a+b).den:Int)=g / (Int.gcd n g:Nat)*((a.den:Int) / g*((b.den:Int) / g)):=by
 obtain ⟨G,hG⟩:∃ G,G=a.den.gcd b.den:=⟨_,rfl⟩;have hgG:g=(G:Int):=by rw [hg,hG]; rfl
 have hb:=Nat.gcd_dvd_right a.den b.den;rw [← hG] at hb;obtain ⟨bd,hbd⟩:=hb;have hGp:0<G:=by rw [hG]; exact Nat.gcd_pos_of_pos_left _ a.den_pos
 subst hgG;have e1:((b.den:Int) / (G:Int))=((b.den / G:Nat):Int):=by rw [Int.natCast_ediv]
 have e2:((a.den:Int) / (G:Int))=((a.den / G:Nat):Int):=by rw [Int.natCast_ediv]
 rw [e1,e2] at hn;have hb1:b.den / G=bd:=by rw [hbd,Nat.mul_div_cancel_left _ hGp]
 have hgcd:Int.gcd n (G:Int)=n.natAbs.gcd G:=rfl;show (Rat.add a b).num=_∧((Rat.add a b).den:Int)=_;obtain ⟨g1,hg1⟩:∃ g1,g1=n.natAbs.gcd G:=⟨_,rfl⟩;have hdv:g1 ∣ G:=by rw [hg1]; exact Nat.gcd_dvd_right _ _
 obtain ⟨g',hg'⟩:=hdv;have hg1p:0<g1:=by rw [hg1]; exact Nat.gcd_pos_of_pos_right _ hGp
 have hden:(a.den / G)*b.den / g1=G / g1*(a.den / G*(b.den / G)):=by
  rw [hb1];have:G / g1=g':=by rw [hg',Nat.mul_div_cancel_left _ hg1p]
  rw [this];have:a.den / G*b.den=g1*(g'*(a.den / G*bd)):=by
   conv=>lhs; rw [hbd]
   conv=>lhs; arg 2; rw [hg']
   simp only [Nat.mul_left_comm,Nat.mul_comm]
  rw [this,Nat.mul_div_cancel_left _ hg1p]
 have key:(a+b).num=n / (g1:Int)∧(a+b).den=(a.den / G)*b.den / g1:=by
  show (Rat.add a b).num=_∧(Rat.add a b).den=_
  delta Rat.add
  simp only [← hG];split
  ·rename_i h1
   subst h1;have:g1=1:=by rw [hg1,Nat.gcd_one_right]
   rw [this];simp only [Nat.div_one,Int.natCast_one,Int.ediv_one,and_true];rw [hn]; simp
  ·simp only [← hn,← hg1,Rat.maybeNormalize_eq,Int.divExact_eq_tdiv,and_true]
   rw [Int.tdiv_eq_ediv_of_dvd];rw [hg1];exact Int.ofNat_dvd_left.2 (Nat.gcd_dvd_left _ _)
 rw [hgcd,← hg1,e1,e2];refine ⟨key.1,?_⟩;rw [show (Rat.add a b).den=_ from key.2,hden]
 push_cast
 rfl
theorem KB(a b:Rat):(a*b).num=a.num / (Int.gcd a.num (b.den:Int):Nat)*(b.num / (Int.gcd b.num (a.den:Int):Nat))∧((a*b).den:Int)=(a.den:Int) / (Int.gcd b.num (a.den:Int):Nat)*((b.den:Int) / (Int.gcd a.num (b.den:Int):Nat)):=by
 have h1:((Int.gcd a.num (b.den:Int):Nat):Int) ∣ a.num:=Int.gcd_dvd_left ..;have h2:((Int.gcd b.num (a.den:Int):Nat):Int) ∣ b.num:=Int.gcd_dvd_left ..;show (Rat.mul a b).num=_∧((Rat.mul a b).den:Int)=_
 delta Rat.mul
 simp only [Int.divExact_eq_tdiv,Nat.divExact_eq_div];refine ⟨?_,?_⟩
 ·rw [Int.tdiv_eq_ediv_of_dvd (by exact h1),Int.tdiv_eq_ediv_of_dvd (by exact h2)]
  rfl
 ·push_cast; rfl
theorem L2(n d:Int)(hd:0<d):(Rat.divInt n d).num=n / (Int.gcd n d:Nat)∧((Rat.divInt n d).den:Int)=d / (Int.gcd n d:Nat):=by
 rw [Rat.num_divInt,Rat.den_divInt,if_neg (by omega),Int.sign_eq_one_of_pos hd,Int.one_mul,Int.gcd_comm d n];refine ⟨rfl,?_⟩
 push_cast
 rw [Int.natAbs_of_nonneg (by omega)]
theorem Af0(n d:Int)(hd:d<0):(Rat.divInt n d).num=n / -(Int.gcd n d:Nat)∧((Rat.divInt n d).den:Int)=d / -(Int.gcd n d:Nat):=by
 have h:=L2 (-n) (-d) (by omega);rw [Rat.neg_divInt_neg,Int.gcd_neg,Int.neg_gcd] at h;rw [Int.ediv_neg,Int.ediv_neg,← Int.neg_ediv_of_dvd (Int.gcd_dvd_left ..),← Int.neg_ediv_of_dvd (Int.gcd_dvd_right ..)];exact h
theorem HU(n:Int):((n:Rat)).num=n∧(((n:Rat)).den:Int)=1:=⟨rfl,rfl⟩
theorem NL(a:Rat)(h:a.num<0):(a⁻¹).num = -(a.den:Int)∧((a⁻¹).den:Int) = -a.num:=by
 rw [Rat.num_inv,Rat.den_inv,if_neg (by omega),Int.sign_eq_neg_one_of_neg h];omega
theorem Nv(a:Rat)(h:0<a.num):(a⁻¹).num=(a.den:Int)∧((a⁻¹).den:Int)=a.num:=by
 rw [Rat.num_inv,Rat.den_inv,if_neg (by omega),Int.sign_eq_one_of_pos h];omega
def FV(a b:Rat):Int:=if a<b then -1 else if a=b then 0 else 1
theorem aP(a b:Rat):Int.sign (a.num*b.den - b.num*a.den)=FV a b:=by
 unfold FV;split
 ·rename_i h
  rw [Rat.lt_iff] at h;exact Int.sign_eq_neg_one_of_neg (by omega)
 ·rename_i h
  rw [Rat.lt_iff] at h;split
  ·rename_i e
   rw [Rat.eq_iff_mul_eq_mul] at e;rw [e,Int.sub_self]; rfl
  ·rename_i e
   rw [Rat.eq_iff_mul_eq_mul] at e;exact Int.sign_eq_one_of_pos (by omega)
theorem Tf(a:Rat):Int.sign a.num=FV a 0:=by
 rw [← aP]; simp
theorem W2(a b:Rat):(a+b).den≤a.den*b.den:=by
 have:=Rat.den_add a b;rw [this]; exact Nat.div_le_self _ _
def AR(q:Rat)(k:Nat):Prop:=Sm q.num k∧Sm (q.den:Int) k
theorem jV{a b i:Nat}(h:Sm ((b:Nat):Int) i)(hle:a≤b):Sm ((a:Nat):Int) i:=Nat.lt_of_le_of_lt hle h
theorem Dc{x y:Int}{i j:Nat}(hx:Sm x i)(hy:Sm y j):Sm ((Int.gcd x y:Nat):Int) (max i j):=by
 by_cases h:x=0
 ·subst h
  rw [Int.gcd_zero_left];exact hy.abs.mono (Nat.le_max_right _ _)
 ·exact jV (hx.abs.mono (Nat.le_max_left _ _)) (Nat.le_of_dvd (by omega) (Int.ofNat_dvd_left.1 (Int.gcd_dvd_left ..)))
theorem AR.mono{q:Rat}{i j:Nat}(h:AR q i)(hk:i≤j):AR q j:=⟨h.1.mono hk,h.2.mono hk⟩
theorem AR.add{a b:Rat}{i j:Nat}(ha:AR a i)(hb:AR b j):AR (a+b) (i+j+1):=by
 have h:=(Hp a b _ _ rfl rfl)
 constructor
 ·rw [h.1]
  exact (((ha.1.mul hb.2.div).add (hb.1.mul ha.2.div)).mono (by omega)).div
 ·have h2:Sm ((a.den*b.den:Nat):Int) (i+j):=by push_cast; exact ha.2.mul hb.2
  exact (jV h2 (W2 a b)).mono (by omega)
theorem AR.neg{a:Rat}{i:Nat}(ha:AR a i):AR (-a) i:=⟨by rw [Rat.neg_num]; exact ha.1.neg,by rw [Rat.neg_den]; exact ha.2⟩
theorem AR.sub{a b:Rat}{i j:Nat}(ha:AR a i)(hb:AR b j):AR (a - b) (i+j+1):=by
 rw [Rat.sub_eq_add_neg]; exact ha.add hb.neg
theorem AR.mul{a b:Rat}{i j:Nat}(ha:AR a i)(hb:AR b j):AR (a*b) (i+j):=by
 have h:=KB a b;exact ⟨by rw [h.1]; exact ha.1.div.mul hb.1.div,by rw [h.2]; exact ha.2.div.mul hb.2.div⟩
theorem AR.inv{a:Rat}{i:Nat}(ha:AR a i):AR a⁻¹ i:=by
 rcases Int.lt_trichotomy a.num 0 with h | h | h
 ·have:=NL a h
  exact ⟨by rw [this.1]; exact ha.2.neg,by rw [this.2]; exact ha.1.neg⟩
 ·have:a=0:=Rat.num_eq_zero.1 h
  subst this;rw [Rat.inv_zero];exact ha
 ·have:=Nv a h
  exact ⟨by rw [this.1]; exact ha.2,by rw [this.2]; exact ha.1⟩
theorem AR.div{a b:Rat}{i j:Nat}(ha:AR a i)(hb:AR b j):AR (a / b) (i+j):=by
 rw [Rat.div_def]; exact ha.mul hb.inv
theorem AR.whole{n:Int}{i:Nat}(hn:Sm n (i+1)):AR (n:Rat) (i+1):=⟨hn,by
 show (1:Nat)<4294967296 ^ (i+1);exact Nat.lt_of_lt_of_le (by decide:1<4294967296 ^ 1) (Nat.pow_le_pow_right (by decide) (by omega))⟩
theorem AR.of{n d:Int}{i:Nat}(hn:Sm n i)(hd:Sm d i)(h0:d≠0):AR (Rat.divInt n d) i:=by
 rcases Int.lt_or_gt_of_ne h0 with h | h
 ·have:=Af0 n d h
  exact ⟨by rw [this.1]; exact hn.div,by rw [this.2]; exact hd.div⟩
 ·have:=L2 n d h
  exact ⟨by rw [this.1]; exact hn.div,by rw [this.2]; exact hd.div⟩
end Go.Proofs.YtdopbgnkneeceaaGreat
