/- Walks: the reference's estimate, a step of the quotient. -/
import Derived.Test.YtdopbgnkneeceaaGreatqKnQ
set_option linter.unusedSectionVars false
set_option linter.unusedVariables false
set_option linter.unusedSimpArgs false
set_option maxRecDepth 100000
namespace Go.Proofs.YtdopbgnkneeceaaGreat
open Go.RowKit
theorem Kx{y n x0:Nat}(hn:len y=n+1)(hx0:(Ae y).getD n 0=x0):∃ lo,y=lo+4294967296 ^ n*x0∧lo<4294967296 ^ n:=by
 have h:=Au (Ae y) n;rw [List.take_of_length_le (by rw [Aa]; omega),Ao,hx0] at h;refine ⟨_,h,?_⟩;have:=Cv ((As y).take n);rwa [List.length_take,Aa,hn,Nat.min_eq_left (by omega)] at this
theorem fS{y n x0 x1:Nat}(hn:len y=n+2)(hx0:(Ae y).getD n 0=x0)(hx1:(Ae y).getD (n+1) 0=x1):∃ lo,y=lo+4294967296 ^ n*(x1*4294967296+x0):=by
 have h:=Ai2 (Ae y) n;rw [List.take_of_length_le (by rw [Aa]; omega),Ao,hx0,hx1] at h;exact ⟨_,by rw [h]; congr 2; omega⟩
theorem pF{R D T t Q P lo:Nat}(hR:R=lo+P*Q*T)(hD:D≤(t+1)*Q):P*(T / (t+1))*D≤R:=by
 have h1:T / (t+1)*(t+1)≤T:=Nat.div_mul_le_self _ _;have h2:P*(T / (t+1))*D≤P*(T / (t+1))*((t+1)*Q):=Nat.mul_le_mul_left _ hD;have h3:P*(T / (t+1))*((t+1)*Q)=P*Q*(T / (t+1)*(t+1)):=by
  simp only [Nat.mul_assoc,Nat.mul_comm,Nat.mul_left_comm]
 have h4:P*Q*(T / (t+1)*(t+1))≤P*Q*T:=Nat.mul_le_mul_left _ h1;omega
theorem pY{D lo m t:Nat}(h:D=lo+4294967296 ^ m*t)(hl:lo<4294967296 ^ m):D≤(t+1)*4294967296 ^ m:=by
 rw [Nat.add_mul,Nat.one_mul,Nat.mul_comm t];omega
theorem Ct.row(w:World)(ms:List Nat){base:Nat}(hb:base≤w.heap.size)(hk:ms.length≤17592186044416):Ct (w.alloc (B9 ms)) base (.slice (some ⟨w.heap.size,0,none⟩) ms.length ms.length) ms:=
 ⟨by simp,.inr ⟨w.heap.size,ms.length,(ms.map (fun (x:Nat)=>Value.int .u32 (x:Int))).toArray,rfl,hb,heap_alloc_new w _,Nat.le_refl _,by unfold maxLen; omega,by simp,by simp [List.take_of_length_le]⟩⟩
theorem Ct.zeros(w:World)(k:Nat){base:Nat}(hb:base≤w.heap.size)(hk:k≤17592186044416):Ct (w.alloc (B9 (List.replicate k 0))) base (.slice (some ⟨w.heap.size,0,none⟩) k k) (List.replicate k 0):=by
 have:=Ct.row w (List.replicate k 0) hb (by simpa using hk);rwa [List.length_replicate] at this
theorem xN(w:World)(x y:Int)(r s g:Nat)(hg:w.heap.size=g)(hx:x=r)(hy:y=s):Cq (w.alloc (.cells #[.int .u32 x,.int .u32 y] 114)) (w.alloc (.cells #[.int .u32 x,.int .u32 y] 114)).heap.size (some ⟨g,0,none⟩) [r,s]:=by
 subst hg;subst hx;subst hy;exact ((Cx.new w [r,s]).mem (B:=(w.alloc (B9 [r,s])).heap.size) (by simp)).raw
def Ck(R D:Nat):Nat:=
 if len R=len D then max 1 ((Ae R).getD (len R - 1) 0 / ((Ae D).getD (len D - 1) 0+1))
 else 4294967296 ^ (len R - len D - 1)*(((Ae R).getD (len R - 1) 0*4294967296+(Ae R).getD (len R - 2) 0) / ((Ae D).getD (len D - 1) 0+1))
theorem oS{R D T t Q lo:Nat}(hR:R=lo+Q*T)(hD:D≤(t+1)*Q)(hle:D≤R):0<max 1 (T / (t+1))∧max 1 (T / (t+1))*D≤R:=by
 have:=pF (P:=1) (R:=R) (D:=D) (T:=T) (t:=t) (Q:=Q) (lo:=lo) (by rw [Nat.one_mul]; exact hR) hD;rw [Nat.one_mul] at this
 rcases Nat.lt_or_ge 1 (T / (t+1)) with h | h
 ·rw [Nat.max_eq_right (by omega)]; exact ⟨by omega,this⟩
 ·rw [Nat.max_eq_left (by omega)]; exact ⟨by omega,by omega⟩
set_option maxHeartbeats 1600000 in
theorem rQ(A B:Option Addr)(c d n R D:Nat)(w:World)(ha:CQ w w.heap.size A (Ae R))(hb:CQ w w.heap.size B (Ae D))(hR:len R=n+1)(hD:len D=n+1)(hl:n≤1099511627776) :
  Calls Tryz.prog 133 #[.slice A (n+1:Nat) c,.slice B (n+1:Nat) d] w (Be (Ck R D:Nat) w):=by
 obtain ⟨ad,rfl,hlt1,hca⟩:=ha.at_ (show n<(Ae R).length by rw [Aa]; omega);obtain ⟨bd,rfl,hlt2,hcb⟩:=hb.at_ (show n<(Ae D).length by rw [Aa]; omega);have hp:=(As R).get (show n<(Ae R).length by rw [Aa]; omega);have hq:=(As D).get (show n<(Ae D).length by rw [Aa]; omega);have gp:=At (show n<(Ae R).length by rw [Aa]; omega);have gq:=At (show n<(Ae D).length by rw [Aa]; omega);generalize (Ae R)[n]'(by rw [Aa]; omega)=p at *;generalize (Ae D)[n]'(by rw [Aa]; omega)=t at *;have hS:max 1 (p / (t+1))=Ck R D:=by
  unfold Ck;rw [if_pos (by omega),hR,hD,Nat.add_sub_cancel,gp,gq]
 have HS:=Lib.hid hS;clear gp gq hS hR hD ha hb;have hb1:=Ai w (.cells #[.bool false,.slice none 0 0] 34);have hca1:=(hb1.cell (p:=ad.add n) (by rw [Ap]; exact hlt1)).trans hca;have hcb1:=(hb1.cell (p:=bd.add n) (by rw [Ap]; exact hlt2)).trans hcb;clear hca hcb hb1;have hi:((n+1:Nat):Int) - 1=(n:Int):=by omega
 have i0:(0:Int)≤(n:Int):=by omega
 have i1:(n:Int)<((n+1:Nat):Int):=by omega
 have hz:((n+1:Nat):Int) - ((n+1:Nat):Int)=0:=by omega
 generalize ((n+1:Nat):Int)=L at *
 go_enter Tryz.func133,Tryz.ntmps133
 go_wp2_with fail
 go_quiet (fail)
 go_wp2_with fail
 have hq1:(p:Int) / ((t:Int)+1)=((p / (t+1):Nat):Int):=by rw [Int.natCast_ediv]; rfl
 have hle1:p / (t+1)≤p:=Nat.div_le_self _ _;have hv:wrap64 (max 1 (IntKind.u64.wrap ((p:Int) / ((t:Int)+1))))=((max 1 (p / (t+1)):Nat):Int):=by
  rw [hq1,Bo _ (by omega)];generalize p / (t+1)=z at *;rw [show max (1:Int) (z:Int)=((max 1 z:Nat):Int) from by omega];unfold wrap64; omega
 rw [hv];refine (XR _ _ (by omega) (by omega)).mono ?_
 rintro e w2 ⟨v2,rfl,hv2,hb2⟩
 obtain ⟨b,A,k,c2,rfl,H⟩:=hv2.open_;have hB:Below (w.alloc (.cells #[.bool false,.slice none 0 0] 34)).heap.size (w.alloc (.cells #[.bool false,.slice none 0 0] 34)) w2:=(BE _ nq).trans hb2;obtain ⟨hc0,hc1,hf0,hf1,hs⟩:=NC hB;have HE:=Lib.hid (C5 (x':=.bool b) (y':=.slice A k c2) hB H.out);clear hB hb2 hv hq1
 go_wp2
 refine bodyPost_ret (v:=.agg #[.bool b,.slice A k c2]) (by simp [results,Tryz.results133,go_sem,hc0,hc1]) rfl ⟨_,rfl,by rw [← HS.out]; exact HE.out.1,HE.out.2⟩
set_option maxHeartbeats 1600000 in
theorem jP(A B:Option Addr)(c d N M k m R D:Nat)(w:World)(ha:CQ w w.heap.size A (Ae R))(hb:CQ w w.heap.size B (Ae D))(hR:len R=N)(hN:N=k+m+2)(hD:len D=M)(hM:M=m+1)(hl:k+m≤1099511627776) :
  Calls Tryz.prog 133 #[.slice A N c,.slice B M d] w (Be (Ck R D:Nat) w):=by
 obtain ⟨a,ea⟩:∃ a,a=k+m+1:=⟨_,rfl⟩;obtain ⟨b,eb⟩:∃ b,b=k+m:=⟨_,rfl⟩;obtain ⟨K,eK⟩:∃ K,K=k+1:=⟨_,rfl⟩;obtain ⟨ad,rfl,hlt1,hca⟩:=ha.at_ (show a<(Ae R).length by rw [Aa]; omega);obtain ⟨ad',e,hlt3,hcs⟩:=ha.at_ (show b<(Ae R).length by rw [Aa]; omega);injection e with e
 subst e;obtain ⟨bd,rfl,hlt2,hcb⟩:=hb.at_ (show m<(Ae D).length by rw [Aa]; omega);have hp:=(As R).get (show a<(Ae R).length by rw [Aa]; omega);have hs:=(As R).get (show b<(Ae R).length by rw [Aa]; omega);have hq:=(As D).get (show m<(Ae D).length by rw [Aa]; omega);have gp:=At (show a<(Ae R).length by rw [Aa]; omega);have gs:=At (show b<(Ae R).length by rw [Aa]; omega);have gq:=At (show m<(Ae D).length by rw [Aa]; omega);generalize (Ae R)[a]'(by rw [Aa]; omega)=p at *;generalize (Ae R)[b]'(by rw [Aa]; omega)=s at *;generalize (Ae D)[m]'(by rw [Aa]; omega)=t at *;obtain ⟨E,hE⟩:∃ E,E=(p*4294967296+s) / (t+1):=⟨_,rfl⟩;have hE1:E<18446744073709551616:=by rw [hE]; exact Nat.lt_of_le_of_lt (Nat.div_le_self _ _) (by omega)
 have hS:4294967296 ^ k*E=Ck R D:=by
  unfold Ck;rw [if_neg (by omega),hR,hD,show N - 1=a from by omega,show N - 2=b from by omega,show M - 1=m from by omega,show N - M - 1=k from by omega,gp,gs,gq,hE]
 have HS:=Lib.hid hS;have hb1:=Ai w (.cells #[.bool false,.slice none 0 0] 34);have hca1:=(hb1.cell (p:=ad.add a) (by rw [Ap]; exact hlt1)).trans hca;have hcs1:=(hb1.cell (p:=ad.add b) (by rw [Ap]; exact hlt1)).trans hcs;have hcb1:=(hb1.cell (p:=bd.add m) (by rw [Ap]; exact hlt2)).trans hcb;clear hca hcs hcb hb1;have hi:(N:Int) - 1=(a:Int):=by omega
 have hi2:(N:Int) - 2=(b:Int):=by omega
 have hj:(M:Int) - 1=(m:Int):=by omega
 have i1:(a:Int)<(N:Int):=by omega
 have i2:(b:Int)<(N:Int):=by omega
 have i3:(m:Int)<(M:Int):=by omega
 have hz:(N:Int) - (M:Int)=(K:Int):=by omega
 have hk1:((K:Int) == 0)=false:=by simp; omega
 have hk2:(K:Int) - 1=(k:Int):=by omega
 have bN:N≤1099511627778:=by omega
 have bM:M≤1099511627778:=by omega
 have bK:K≤1099511627778:=by omega
 have hmk:=λW=>Kw (k:Int) (by omega) (by omega) W
 rw [Int.toNat_natCast] at hmk;have hqq:((p:Int)*4294967296+(s:Int)) / ((t:Int)+1)=(E:Int):=by
  have e:((p:Int)*4294967296+(s:Int))=((p*4294967296+s:Nat):Int):=by omega
  have e':((t:Int)+1)=((t+1:Nat):Int):=by omega
  rw [e,e',← Int.natCast_ediv,← hE]
 clear gp gs gq hR hD ha hb hS hlt3 hE ea eb eK hN hM
 go_enter Tryz.func133,Tryz.ntmps133
 go_wp2_with fail
 go_quiet (fail)
 go_wp2_with fail
 generalize nq=n1 at *
 go_quiet (fail)
 have hWb:Below (w.alloc (.cells #[.bool false,.slice none 0 0] 34)).heap.size (w.alloc (.cells #[.bool false,.slice none 0 0] 34)) (((w.alloc (.cells #[.bool false,.slice none 0 0] 34)).drewN n1).drewN nq):=Ac (BE _ n1) (BE _ nq);have hWs:(((w.alloc (.cells #[.bool false,.slice none 0 0] 34)).drewN n1).drewN nq).heap.size=w.heap.size+1:=by simp
 generalize ((w.alloc (.cells #[.bool false,.slice none 0 0] 34)).drewN n1).drewN nq=W at *;have HWB:=Lib.hid hWb;have HWS:=Lib.hid hWs;clear hWb hWs hca1 hcs1 hcb1;have HO:=Lib.hid (Ct.zeros W k (base:=w.heap.size+1) (by rw [HWS.out]; exact Nat.le_refl _) (by omega))
 go_wp2_with (at_builtin; refine AG rfl (.tmp 57) (.tmp 63) rfl (w.heap.size+1) (.slice (some ⟨W.heap.size,0,none⟩) k k) (List.replicate k 0) rfl (HO.out.alloc _) _ (some ⟨W.heap.size+1,0,none⟩) 2 2 [E % 4294967296,E / 4294967296] rfl (xN _ _ _ _ _ _ (by simp) (by omega) (by omega)) rfl (by simp; omega) (by have:=HWS.out; simp; omega) ?_; rintro v' w1 hown hgrow hat)
 obtain ⟨A',L,c',rfl,HLL,hc',_,hm'⟩:=hown.shapeL;have hbb:=(Ac (Ai W (B9 (List.replicate k 0))) (Ai _ _)).grown hgrow (by simp; omega) (by
  intro g hg;simp [Value.ownBlock] at hg;subst hg;exact Nat.le_refl _)
 have hbW:=Lib.hid (Ac HWB.out hbb);have h32:Bx (List.replicate k 0 ++ [E % 4294967296,E / 4294967296]):=(Bx.replicate k).append (Bx.mk (by omega) (Bx.mk (by omega) Bx.nil_));have hval:BK false (val (List.replicate k 0 ++ [E % 4294967296,E / 4294967296]))=((4294967296 ^ k*E:Nat):Int):=by
  rw [IV,Ip,List.length_replicate,Nat.zero_add,show val [E % 4294967296,E / 4294967296]=E from by simp only [val]; omega];rfl
 have HV:=Lib.hid hval;have hLk:L=k+2:=by rw [HLL.out]; simp
 have hLb:L≤4398046511104:=by omega
 clear hbb hgrow hat hown hval;refine (C4 _ L c' (List.replicate k 0 ++ [E % 4294967296,E / 4294967296]) false _ HLL.out.symm hm'.raw hLb hc' h32).mono ?_
 rintro e w2 ⟨v2,rfl,hv2,hb2⟩
 rw [HV.out] at hv2;obtain ⟨b2,A2,k2,c2,rfl,H⟩:=hv2.open_;have hB:=Ac hbW.out hb2;obtain ⟨hc0,hc1,hf0,hf1,hsz⟩:=NC hB;have HE:=Lib.hid (C5 (x':=.bool b2) (y':=.slice A2 k2 c2) hB H.out);clear hB hb2 hv2 hqq HV hLk
 go_wp2
 refine bodyPost_ret (v:=.agg #[.bool b2,.slice A2 k2 c2]) (by simp [results,Tryz.results133,go_sem,hc0,hc1]) rfl ⟨_,rfl,by rw [← HS.out]; exact HE.out.1,HE.out.2⟩
theorem yO(va vb:Value)(R D:Nat)(w:World)(ha:AB w va R)(hb:AB w vb D)(h0:0<D)(hle:D≤R)(hl:len R≤1099511627776) :
  Calls Tryz.prog 133 #[va,vb] w (Be (Ck R D:Nat) w):=by
 obtain ⟨A,c,rfl,hc,hma⟩:=ha;obtain ⟨B,d,rfl,hd,hmb⟩:=hb;have h1:=AY hle;have h2:len D≠0:=λh=>by have:=AZ.1 h; omega
 rcases Nat.lt_or_ge (len D) (len R) with h | h
 ·exact jP A B c d (len R) (len D) (len R - len D - 1) (len D - 1) R D w hma hmb rfl (by omega) rfl (by omega) (by omega)
 ·obtain ⟨n,hn⟩:∃ n,len D=n+1:=⟨len D - 1,by omega⟩
  have hn2:len R=n+1:=by omega
  have:=rQ A B c d n R D w hma hmb hn2 hn (by omega);rw [hn,hn2];exact this
theorem uR{R D:Nat}(h0:0<D)(hle:D≤R):0<Ck R D∧Ck R D*D≤R:=by
 have h1:=AY hle;have h2:len D≠0:=λh=>by have:=AZ.1 h; omega
 obtain ⟨m,hm⟩:∃ m,len D=m+1:=⟨len D - 1,by omega⟩;obtain ⟨lo2,e2,k2⟩:=Kx (y:=D) hm rfl;unfold Ck;rw [hm,Nat.add_sub_cancel]
 by_cases h:len R=m+1
 ·rw [if_pos h,h,Nat.add_sub_cancel]
  obtain ⟨lo1,e1,_⟩:=Kx (y:=R) h rfl;exact oS e1 (pY e2 k2) hle
 ·rw [if_neg h]
  obtain ⟨k,hk⟩:∃ k,len R=k+m+2:=⟨len R - m - 2,by omega⟩;obtain ⟨lo1,e1⟩:=fS (y:=R) (n:=k+m) hk rfl rfl;have hp0:=EM (n:=R) (by omega);rw [hk,show k+m+2 - 1=k+m+1 from rfl] at hp0;rw [hk,show k+m+2 - 1=k+m+1 from rfl,show k+m+2 - 2=k+m from rfl,show k+m+2 - (m+1) - 1=k from by omega];have ht:=(As D).at_ m;generalize (Ae R).getD (k+m+1) 0=p at *;generalize (Ae R).getD (k+m) 0=s at *;generalize (Ae D).getD m 0=t at *;refine ⟨Nat.mul_pos (Nat.pow_pos (by omega)) (Nat.div_pos (by omega) (by omega)),?_⟩;exact pF (P:=4294967296 ^ k) (Q:=4294967296 ^ m) (lo:=lo1) (by rw [← Nat.pow_add]; exact e1) (pY e2 k2)
end Go.Proofs.YtdopbgnkneeceaaGreat
