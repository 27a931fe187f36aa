/- Walks: the reference's Made. -/
import Derived.Test.YtdopbgnkneeceaaGreatqW5
import Derived.Test.YtdopbgnkneeceaaGreatqApp
set_option linter.unusedSectionVars false
set_option linter.unusedVariables false
set_option linter.unusedSimpArgs false
set_option maxRecDepth 100000
namespace Go.Proofs.YtdopbgnkneeceaaGreat
open Go.RowKit
theorem J2(ms:List Nat)(h:∀ i,ms.getD i 0=0):val ms=0:=by
 induction ms with
 | nil=>rfl
 | cons x r ih =>
  have h0:x=0:=by simpa using h 0
  have h1:=ih (λi=>by simpa using h (i+1));simp only [val,h0,h1]
theorem JK(ms:List Nat)(h:val ms=0)(i:Nat):ms.getD i 0=0:=by
 induction ms generalizing i with
 | nil=>simp
 | cons x r ih =>
  simp only [val] at h
  match i with
  | 0=>simp; omega
  | i+1=>simpa using ih (by omega) i
theorem DG(ms:List Nat)(k:Nat)(h:∀ i,k≤i→ms.getD i 0=0):val (ms.take k)=val ms:=by
 rcases Nat.lt_or_ge k ms.length with hk | hk
 ·have:=CW ms k (by omega)
  have hd:val (ms.drop k)=0:=J2 _ (λi=>by
   rw [List.getD_eq_getElem?_getD,List.getElem?_drop,← List.getD_eq_getElem?_getD]; exact h (k+i) (by omega))
  rw [hd] at this;omega
 ·rw [List.take_of_length_le hk]
theorem Al.mk_sgn{w:World}{s:Value}{n:Nat}{b:Bool}(h:AB w s n)(h0:n=0→b=false):Al w (.agg #[.bool b,s]) (BK b n):=Al.mk h h0
set_option maxHeartbeats 1000000 in
theorem Wm(A:Option Addr)(n c:Nat)(ms:List Nat)(w:World)(hn:ms.length=n)(hm:Cq w w.heap.size A ms)(hl:n≤4398046511104)(hc:n≤c)(h32:Bx ms) :
  Calls Tryz.prog 89 #[.slice A n c,.bool false] w (Be (BK false (val ms)) w):=by
 have HN:=Lib.hid hn;clear hn
 go_enter Tryz.func89,Tryz.ntmps89
 go_wp2_with fail
 go_loop [5] (λn'=>∃ k:Nat,k≤n∧n' = .int .i64 k∧∀ i,k≤i→ms.getD i 0=0) (λn'=>(intOf n').toNat)
 case atStart=>exact ⟨n,Nat.le_refl _,rfl,λi hi=>by simp [List.getD,List.getElem?_eq_none (show ms.length≤i from by rw [HN.out]; exact hi)]⟩
 case round =>
  obtain ⟨k,hk,rfl,h0⟩:=hrel;have H0:=Lib.hid h0;clear h0
  rcases Nat.eq_zero_or_pos k with hk0 | hk0
  ·subst hk0
   have hval0:=J2 ms (λi=>H0.out i (Nat.zero_le _));have HV:=Lib.hid hval0;clear hval0
   ·have hown0:=Ct.empty (w.alloc (.cells #[.bool false,.slice none 0 0] 34)) (base:=w.heap.size+1) (by simp)
    have hr0:=((hm.below (FD w (.cells #[.bool false,.slice none 0 0] 34) (.cells #[] 114))).take 0);rw [By] at hown0;have HO:=Lib.hid hown0;have HR:=Lib.hid hr0;have hlen:(ms.take 0).length=0:=by rw [List.length_take,HN.out]; omega
    have HL:=Lib.hid hlen;clear hown0 hr0 hlen
    go_wp2_with (at_builtin; refine AG rfl (.tmp 25) (.tmp 28) rfl (w.heap.size+1) (.slice (some ⟨w.heap.size+1,0,none⟩) 0 0) [] rfl HO.out w.heap.size A 0 c (ms.take 0) rfl HR.out HL.out (by simp only [List.length_nil]; omega) (by simp) ?_; rintro v' w1 hown hgrow hat; obtain ⟨A',L,c',rfl,HLL,hc',_,hm'⟩:=hown.shapeL; have hbb:=(Ai (w.alloc (.cells #[.bool false,.slice none 0 0] 34)) (.cells #[] 114)).grown hgrow (by simp) (by intro g hg; simp [Value.ownBlock] at hg; subst hg; simp); have HB:=Lib.hid hbb; obtain ⟨hc0,hc1,hf0,hf1,hs⟩:=NC HB.out; clear hbb hgrow hat)
    have hnat:=hown.nat ((h32.take 0)) (by
     left; simp)
    rw [List.nil_append,DG ms 0 H0.out] at hnat;have hint:Al w1 (.agg #[.bool false,.slice A' L c']) (BK false (val ms)):=by
     exact Al.mk_sgn hnat (λ_=>rfl)
    have HE:=Lib.hid (C5 (x':=.bool false) (y':=.slice A' L c') HB.out hint)
    go_wp2
    refine bodyPost_ret (v:=.agg #[.bool false,.slice A' L c']) (by simp [results,Tryz.results89,go_sem,hc0,hc1]) rfl ⟨_,rfl,HE.out.1,HE.out.2⟩
  ·have hp:decide (0<k)=true:=by simpa using hk0
   have hlk:k - 1<ms.length:=by rw [HN.out]; omega
   obtain ⟨ad,rfl,hlt,hcell0⟩:=hm.at_ hlk;have hcell:=(Below.cell (Ai w (.cells #[.bool false,.slice none 0 0] 34)) (p:=ad.add (k - 1)) (by rw [Ap]; exact hlt)).trans hcell0;clear hcell0;have hg:=At hlk;generalize ms[k - 1]'hlk=p at *;have HG:=Lib.hid hg;clear hg;have hcast:(k:Int) - 1=((k - 1:Nat):Int):=by omega
   have HC:=Lib.hid hcast;clear hcast
   by_cases hp0:p=0
   ·subst hp0
    go_wp2_with fail
    go_round
    case rel =>
     refine ⟨k - 1,by omega,by rw [HC.out],λi hi=>?_⟩
     rcases Nat.lt_or_ge i k with h | h
     ·have:i=k - 1:=by omega
      rw [this,HG.out]
     ·exact H0.out i h
    case measure=>simp [intOf]; omega
   ·have ht:((p:Int) == 0)=false:=by simp; omega
    have hne:val ms≠0:=λh=>hp0 (by rw [← HG.out]; exact JK ms h _)
    have hown0:=Ct.empty (w.alloc (.cells #[.bool false,.slice none 0 0] 34)) (base:=w.heap.size+1) (by simp);have hr0:=((hm.below (FD w (.cells #[.bool false,.slice none 0 0] 34) (.cells #[] 114))).take k);rw [By] at hown0;have HO:=Lib.hid hown0;have HR:=Lib.hid hr0;have hlen:(ms.take k).length=k:=by rw [List.length_take,HN.out]; omega
    have HL:=Lib.hid hlen;clear hown0 hr0 hlen
    go_wp2_with (at_builtin; refine AG rfl (.tmp 25) (.tmp 28) rfl (w.heap.size+1) (.slice (some ⟨w.heap.size+1,0,none⟩) 0 0) [] rfl HO.out w.heap.size (some ad) k c (ms.take k) rfl HR.out HL.out (by simp only [List.length_nil]; omega) (by simp) ?_; rintro v' w1 hown hgrow hat; obtain ⟨A',L,c',rfl,HLL,hc',_,hm'⟩:=hown.shapeL; have hbb:=(Ai (w.alloc (.cells #[.bool false,.slice none 0 0] 34)) (.cells #[] 114)).grown hgrow (by simp) (by intro g hg; simp [Value.ownBlock] at hg; subst hg; simp); have HB:=Lib.hid hbb; obtain ⟨hc0,hc1,hf0,hf1,hs⟩:=NC HB.out; clear hbb hgrow hat)
    have hnat:=hown.nat ((h32.take k)) (by
     right; rw [List.nil_append,List.length_take,HN.out,Nat.min_eq_left hk,List.getD_eq_getElem?_getD,List.getElem?_take,if_pos (by omega),← List.getD_eq_getElem?_getD,HG.out]; exact hp0)
    rw [List.nil_append,DG ms k H0.out] at hnat;have hint:Al w1 (.agg #[.bool false,.slice A' L c']) (BK false (val ms)):=by
     exact Al.mk_sgn hnat (λ_=>rfl)
    have HE:=Lib.hid (C5 (x':=.bool false) (y':=.slice A' L c') HB.out hint)
    go_wp2
    refine bodyPost_ret (v:=.agg #[.bool false,.slice A' L c']) (by simp [results,Tryz.results89,go_sem,hc0,hc1]) rfl ⟨_,rfl,HE.out.1,HE.out.2⟩
set_option maxHeartbeats 1000000 in
theorem bR(A:Option Addr)(n c:Nat)(ms:List Nat)(w:World)(hn:ms.length=n)(hm:Cq w w.heap.size A ms)(hl:n≤4398046511104)(hc:n≤c)(h32:Bx ms) :
  Calls Tryz.prog 89 #[.slice A n c,.bool true] w (Be (BK true (val ms)) w):=by
 have HN:=Lib.hid hn;clear hn
 go_enter Tryz.func89,Tryz.ntmps89
 go_wp2_with fail
 go_loop [5] (λn'=>∃ k:Nat,k≤n∧n' = .int .i64 k∧∀ i,k≤i→ms.getD i 0=0) (λn'=>(intOf n').toNat)
 case atStart=>exact ⟨n,Nat.le_refl _,rfl,λi hi=>by simp [List.getD,List.getElem?_eq_none (show ms.length≤i from by rw [HN.out]; exact hi)]⟩
 case round =>
  obtain ⟨k,hk,rfl,h0⟩:=hrel;have H0:=Lib.hid h0;clear h0
  rcases Nat.eq_zero_or_pos k with hk0 | hk0
  ·subst hk0
   have hval0:=J2 ms (λi=>H0.out i (Nat.zero_le _));have HV:=Lib.hid hval0;clear hval0
   ·have hown0:=Ct.empty (w.alloc (.cells #[.bool false,.slice none 0 0] 34)) (base:=w.heap.size+1) (by simp)
    have hr0:=((hm.below (FD w (.cells #[.bool false,.slice none 0 0] 34) (.cells #[] 114))).take 0);rw [By] at hown0;have HO:=Lib.hid hown0;have HR:=Lib.hid hr0;have hlen:(ms.take 0).length=0:=by rw [List.length_take,HN.out]; omega
    have HL:=Lib.hid hlen;clear hown0 hr0 hlen
    go_wp2_with (at_builtin; refine AG rfl (.tmp 25) (.tmp 28) rfl (w.heap.size+1) (.slice (some ⟨w.heap.size+1,0,none⟩) 0 0) [] rfl HO.out w.heap.size A 0 c (ms.take 0) rfl HR.out HL.out (by simp only [List.length_nil]; omega) (by simp) ?_; rintro v' w1 hown hgrow hat; obtain ⟨A',L,c',rfl,HLL,hc',_,hm'⟩:=hown.shapeL; have hbb:=(Ai (w.alloc (.cells #[.bool false,.slice none 0 0] 34)) (.cells #[] 114)).grown hgrow (by simp) (by intro g hg; simp [Value.ownBlock] at hg; subst hg; simp); have HB:=Lib.hid hbb; obtain ⟨hc0,hc1,hf0,hf1,hs⟩:=NC HB.out; clear hbb hgrow hat)
    have hnat:=hown.nat ((h32.take 0)) (by
     left; simp)
    rw [List.nil_append,DG ms 0 H0.out] at hnat;have hint:Al w1 (.agg #[.bool false,.slice A' L c']) (BK true (val ms)):=by
     rw [HV.out,S9]; rw [HV.out] at hnat; exact Al.mk_sgn (b:=false) hnat (λ_=>rfl)
    have HE:=Lib.hid (C5 (x':=.bool false) (y':=.slice A' L c') HB.out hint)
    go_wp2
    refine bodyPost_ret (v:=.agg #[.bool false,.slice A' L c']) (by simp [results,Tryz.results89,go_sem,hc0,hc1]) rfl ⟨_,rfl,HE.out.1,HE.out.2⟩
  ·have hp:decide (0<k)=true:=by simpa using hk0
   have hlk:k - 1<ms.length:=by rw [HN.out]; omega
   obtain ⟨ad,rfl,hlt,hcell0⟩:=hm.at_ hlk;have hcell:=(Below.cell (Ai w (.cells #[.bool false,.slice none 0 0] 34)) (p:=ad.add (k - 1)) (by rw [Ap]; exact hlt)).trans hcell0;clear hcell0;have hg:=At hlk;generalize ms[k - 1]'hlk=p at *;have HG:=Lib.hid hg;clear hg;have hcast:(k:Int) - 1=((k - 1:Nat):Int):=by omega
   have HC:=Lib.hid hcast;clear hcast
   by_cases hp0:p=0
   ·subst hp0
    go_wp2_with fail
    go_round
    case rel =>
     refine ⟨k - 1,by omega,by rw [HC.out],λi hi=>?_⟩
     rcases Nat.lt_or_ge i k with h | h
     ·have:i=k - 1:=by omega
      rw [this,HG.out]
     ·exact H0.out i h
    case measure=>simp [intOf]; omega
   ·have ht:((p:Int) == 0)=false:=by simp; omega
    have hne:val ms≠0:=λh=>hp0 (by rw [← HG.out]; exact JK ms h _)
    have hown0:=Ct.empty (w.alloc (.cells #[.bool false,.slice none 0 0] 34)) (base:=w.heap.size+1) (by simp);have hr0:=((hm.below (FD w (.cells #[.bool false,.slice none 0 0] 34) (.cells #[] 114))).take k);rw [By] at hown0;have HO:=Lib.hid hown0;have HR:=Lib.hid hr0;have hlen:(ms.take k).length=k:=by rw [List.length_take,HN.out]; omega
    have HL:=Lib.hid hlen;clear hown0 hr0 hlen
    go_wp2_with (at_builtin; refine AG rfl (.tmp 25) (.tmp 28) rfl (w.heap.size+1) (.slice (some ⟨w.heap.size+1,0,none⟩) 0 0) [] rfl HO.out w.heap.size (some ad) k c (ms.take k) rfl HR.out HL.out (by simp only [List.length_nil]; omega) (by simp) ?_; rintro v' w1 hown hgrow hat; obtain ⟨A',L,c',rfl,HLL,hc',_,hm'⟩:=hown.shapeL; have hbb:=(Ai (w.alloc (.cells #[.bool false,.slice none 0 0] 34)) (.cells #[] 114)).grown hgrow (by simp) (by intro g hg; simp [Value.ownBlock] at hg; subst hg; simp); have HB:=Lib.hid hbb; obtain ⟨hc0,hc1,hf0,hf1,hs⟩:=NC HB.out; clear hbb hgrow hat)
    have hnat:=hown.nat ((h32.take k)) (by
     right; rw [List.nil_append,List.length_take,HN.out,Nat.min_eq_left hk,List.getD_eq_getElem?_getD,List.getElem?_take,if_pos (by omega),← List.getD_eq_getElem?_getD,HG.out]; exact hp0)
    rw [List.nil_append,DG ms k H0.out] at hnat;have hint:Al w1 (.agg #[.bool true,.slice A' L c']) (BK true (val ms)):=by
     exact Al.mk_sgn hnat (λh=>absurd h (hne))
    have HE:=Lib.hid (C5 (x':=.bool true) (y':=.slice A' L c') HB.out hint)
    go_wp2
    refine bodyPost_ret (v:=.agg #[.bool true,.slice A' L c']) (by simp [results,Tryz.results89,go_sem,hc0,hc1]) rfl ⟨_,rfl,HE.out.1,HE.out.2⟩
theorem C4(A:Option Addr)(n c:Nat)(ms:List Nat)(neg:Bool)(w:World)(hn:ms.length=n)(hm:Cq w w.heap.size A ms)(hl:n≤4398046511104)(hc:n≤c)(h32:Bx ms) :
  Calls Tryz.prog 89 #[.slice A n c,.bool neg] w (Be (BK neg (val ms)) w):=by
 cases neg
 ·exact Wm A n c ms w hn hm hl hc h32
 ·exact bR A n c ms w hn hm hl hc h32
set_option maxHeartbeats 800000 in
theorem rK(A B:Option Addr)(c d x y:Nat)(w:World)(ha:CQ w w.heap.size A (Ae x))(hb:CQ w w.heap.size B (Ae y))(hx:len x≤1099511627776)(_hy:len y≤1099511627776) :
  Calls Tryz.prog 88 #[.slice A (len x) c,.slice B (len y) d] w λe w'=>e = .returned (.bool (decide (x<y)))∧∃ k,w.drewN k=w':=by
 by_cases hl:len x=len y
 ·go_enter Tryz.func88,Tryz.ntmps88
  have hne:((len x:Int) != (len y:Int))=false:=by simp [hl]
  have HL:=Lib.hid hl;clear hl
  go_wp2_with fail
  go_loopw [5] (λi wr=>∃ k:Nat,k≤len x∧i = .int .i64 ((k:Int) - 1)∧(∀ j,k≤j→(Ae x).getD j 0=(Ae y).getD j 0)∧∃ n,w.drewN n=wr) (λi _=>(intOf i+1).toNat)
  case atStart=>exact ⟨len x,Nat.le_refl _,rfl,λj hj=>by simp [List.getD,List.getElem?_eq_none (show (Ae x).length≤j from hj),List.getElem?_eq_none (show (Ae y).length≤j from by rw [Aa,← HL.out]; exact hj)],0,rfl⟩
  case round =>
   obtain ⟨k,hk,rfl,heq,n,rfl⟩:=hrel
   by_cases hk0:0<k
   ·obtain ⟨ad,rfl,_,hca⟩:=ha.at_ (show k - 1<(Ae x).length by rw [Aa]; omega)
    obtain ⟨bd,rfl,_,hcb⟩:=hb.at_ (show k - 1<(Ae y).length by rw [Aa,← HL.out]; omega);have h1:(0:Int)≤(k:Int) - 1:=by omega
    have h2:(k:Int) - 1<(len x:Int):=by omega
    have h3:(k:Int) - 1<(len y:Int):=by rw [← HL.out]; omega
    have hcast:(k:Int) - 1 - 1=((k - 1:Nat):Int) - 1:=by omega
    have HC:=Lib.hid hcast;have HEQ:=Lib.hid heq;have hgx:=At (show k - 1<(Ae x).length by rw [Aa]; omega);have hgy:=At (show k - 1<(Ae y).length by rw [Aa,← HL.out]; omega);generalize (Ae x)[k - 1]'(by rw [Aa]; omega)=p at *;generalize (Ae y)[k - 1]'(by rw [Aa,← HL.out]; omega)=q at *;have HX:=Lib.hid hgx;have HY:=Lib.hid hgy;clear hcast heq hgx hgy
    rcases Nat.lt_trichotomy p q with hpq | hpq | hpq
    ·have ht:((p:Int) != (q:Int))=true:=by simp; omega
     have ht2:decide (p<q)=true:=by simp; omega
     go_wp2_with fail
     go_quiet (fail)
     generalize hw1:(w.drewN n).drewN nq=w1;have hca1:w1.cell? (ad.add (k - 1))=some (Value.int IntKind.u32 (p:Int)):=by rw [← hw1]; exact hca
     have hcb1:w1.cell? (bd.add (k - 1))=some (Value.int IntKind.u32 (q:Int)):=by rw [← hw1]; exact hcb
     have HW:=Lib.hid hw1;clear hw1 hca hcb
     go_wp2_with fail
     go_quiet (fail)
     go_wp2
     go_ret
     have hv:=He (As x) (As y) HL.out (k - 1) (by rw [Aa]; omega) (λi hi=>HEQ.out i (by omega)) (by rw [HX.out,HY.out]; exact hpq);rw [Ao,Ao] at hv;rw [decide_eq_true hv,← HW.out];exact ⟨rfl,_,by simp [World.drewN_drewN]; rfl⟩
    ·subst hpq
     have ht:((p:Int) != (p:Int))=false:=by simp
     go_wp2_with fail
     go_quiet (fail)
     go_wp2
     go_roundw
     case rel =>
      refine ⟨k - 1,by omega,by rw [HC.out],λj hj=>?_,n+nq,rfl⟩
      rcases Nat.lt_or_ge j k with h | h
      ·have:j=k - 1:=by omega
       rw [this,HX.out,HY.out]
      ·exact HEQ.out j h
     case measure=>simp [intOf]; omega
    ·have ht:((p:Int) != (q:Int))=true:=by simp; omega
     have ht2:decide (p<q)=false:=by simp; omega
     go_wp2_with fail
     go_quiet (fail)
     generalize hw1:(w.drewN n).drewN nq=w1;have hca1:w1.cell? (ad.add (k - 1))=some (Value.int IntKind.u32 (p:Int)):=by rw [← hw1]; exact hca
     have hcb1:w1.cell? (bd.add (k - 1))=some (Value.int IntKind.u32 (q:Int)):=by rw [← hw1]; exact hcb
     have HW:=Lib.hid hw1;clear hw1 hca hcb
     go_wp2_with fail
     go_quiet (fail)
     go_wp2
     go_ret
     have hv:=He (As y) (As x) HL.out.symm (k - 1) (by rw [Aa,← HL.out]; omega) (λi hi=>(HEQ.out i (by omega)).symm) (by rw [HX.out,HY.out]; exact hpq);rw [Ao,Ao] at hv;rw [decide_eq_false (Nat.not_lt_of_gt hv),← HW.out];exact ⟨rfl,_,by simp [World.drewN_drewN]; rfl⟩
   ·have hk':k=0:=by omega
    subst hk';have HEQ:=Lib.hid heq;clear heq
    go_wp2
    go_ret
    have e:Ae x=Ae y:=by
     have:=IJ (show (Ae x).length=(Ae y).length from HL.out) 0 HEQ.out;simpa using this
    rw [decide_eq_false (by rw [OF e]; omega)];exact ⟨rfl,n,rfl⟩
 ·rcases Nat.lt_or_gt_of_ne hl with h | h
  ·have hne:((len x:Int) != (len y:Int))=true:=by simp; omega
   have hlt:decide (len x<len y)=true:=by simp; omega
   have hv:=decide_eq_true (Hm h);have HV:=Lib.hid hv;clear hv hl
   go_enter Tryz.func88,Tryz.ntmps88
   go_wp2
   go_ret
   rw [HV.out];exact ⟨rfl,0,rfl⟩
  ·have hne:((len x:Int) != (len y:Int))=true:=by simp; omega
   have hlt:decide (len x<len y)=false:=by simp; omega
   have hv:=decide_eq_false (Nat.not_lt_of_gt (Hm h));have HV:=Lib.hid hv;clear hv hl
   go_enter Tryz.func88,Tryz.ntmps88
   go_wp2
   go_ret
   rw [HV.out];exact ⟨rfl,0,rfl⟩
theorem T0(v:Value)(n:Nat)(neg:Bool)(w:World)(h:AB w v n)(hl:len n≤4398046511104) :
  Calls Tryz.prog 89 #[v,.bool neg] w (Be (BK neg n) w):=by
 obtain ⟨A,c,rfl,hc,hm⟩:=h;have:=C4 A (len n) c (Ae n) neg w rfl hm.raw hl hc (As n);rwa [Ao] at this
theorem MW(A B:Option Addr)(c d x y:Nat)(w:World)(ha:AB w (.slice A (len x) c) x)(hb:AB w (.slice B (len y) d) y)(hx:len x≤1099511627776)(hy:len y≤1099511627776) :
  Calls Tryz.prog 88 #[.slice A (len x) c,.slice B (len y) d] w λe w'=>e = .returned (.bool (decide (x<y)))∧Below w.heap.size w w'∧w'.heap=w.heap:=
 (rK A B c d x y w ha.mem.2.2 hb.mem.2.2 hx hy).mono λ_ _ ⟨he,k,hk⟩=>⟨he,hk ▸ BE w k,hk ▸ rfl⟩
set_option maxHeartbeats 1000000 in
theorem rW(va vb:Value)(a b:Int)(w:World)(ha:Al w va a)(hb:Al w vb b)(hla:len a.natAbs≤1099511627776)(hlb:len b.natAbs≤1099511627776) :
  Calls Tryz.prog 57 #[va,vb] w λe w'=>e = .returned (.bool (decide (a=b)))∧Below w.heap.size w w':=by
 obtain ⟨x,hx⟩:∃ n,a.natAbs=n:=⟨_,rfl⟩;obtain ⟨y,hy⟩:∃ n,b.natAbs=n:=⟨_,rfl⟩;obtain ⟨p,hp⟩:∃ s,decide (a<0)=s:=⟨_,rfl⟩;obtain ⟨q,hq⟩:∃ s,decide (b<0)=s:=⟨_,rfl⟩;have sa:=Cb a;have sb:=Cb b;rw [hx,hp] at sa;rw [hy,hq] at sb;rw [hx] at hla;rw [hy] at hlb;obtain ⟨A,c,rfl,HA⟩:=ha.parts_ hx hp;obtain ⟨B,d,rfl,HB⟩:=hb.parts_ hy hq;have HP:=Lib.hid hp;have HQ:=Lib.hid hq;have SA:=Lib.hid sa;have SB:=Lib.hid sb;have HX:=Lib.hid hx;have HY:=Lib.hid hy;have HW:=Lib.hid (FD w (.cells #[.bool p,.slice A (len x) c] 34) (.cells #[.bool q,.slice B (len y) d] 34));have HH:=TW w (.cells #[.bool p,.slice A (len x) c] 34) (.cells #[.bool q,.slice B (len y) d] 34);clear hx hy hp hq ha hb sa sb
 by_cases hpq:p=q
 ·subst hpq
  have HE:Hid (a=b ↔ x=y):=⟨λh=>by rw [← HX.out,← HY.out,h],λh=>by rw [← SA.out,← SB.out,h]⟩;have hbeq:(p == p)=true:=by simp
  go_enter Tryz.func57,Tryz.ntmps57
  go_wp2_with fail
  refine (MW A B c d x y _ (HA.out.into HW.out) (HB.out.into HW.out) hla hlb).mono ?_
  rintro e w1 ⟨rfl,hb1,hh1⟩
  have HB1:=Lib.hid hb1;obtain ⟨ca0,ca1,cf0,cf1,cs⟩:=Ax HH.1 hb1;obtain ⟨da0,da1,df0,df1,ds⟩:=Ax HH.2 hb1;clear hb1 hh1 HH
  by_cases hlt:x<y
  ·have hd:decide (x<y)=true:=decide_eq_true hlt
   go_wp2
   go_ret
   rw [decide_eq_false (λh=>by have:=HE.out.1 h; omega)];exact ⟨rfl,Ac HW.out HB1.out⟩
  ·have hd:decide (x<y)=false:=decide_eq_false hlt
   go_wp2_with fail
   refine (MW B A d c y x _ (HB.out.into (Ac HW.out HB1.out)) (HA.out.into (Ac HW.out HB1.out)) hlb hla).mono ?_
   rintro e w2 ⟨rfl,hb2,hh2⟩
   have HB2:=Lib.hid (Ac HB1.out hb2);clear hb2 hh2
   by_cases hgt:y<x
   ·have hd2:decide (y<x)=true:=decide_eq_true hgt
    go_wp2
    go_ret
    rw [decide_eq_false (λh=>by have:=HE.out.1 h; omega)];exact ⟨rfl,Ac HW.out HB2.out⟩
   ·have hd2:decide (y<x)=false:=decide_eq_false hgt
    go_wp2
    go_ret
    rw [decide_eq_true (HE.out.2 (by omega))];exact ⟨rfl,Ac HW.out HB2.out⟩
 ·have hbeq:(p == q)=false:=by simpa using hpq
  have hne:a≠b:=λh=>hpq (by rw [← HP.out,← HQ.out,h])
  have HN:=Lib.hid hne;clear hpq hne HH
  go_enter Tryz.func57,Tryz.ntmps57
  go_wp2_with fail
  go_ret
  rw [decide_eq_false HN.out];exact ⟨rfl,HW.out⟩
set_option maxHeartbeats 400000 in
theorem VH(n:Nat)(w:World)(hn:n<9223372036854775808) :
  Calls Tryz.prog 58 #[.int .i64 n] w (Be (BK false n) w):=by
 have h0:decide ((n:Int)<0)=false:=by simp
 have h32:Bx [n % 4294967296,n / 4294967296]:=Bx.mk (by omega) (Bx.mk (by omega) Bx.nil_);have hv:val [n % 4294967296,n / 4294967296]=n:=by simp only [val]; omega
 have HV:=Lib.hid hv;clear hv;have hm:=RT n (w.alloc (.cells #[.bool false,.slice none 0 0] 34));rw [By] at hm;have HM:=Lib.hid hm.raw;clear hm
 go_enter Tryz.func58,Tryz.ntmps58
 go_wp2_with fail
 refine (C4 _ 2 2 [n % 4294967296,n / 4294967296] false _ rfl (by have:=HM.out; simpa using this) (by omega) (by omega) h32).mono ?_
 rintro e w2 ⟨v2,rfl,hv2,hb2⟩
 rw [HV.out] at hv2;obtain ⟨b,A,k,c,rfl,H⟩:=hv2.open_;have hB:=Ac (Ai (w.alloc (.cells #[.bool false,.slice none 0 0] 34)) _) hb2;obtain ⟨hc0,hc1,hf0,hf1,hs⟩:=NC hB;have HE:=Lib.hid (C5 (x':=.bool b) (y':=.slice A k c) hB H.out);clear hB hb2
 go_wp2
 refine bodyPost_ret (v:=.agg #[.bool b,.slice A k c]) (by simp [results,Tryz.results58,go_sem,hc0,hc1]) rfl ⟨_,rfl,HE.out.1,HE.out.2⟩
set_option maxHeartbeats 400000 in
theorem yR(n:Nat)(w:World)(hn:n≤9223372036854775808)(h1:0<n) :
  Calls Tryz.prog 58 #[.int .i64 (-(n:Int))] w (Be (BK true n) w):=by
 have h0:decide (-(n:Int)<0)=true:=by simp; omega
 have h32:Bx [n % 4294967296,n / 4294967296]:=Bx.mk (by omega) (Bx.mk (by omega) Bx.nil_);have hv:val [n % 4294967296,n / 4294967296]=n:=by simp only [val]; omega
 have HV:=Lib.hid hv;clear hv;have hm:=RT n (w.alloc (.cells #[.bool false,.slice none 0 0] 34));rw [By] at hm;have HM:=Lib.hid hm.raw;clear hm;have hw:=R_ n hn h1
 go_enter Tryz.func58,Tryz.ntmps58
 go_wp2_with fail
 refine (C4 _ 2 2 [n % 4294967296,n / 4294967296] true _ rfl (by have:=HM.out; simpa using this) (by omega) (by omega) h32).mono ?_
 rintro e w2 ⟨v2,rfl,hv2,hb2⟩
 rw [HV.out] at hv2;obtain ⟨b,A,k,c,rfl,H⟩:=hv2.open_;have hB:=Ac (Ai (w.alloc (.cells #[.bool false,.slice none 0 0] 34)) _) hb2;obtain ⟨hc0,hc1,hf0,hf1,hs⟩:=NC hB;have HE:=Lib.hid (C5 (x':=.bool b) (y':=.slice A k c) hB H.out);clear hB hb2
 go_wp2
 refine bodyPost_ret (v:=.agg #[.bool b,.slice A k c]) (by simp [results,Tryz.results58,go_sem,hc0,hc1]) rfl ⟨_,rfl,HE.out.1,HE.out.2⟩
theorem XR(z:Int)(w:World)(h0 : -9223372036854775808≤z)(h1:z≤9223372036854775807):Calls Tryz.prog 58 #[.int .i64 z] w (Be z w):=by
 rcases Int.lt_or_le z 0 with h | h
 ·obtain ⟨n,rfl⟩:∃ n:Nat,z = -(n:Int):=⟨z.natAbs,by omega⟩
  exact yR n w (by omega) (by omega)
 ·obtain ⟨n,rfl⟩:=Int.eq_ofNat_of_zero_le h
  exact VH n w (by omega)
end Go.Proofs.YtdopbgnkneeceaaGreat
