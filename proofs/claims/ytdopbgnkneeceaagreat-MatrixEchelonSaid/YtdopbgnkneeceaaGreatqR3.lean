/- Walks: the reference's Neg, Sign, Valid; Valid; Sub. -/
import Derived.Test.YtdopbgnkneeceaaGreatqR1
import Derived.Deep.RegionHeld3
set_option linter.unusedSectionVars false
set_option linter.unusedVariables false
set_option linter.unusedSimpArgs false
set_option maxRecDepth 100000
namespace Go.Proofs.YtdopbgnkneeceaaGreat
open Go.RowKit
set_option maxHeartbeats 400000 in
theorem TS(v:Value)(z:Int)(w:World)(h:Al w v z)(hl:len z.natAbs≤1099511627776) :
  Calls Tryz.prog 60 #[v] w (Be (-z) w):=by
 obtain ⟨n,hn⟩:∃ n,z.natAbs=n:=⟨_,rfl⟩;obtain ⟨b,hb⟩:∃ b,decide (z<0)=b:=⟨_,rfl⟩;obtain ⟨A,c,rfl,H⟩:=h.parts_ hn hb;have hz:BK (!b) n = -z:=by
  subst hn hb
  by_cases h:z<0
  ·simp [BK,h]; omega
  ·simp [BK,h]; omega
 have HZ:=Lib.hid hz;rw [hn] at hl;clear hn hb h hz
 go_enter Tryz.func60,Tryz.ntmps60
 go_wp2_with fail
 refine (T0 _ n (!b) _ (H.out.into (FD _ _ _)) (by omega)).mono ?_
 rintro e w2 ⟨v2,rfl,hv2,hb2⟩
 rw [HZ.out] at hv2;obtain ⟨b',A',k',c',rfl,H'⟩:=hv2.open_;have hg:=(TW w (.cells #[.bool b,.slice A (len n) c] 34) (.cells #[.bool false,.slice none 0 0] 34)).2;obtain ⟨hc0,hc1,hf0,hf1,hs⟩:=Ax hg hb2;have HE:=Lib.hid (Cu (x':=.bool b') (y':=.slice A' k' c') hg hb2 H'.out (FD _ _ _) (by omega));clear hg hb2
 go_wp2
 refine bodyPost_ret (v:=.agg #[.bool b',.slice A' k' c']) (by simp [results,Tryz.results60,go_sem,hc0,hc1]) rfl ⟨_,rfl,HE.out.1,HE.out.2⟩
set_option maxHeartbeats 400000 in
theorem Z5(v:Value)(z:Int)(w:World)(h:Al w v z)(hl:len z.natAbs≤1099511627776) :
    Calls Tryz.prog 63 #[v] w λe w'=>e = .returned (.int .i64 z.sign)∧Below w.heap.size w w':=by
  obtain ⟨n,hn⟩:∃ n,z.natAbs=n:=⟨_,rfl⟩
  obtain ⟨b,hb⟩:∃ b,decide (z<0)=b:=⟨_,rfl⟩
  obtain ⟨A,c,rfl,H⟩:=h.parts_ hn hb
  rw [hn] at hl
  rcases Nat.eq_zero_or_pos n with h0 | h0
  · have hz : z.sign = 0 := by have:z=0:=by omega
                               rw [this]; rfl
    have HZ:=Lib.hid hz
    subst h0
    clear hz hn hb h H
    rw [AX] at *
    go_enter Tryz.func63,Tryz.ntmps63
    go_wp2
    go_ret
    rw [HZ.out]
    exact ⟨rfl,Ai _ _⟩
  · have hne:((len n:Int) == 0)=false:=by
      have:len n≠0:=λh=>by have:=AZ.1 h; omega
      simp; omega
    have hz:z.sign=if b then -1 else 1:=by
      subst hb
      by_cases h:z<0
      · simp [h,Int.sign_eq_neg_one_of_neg h]
      · simp [h]; omega
    have HZ:=Lib.hid hz
    clear hz hn hb h
    cases b
    all_goals
      go_enter Tryz.func63,Tryz.ntmps63
      go_wp2
      go_ret
      rw [HZ.out]
      exact ⟨rfl,Ai _ _⟩
def EY(q r:Nat)(w:World)(e:Ending)(w':World):Prop:=∃ vq vr,e = .returned (.tuple #[vq,vr])∧AB w' vq q∧AB w' vr r∧Below w.heap.size w w'
set_option maxHeartbeats 1000000 in
theorem eH(va vb:Value)(x y:Nat)(w:World)(ha:AB w va x)(hb:AB w vb y)(hla:len x≤1099511627776)(hlb:len y≤1099511627776)(hlt:x<y) :
  Calls Tryz.prog 126 #[va,vb] w (EY (x / y) (x % y) w):=by
 obtain ⟨A,c,rfl,HA⟩:=ha.open_;obtain ⟨B,d,rfl,HB⟩:=hb.open_;have hc:=Hi hlt;have HC:=Lib.hid hc;have H0:Hid (x / y=0∧x % y=x):=⟨Nat.div_eq_of_lt hlt,Nat.mod_eq_of_lt hlt⟩;clear hc
 go_enter Tryz.func126,Tryz.ntmps126
 go_wp2_with fail
 refine (Fj _ _ _ _ x y _ HA.out.mem.2.2 HB.out.mem.2.2 hla hlb).mono ?_
 rintro e w1 ⟨rfl,k,rfl⟩
 rw [HC.out]
 go_wp2
 go_ret2
 rw [H0.out.1,H0.out.2];exact ⟨_,_,rfl,AB.zero _ _ _,HA.out.into (BE w k),BE w k⟩
theorem Hl(A B:Option Addr)(c d x y:Nat)(w:World)(ha:AB w (.slice A (len x) c) x)(hb:AB w (.slice B (len y) d) y)(hx:len x≤1099511627776)(hy:len y≤1099511627776) :
  Calls Tryz.prog 124 #[.slice A (len x) c,.slice B (len y) d] w λe w'=>e = .returned (.int .i64 (GC x y))∧Below w.heap.size w w':=
 (Fj A B c d x y w ha.mem.2.2 hb.mem.2.2 hx hy).mono λ_ _ ⟨he,k,hk⟩=>⟨he,hk ▸ BE w k⟩
set_option maxHeartbeats 1000000 in
theorem Ru(va vb:Value)(x y:Nat)(w:World)(ha:AB w va x)(hb:AB w vb y)(hy:0<y)(hle:y≤x)(hx:x<18446744073709551616) :
    Calls Tryz.prog 126 #[va,vb] w (EY (x / y) (x % y) w):=by
  obtain ⟨A,c,rfl,HA⟩:=ha.open_
  obtain ⟨B,d,rfl,HB⟩:=hb.open_
  have hlx:=EL hx
  have hly:=EL (show y<18446744073709551616 by omega)
  obtain ⟨v,hc,hv0⟩:∃ v:Int,GC x y=v∧0≤v:=⟨_,rfl,by rcases Nat.lt_or_ge y x with h | h; rw [FB h]; omega; rw [Gc (by omega)]; omega⟩
  have HC:=Lib.hid hc
  clear hc
  have hq:x / y<18446744073709551616:=Nat.lt_of_le_of_lt (Nat.div_le_self x y) hx
  have hr:x % y<18446744073709551616:=Nat.lt_of_le_of_lt (Nat.mod_le x y) hx
  go_enter Tryz.func126,Tryz.ntmps126
  go_wp2_with fail
  refine (Hl _ _ _ _ x y _ HA.out HB.out (by omega) (by omega)).mono ?_
  rintro e w1 ⟨rfl,hb1⟩
  have HB1:=Lib.hid hb1
  clear hb1
  rw [HC.out]
  have hl2:decide ((len x:Int)≤2)=true:=by simp; omega
  have hv2:decide (v<0)=false:=by simp; omega
  go_wp2_with fail
  refine (IU A c x _ (HA.out.into HB1.out).mem.2.2 hx).mono ?_
  rintro e w2 ⟨rfl,rfl⟩
  go_wp2_with fail
  refine (IU B d y _ (HB.out.into HB1.out).mem.2.2 (by omega)).mono ?_
  rintro e w2 ⟨rfl,rfl⟩
  have tok:True:=trivial
  have hn:¬ y=0:=by omega
  have hwq:IntKind.u64.wrap ((x:Int) / (y:Int))=((x / y:Nat):Int):=Bo _ hq
  have hwr:(x:Int).tmod (y:Int)=((x % y:Nat):Int):=rfl
  go_wp2_with fail
  go_region_held3 (λw'=>Below w1.heap.size w1 w')
    (first | exact Below.refl _ _ | exact (Below.refl _ _).drew | exact HF1.out | exact HF1.out.drew | exact HF2.out | exact HF2.out.drew)
    (first
      | (go_at_call 103
         have tok0:=tok
         clear tok
         refine (CV (x / y) _ hq).mono ?_
         rintro e w3 ⟨v3,rfl,hv3,hb3⟩
         obtain ⟨A3,c3,rfl,H3⟩:=hv3.open_
         have HF1:Hid (Below w1.heap.size w1 w3):=Ac (by first | exact Below.refl _ _ | exact (Below.refl _ _).drew | exact (Below.refl _ _).drew.drew) hb3
         clear hb3 hv3)
      | (go_at_call 103
         refine (CV (x % y) _ hr).mono ?_
         rintro e w4 ⟨v4,rfl,hv4,hb4⟩
         obtain ⟨A4,c4,rfl,H4⟩:=hv4.open_
         have H3':=Lib.hid (H3.out.into (by first | exact hb4 | exact (Below.refl _ _).drew.trans hb4))
         have HF2:Hid (Below w1.heap.size w1 w4):=Ac (by first | exact HF1.out | exact HF1.out.drew | exact HF1.out.drew.drew) hb4
         clear hb4 hv4))
  go_wp2
  go_ret2
  exact ⟨_,_,rfl,H3'.out,H4.out,Ac HB1.out HF2.out⟩
set_option maxHeartbeats 1000000 in
theorem K8(x y:Nat)(w:World)(hx:x<18446744073709551616)(hy:y<18446744073709551616) :
  Calls Tryz.prog 128 #[.int .u64 x,.int .u64 y] w λe w'=>e = .returned (.int .u64 (Nat.gcd x y:Nat))∧Below w.heap.size w w':=by
 go_enter Tryz.func128,Tryz.ntmps128
 go_wp2_with fail
 go_loopw [0,1] (λa b wr=>∃ p q:Nat,a = .int .u64 p∧b = .int .u64 q∧p<18446744073709551616∧q<18446744073709551616∧Nat.gcd p q=Nat.gcd x y∧Below w.heap.size w wr) (λ_ b _=>(intOf b).toNat)
 case atStart=>exact ⟨x,y,rfl,rfl,hx,hy,rfl,Below.refl _ _⟩
 case round =>
  obtain ⟨p,q,rfl,rfl,hp,hq,hg,hb⟩:=hrel;have HG:=Lib.hid hg;clear hg
  rcases Nat.eq_zero_or_pos q with h0 | h0
  ·subst h0
   have hgp:Nat.gcd p 0=p:=Nat.gcd_zero_right p;have hg':=HG.out;rw [hgp] at hg';have HG':=Lib.hid hg';clear hgp hg'
   go_wp2
   go_ret
   rw [← HG'.out];exact ⟨rfl,hb⟩
  ·have ht:((q:Int) != 0)=true:=by simp; omega
   have hn:¬ q=0:=by omega
   have hwr:(p:Int).tmod (q:Int)=((p % q:Nat):Int):=rfl;have hlt:p % q<q:=Nat.mod_lt _ h0
   go_wp2_with fail
   go_quiet (fail)
   go_wp2_with fail
   go_roundw
   case rel=>exact ⟨q,p % q,rfl,by first | rfl | go_num,hq,by omega,by rw [← HG.out,Nat.gcd_comm p q,Nat.gcd_rec q p,Nat.gcd_comm],by exact ⟨hb.os,hb.tape,hb.output,hb.size,hb.block⟩⟩
   case measure=>simp [intOf]; omega
set_option maxHeartbeats 1600000 in
theorem pJ(va vb:Value)(a b:Int)(w:World)(ha:Al w va a)(hb:Al w vb b)(hla:len a.natAbs≤1099511627776)(hlb:len b.natAbs≤1099511627776)
  (hD:∀(u v:Value)(W:World),AB W u a.natAbs→AB W v b.natAbs→Calls Tryz.prog 118 #[u,v] W (CC (Nat.gcd a.natAbs b.natAbs) W)) :
  Calls Tryz.prog 106 #[va,vb] w (Be (Nat.gcd a.natAbs b.natAbs:Nat) w):=by
 obtain ⟨x,hx⟩:∃ n,a.natAbs=n:=⟨_,rfl⟩;obtain ⟨y,hy⟩:∃ n,b.natAbs=n:=⟨_,rfl⟩;obtain ⟨p,hp⟩:∃ s,decide (a<0)=s:=⟨_,rfl⟩;obtain ⟨q,hq⟩:∃ s,decide (b<0)=s:=⟨_,rfl⟩;have sa:=Cb a;have sb:=Cb b;rw [hx,hp] at sa;rw [hy,hq] at sb;rw [hx] at hla hD;rw [hy] at hlb hD;rw [hx,hy];have HDD:=Lib.hid hD;clear hD;obtain ⟨A,c,rfl,HA⟩:=ha.parts_ hx hp;obtain ⟨B,d,rfl,HB⟩:=hb.parts_ hy hq;have HIA:=Lib.hid (Al.back HA.out hx hp);have HIB:=Lib.hid (Al.back HB.out hy hq);have HX:=Lib.hid hx;have HY:=Lib.hid hy;have HP:=Lib.hid hp;have HQ:=Lib.hid hq;have SA:=Lib.hid sa;have SB:=Lib.hid sb;clear hx hy hp hq ha hb HA HB sa sb;have HH:=Lib.hid (EW w (.cells #[.bool p,.slice A (len x) c] 34) (.cells #[.bool q,.slice B (len y) d] 34) (.cells #[.bool false,.slice none 0 0] 34));have HW:=Lib.hid (D8 w (.cells #[.bool p,.slice A (len x) c] 34) (.cells #[.bool q,.slice B (len y) d] 34) (.cells #[.bool false,.slice none 0 0] 34))
 go_enter Tryz.func106,Tryz.ntmps106
 go_wp2_with fail
 generalize ((w.alloc (.cells #[.bool p,.slice A (len x) c] 34)).alloc (.cells #[.bool q,.slice B (len y) d] 34)).alloc (.cells #[.bool false,.slice none 0 0] 34)=W at *;refine (BC _ a x p _ (HIA.out.into HW.out) HX.out HP.out (by omega)).mono ?_
 rintro e w1 ⟨A1,c1,rfl,H1,hb1⟩
 have hB1:=Lib.hid hb1;obtain ⟨hc0,hc1,hf0,hf1,hs⟩:=Ax HH.out.2.1 hb1;clear hb1
 go_wp2_with fail
 refine (BC _ b y q _ (HIB.out.into (Ac HW.out hB1.out)) HY.out HQ.out (by omega)).mono ?_
 rintro e w2 ⟨B1,d1,rfl,H2,hb2⟩
 have hB2:=Lib.hid (Ac hB1.out hb2);have H1':=Lib.hid (H1.out.into hb2);clear hb2 hc0 hc1 hf0 hf1 hs hB1 H1
 go_wp2_with fail
 refine (HDD.out _ _ _ H1'.out H2.out).mono ?_
 rintro e w3 ⟨v3,rfl,hv3,hb3⟩
 have hB3:=Lib.hid (Ac hB2.out hb3);clear hb3 hB2
 go_wp2_with fail
 refine (Bb false v3 (Nat.gcd x y) _ hv3 (by
  rcases Nat.eq_zero_or_pos x with h | h
  ·rw [h,Nat.gcd_zero_left]; omega
  ·have:=AY (Nat.gcd_le_left y h); omega)).mono ?_
 rintro e w4 ⟨v4,rfl,hv4,hb4⟩
 obtain ⟨b',A',k',c',rfl,H'⟩:=hv4.open_;have hb:=Ac hB3.out hb4;obtain ⟨hc0,hc1,hf0,hf1,hs⟩:=Ax HH.out.2.2 hb;have HE:=Lib.hid (Cu (x':=.bool b') (y':=.slice A' k' c') HH.out.2.2 hb H'.out HW.out (by omega));clear hb hb4
 go_wp2
 refine bodyPost_ret (v:=.agg #[.bool b',.slice A' k' c']) (by simp [results,Tryz.results106,go_sem,hc0,hc1]) rfl ⟨_,rfl,HE.out.1,HE.out.2⟩
theorem YZ(w:World)(o1 o2 o3 o4:Obj):((((w.alloc o1).alloc o2).alloc o3).alloc o4).heap[w.heap.size]? = some o1∧((((w.alloc o1).alloc o2).alloc o3).alloc o4).heap[w.heap.size+1]? = some o2∧((((w.alloc o1).alloc o2).alloc o3).alloc o4).heap[w.heap.size+2]? = some o3∧((((w.alloc o1).alloc o2).alloc o3).alloc o4).heap[w.heap.size+3]? = some o4:=
 ⟨(Below.heap_alloc _ _ _ (by simp; try omega)).trans (EW w o1 o2 o3).1,(Below.heap_alloc _ _ _ (by simp; try omega)).trans (EW w o1 o2 o3).2.1,(Below.heap_alloc _ _ _ (by simp; try omega)).trans (EW w o1 o2 o3).2.2,by have:=Io (((w.alloc o1).alloc o2).alloc o3) o4; rwa [By,By,By] at this⟩
theorem Pv(w:World)(o1 o2 o3 o4:Obj):Below w.heap.size w ((((w.alloc o1).alloc o2).alloc o3).alloc o4):=(D8 w o1 o2 o3).alloc (by simp; omega) o4
theorem FP{w W w1:World}{g g2:Nat}{x y x' y' x2 y2 x'' y'' v v2:Value}{z z2:Int}(hg:W.heap[g]? = some (.cells #[x,y] 34 (0,0)))(hg2:W.heap[g2]? = some (.cells #[x2,y2] 34 (0,0)))
  (hb:Below W.heap.size W w1) (h:Al w1 v z) (h2:Al w1 v2 z2) (hw:Below w.heap.size w W) (hgw:w.heap.size≤g) (hne2:g<g2) :
  Al ((((w1.setCell ⟨g,0,none⟩ x').setCell ⟨g,1,none⟩ y').setCell ⟨g2,0,none⟩ x'').setCell ⟨g2,1,none⟩ y'') v z∧Al ((((w1.setCell ⟨g,0,none⟩ x').setCell ⟨g,1,none⟩ y').setCell ⟨g2,0,none⟩ x'').setCell ⟨g2,1,none⟩ y'') v2 z2 ∧
   Below w.heap.size w ((((w1.setCell ⟨g,0,none⟩ x').setCell ⟨g,1,none⟩ y').setCell ⟨g2,0,none⟩ x'').setCell ⟨g2,1,none⟩ y''):=by
 have lt_of:∀{k:Nat}{o:Obj},W.heap[k]? = some o→k<W.heap.size:=fun {k o} hk=>by
  rcases Nat.lt_or_ge k W.heap.size with hlt | hge
  ·exact hlt
  ·rw [Array.getElem?_eq_none hge] at hk; cases hk
 have h1:w1.heap[g]? = some (.cells #[x,y] 34 (0,0)):=(hb.block g (lt_of hg)).trans hg;have h1':w1.heap[g2]? = some (.cells #[x2,y2] 34 (0,0)):=(hb.block g2 (lt_of hg2)).trans hg2;have hne:(34:TypeId)≠114:=by decide
 have e1:=Az h1 0 x';have k1:(w1.setCell ⟨g,0,none⟩ x').heap[g2]? = some (.cells #[x2,y2] 34 (0,0)):=(Below.heap_setCell _ _ _ _ (by simp; omega)).trans h1';have k2:((w1.setCell ⟨g,0,none⟩ x').setCell ⟨g,1,none⟩ y').heap[g2]? = some (.cells #[x2,y2] 34 (0,0)):=(Below.heap_setCell _ _ _ _ (by simp; omega)).trans k1;have k3:=Az k2 0 x'';refine ⟨(((h.far h1 hne 0 x').far e1 hne 1 y').far k2 hne 0 x'').far k3 hne 1 y'',(((h2.far h1 hne 0 x').far e1 hne 1 y').far k2 hne 0 x'').far k3 hne 1 y'',?_⟩;exact ((((Ac hw hb).setCell (by simpa using hgw) _).setCell (by simpa using hgw) _).setCell (by simp; omega) _).setCell (by simp; omega) _
theorem Zi(w:World):AB (w.alloc (.cells #[.int .u32 1] 114)) (.slice (some ⟨w.heap.size,0,none⟩) 1 1) 1:=by
 have h:=(Cx.new w [1]).nat (Bx.mk (by decide) Bx.nil_) (c:=1) (by decide);have e:val [1]=1:=rfl;rw [e] at h;have e2:len 1=1:=by rw [Hy (by decide)]; simp [AX]
 rw [e2] at h;exact h
theorem JY{a b q r:Int}(h:a=b*q+r)(h0:0≤r)(h1:r<b ∨ r < -b):q=a / b∧r=a % b:=by
 have hb:b≠0:=by omega
 have hr:r / b=0∧r % b=r:=by
  rcases h1 with h1 | h1
  ·exact ⟨Int.ediv_eq_zero_of_lt h0 h1,Int.emod_eq_of_lt h0 h1⟩
  ·have e:b = -(-b):=by omega
   constructor
   ·rw [e,Int.ediv_neg,Int.ediv_eq_zero_of_lt h0 h1]; rfl
   ·rw [e,Int.emod_neg]; exact Int.emod_eq_of_lt h0 h1
 subst h
 constructor
 ·rw [Int.mul_comm,Int.add_comm,Int.add_mul_ediv_right _ _ hb,hr.1]; omega
 ·rw [Int.mul_comm,Int.add_comm,Int.add_mul_emod_self_right,hr.2]
theorem GJ{a b:Int}{x y:Nat}(h1:BK false x=a)(h2:BK false y=b)(hy:0<y):BK false (x / y)=a / b∧BK false (x % y)=a % b:=by
 have h3:=Nat.div_add_mod x y;have h4:=Nat.mod_lt x hy;generalize x / y=d at *;generalize x % y=r at *;have hx:(x:Int)=(y:Int)*(d:Int)+(r:Int):=by rw [← Int.natCast_mul]; omega
 refine JY ?_ ?_ ?_
 ·rw [← h1,← h2]
  simp only [BK,Bool.false_eq_true,if_false];omega
 ·simp only [BK,Bool.false_eq_true,if_false]; omega
 ·rw [← h2]
  simp only [BK,Bool.false_eq_true,if_false];omega
theorem It{a b:Int}{x y:Nat}(h1:BK false x=a)(h2:BK true y=b)(hy:0<y):BK true (x / y)=a / b∧BK false (x % y)=a % b:=by
 have h3:=Nat.div_add_mod x y;have h4:=Nat.mod_lt x hy;generalize x / y=d at *;generalize x % y=r at *;have hx:(x:Int)=(y:Int)*(d:Int)+(r:Int):=by rw [← Int.natCast_mul]; omega
 refine JY ?_ ?_ ?_
 ·rw [← h1,← h2]
  simp only [BK,Bool.false_eq_true,if_false,if_true,Int.mul_neg,Int.neg_mul,Int.neg_neg];omega
 ·simp only [BK,Bool.false_eq_true,if_false]; omega
 ·rw [← h2]
  simp only [BK,Bool.false_eq_true,if_false,if_true];omega
theorem G4{a b:Int}{x y:Nat}(h1:BK true x=a)(h2:BK false y=b)(hy:0<y)(hr:x % y=0):BK true (x / y)=a / b∧BK false (x % y)=a % b:=by
 have h3:=Nat.div_add_mod x y;have h4:=Nat.mod_lt x hy;generalize x / y=d at *;generalize x % y=r at *;have hx:(x:Int)=(y:Int)*(d:Int)+(r:Int):=by rw [← Int.natCast_mul]; omega
 refine JY ?_ ?_ ?_
 ·rw [← h1,← h2]
  simp only [BK,Bool.false_eq_true,if_false,if_true,Int.mul_neg];omega
 ·simp only [BK,Bool.false_eq_true,if_false]; omega
 ·rw [← h2]
  simp only [BK,Bool.false_eq_true,if_false];omega
theorem Iu{a b:Int}{x y:Nat}(h1:BK true x=a)(h2:BK true y=b)(hy:0<y)(hr:x % y=0):BK false (x / y)=a / b∧BK false (x % y)=a % b:=by
 have h3:=Nat.div_add_mod x y;have h4:=Nat.mod_lt x hy;generalize x / y=d at *;generalize x % y=r at *;have hx:(x:Int)=(y:Int)*(d:Int)+(r:Int):=by rw [← Int.natCast_mul]; omega
 refine JY ?_ ?_ ?_
 ·rw [← h1,← h2]
  simp only [BK,Bool.false_eq_true,if_false,if_true,Int.neg_mul];omega
 ·simp only [BK,Bool.false_eq_true,if_false]; omega
 ·rw [← h2]
  simp only [BK,Bool.false_eq_true,if_false,if_true];omega
theorem G7{a b:Int}{x y:Nat}(h1:BK true x=a)(h2:BK false y=b)(hy:0<y)(hr:0<x % y):BK true (x / y+1)=a / b∧BK false (y - x % y)=a % b:=by
 have h3:=Nat.div_add_mod x y;have h4:=Nat.mod_lt x hy;generalize x / y=d at *;generalize x % y=r at *;have hx:(x:Int)=(y:Int)*(d:Int)+(r:Int):=by rw [← Int.natCast_mul]; omega
 refine JY ?_ ?_ ?_
 ·rw [← h1,← h2]
  simp only [BK,Bool.false_eq_true,if_false,if_true,Int.natCast_add,Int.mul_neg,Int.mul_add];omega
 ·simp only [BK,Bool.false_eq_true,if_false]; omega
 ·rw [← h2]
  simp only [BK,Bool.false_eq_true,if_false];omega
theorem Is{a b:Int}{x y:Nat}(h1:BK true x=a)(h2:BK true y=b)(hy:0<y)(hr:0<x % y):BK false (x / y+1)=a / b∧BK false (y - x % y)=a % b:=by
 have h3:=Nat.div_add_mod x y;have h4:=Nat.mod_lt x hy;generalize x / y=d at *;generalize x % y=r at *;have hx:(x:Int)=(y:Int)*(d:Int)+(r:Int):=by rw [← Int.natCast_mul]; omega
 refine JY ?_ ?_ ?_
 ·rw [← h1,← h2]
  simp only [BK,Bool.false_eq_true,if_false,if_true,Int.natCast_add,Int.neg_mul,Int.mul_add];omega
 ·simp only [BK,Bool.false_eq_true,if_false]; omega
 ·rw [← h2]
  simp only [BK,Bool.false_eq_true,if_false,if_true];omega
def Yp(q r ec:Int)(w:World)(e:Ending)(w':World):Prop:=∃ vq vr,e = .returned (.tuple #[vq,vr,.int .i64 ec])∧Al w' vq q∧Al w' vr r∧Below w.heap.size w w'
set_option maxHeartbeats 3200000 in
theorem TH(va vb:Value)(a b:Int)(w:World)(ha:Al w va a)(hb:Al w vb b)(hla:len a.natAbs≤549755813888)(hlb:len b.natAbs≤549755813888)(hb0:b≠0)
  (hD:∀(u v:Value)(W:World),AB W u a.natAbs→AB W v b.natAbs→Calls Tryz.prog 126 #[u,v] W (EY (a.natAbs / b.natAbs) (a.natAbs % b.natAbs) W)) :
  Calls Tryz.prog 119 #[va,vb] w (Yp (a / b) (a % b) 0 w):=by
 have hy0:0<b.natAbs:=by omega
 obtain ⟨x,hx⟩:∃ n,a.natAbs=n:=⟨_,rfl⟩;obtain ⟨y,hy⟩:∃ n,b.natAbs=n:=⟨_,rfl⟩;obtain ⟨p,hp⟩:∃ s,decide (a<0)=s:=⟨_,rfl⟩;obtain ⟨q,hq⟩:∃ s,decide (b<0)=s:=⟨_,rfl⟩;have sa:=Cb a;have sb:=Cb b;rw [hx,hp] at sa;rw [hy,hq] at sb;rw [hx] at hla hD;rw [hy] at hlb hD hy0;have HDD:=Lib.hid hD;clear hD hb0;obtain ⟨A,c,rfl,HA⟩:=ha.parts_ hx hp;obtain ⟨B,d,rfl,HB⟩:=hb.parts_ hy hq;have HIA:=Lib.hid (Al.back HA.out hx hp);have HIB:=Lib.hid (Al.back HB.out hy hq);have HX:=Lib.hid hx;have HY:=Lib.hid hy;have HP:=Lib.hid hp;have HQ:=Lib.hid hq;have SA:=Lib.hid sa;have SB:=Lib.hid sb;clear hx hy hp hq ha hb HA HB sa sb
 cases p <;> cases q
 ·have HH:=Lib.hid (YZ w (.cells #[.bool false,.slice A (len x) c] 34) (.cells #[.bool false,.slice B (len y) d] 34) (.cells #[.bool false,.slice none 0 0] 34) (.cells #[.bool false,.slice none 0 0] 34))
  have HW:=Lib.hid (Pv w (.cells #[.bool false,.slice A (len x) c] 34) (.cells #[.bool false,.slice B (len y) d] 34) (.cells #[.bool false,.slice none 0 0] 34) (.cells #[.bool false,.slice none 0 0] 34))
  go_enter Tryz.func119,Tryz.ntmps119
  go_wp2_with fail
  generalize (((w.alloc (.cells #[.bool false,.slice A (len x) c] 34)).alloc (.cells #[.bool false,.slice B (len y) d] 34)).alloc (.cells #[.bool false,.slice none 0 0] 34)).alloc (.cells #[.bool false,.slice none 0 0] 34)=W at *;refine (BC _ a x false _ (HIA.out.into HW.out) HX.out HP.out (by omega)).mono ?_
  rintro e w1 ⟨A1,c1,rfl,H1,hb1⟩
  have hB1:=Lib.hid hb1;obtain ⟨hc0,hc1,hf0,hf1,hs⟩:=Ax HH.out.2.1 hb1;clear hb1
  go_wp2_with fail
  refine (BC _ b y false _ (HIB.out.into (Ac HW.out hB1.out)) HY.out HQ.out (by omega)).mono ?_
  rintro e w2 ⟨B1,d1,rfl,H2,hb2⟩
  have hB2:=Lib.hid (Ac hB1.out hb2);have H1':=Lib.hid (H1.out.into hb2);clear hb2 hc0 hc1 hf0 hf1 hs hB1 H1;have hle:len (x / y)≤len x:=AY (Nat.div_le_self x y);have hle2:len (x % y)≤len y:=AY (Nat.le_of_lt (Nat.mod_lt x hy0));have hyn:((len y:Int) == 0)=false:=by
   have:len y≠0:=λh=>by have:=AZ.1 h; omega
   simp; omega
  go_wp2_with fail
  refine (HDD.out _ _ _ H1'.out H2.out).mono ?_
  rintro e w3 ⟨vq,vr,rfl,hvq,hvr,hb3⟩
  obtain ⟨Aq,cq,rfl,Hq⟩:=hvq.open_;obtain ⟨Ar,cr,rfl,Hr⟩:=hvr.open_;have H2':=Lib.hid (H2.out.into hb3);have hB3:=Lib.hid (Ac hB2.out hb3);clear hb3 hvq hvr hB2
  go_wp2_with fail
  refine (Bb false _ (x / y) _ Hq.out (by first | omega | (have:=Fo (x / y) 1; have:=CJ (show 1<4294967296 by decide); omega))).mono ?_
  rintro e w5 ⟨v5,rfl,hv5,hb5⟩
  rw [show BK false (x / y)=a / b from (GJ SA.out SB.out hy0).1] at hv5;obtain ⟨b5,A5,k5,c5,rfl,H5⟩:=hv5.open_;have HR5:=Lib.hid (Hr.out.into hb5);have hB5:=Lib.hid (Ac hB3.out hb5);clear hb5 hv5
  go_wp2_with fail
  refine (Bb false _ (x % y) _ HR5.out (by omega)).mono ?_
  rintro e w6 ⟨v6,rfl,hv6,hb6⟩
  rw [show BK false (x % y)=a % b from (GJ SA.out SB.out hy0).2] at hv6;obtain ⟨b6,A6,k6,c6,rfl,H6⟩:=hv6.open_;have H5':=Lib.hid (H5.out.into hb6);have hB6:=Ac hB5.out hb6;obtain ⟨hc0,hc1,hf0,hf1,hs⟩:=Ax HH.out.2.2.1 hB6;obtain ⟨gc0,gc1,gf0,gf1,gs⟩:=Ax HH.out.2.2.2 hB6;have HE:=Lib.hid (FP (x':=.bool b5) (y':=.slice A5 k5 c5) (x'':=.bool b6) (y'':=.slice A6 k6 c6) HH.out.2.2.1 HH.out.2.2.2 hB6 H5'.out H6.out HW.out (by omega) (by omega));clear hB6 hb6 hv6
  go_wp2
  refine bodyPost_ret (v:=.tuple #[.agg #[.bool b5,.slice A5 k5 c5],.agg #[.bool b6,.slice A6 k6 c6],.int .i64 0]) (by simp [results,Tryz.results119,go_sem,hc0,hc1,gc0,gc1]) rfl ⟨_,_,rfl,HE.out.1,HE.out.2.1,HE.out.2.2⟩
 ·have HH:=Lib.hid (YZ w (.cells #[.bool false,.slice A (len x) c] 34) (.cells #[.bool true,.slice B (len y) d] 34) (.cells #[.bool false,.slice none 0 0] 34) (.cells #[.bool false,.slice none 0 0] 34))
  have HW:=Lib.hid (Pv w (.cells #[.bool false,.slice A (len x) c] 34) (.cells #[.bool true,.slice B (len y) d] 34) (.cells #[.bool false,.slice none 0 0] 34) (.cells #[.bool false,.slice none 0 0] 34))
  go_enter Tryz.func119,Tryz.ntmps119
  go_wp2_with fail
  generalize (((w.alloc (.cells #[.bool false,.slice A (len x) c] 34)).alloc (.cells #[.bool true,.slice B (len y) d] 34)).alloc (.cells #[.bool false,.slice none 0 0] 34)).alloc (.cells #[.bool false,.slice none 0 0] 34)=W at *;refine (BC _ a x false _ (HIA.out.into HW.out) HX.out HP.out (by omega)).mono ?_
  rintro e w1 ⟨A1,c1,rfl,H1,hb1⟩
  have hB1:=Lib.hid hb1;obtain ⟨hc0,hc1,hf0,hf1,hs⟩:=Ax HH.out.2.1 hb1;clear hb1
  go_wp2_with fail
  refine (BC _ b y true _ (HIB.out.into (Ac HW.out hB1.out)) HY.out HQ.out (by omega)).mono ?_
  rintro e w2 ⟨B1,d1,rfl,H2,hb2⟩
  have hB2:=Lib.hid (Ac hB1.out hb2);have H1':=Lib.hid (H1.out.into hb2);clear hb2 hc0 hc1 hf0 hf1 hs hB1 H1;have hle:len (x / y)≤len x:=AY (Nat.div_le_self x y);have hle2:len (x % y)≤len y:=AY (Nat.le_of_lt (Nat.mod_lt x hy0));have hyn:((len y:Int) == 0)=false:=by
   have:len y≠0:=λh=>by have:=AZ.1 h; omega
   simp; omega
  go_wp2_with fail
  refine (HDD.out _ _ _ H1'.out H2.out).mono ?_
  rintro e w3 ⟨vq,vr,rfl,hvq,hvr,hb3⟩
  obtain ⟨Aq,cq,rfl,Hq⟩:=hvq.open_;obtain ⟨Ar,cr,rfl,Hr⟩:=hvr.open_;have H2':=Lib.hid (H2.out.into hb3);have hB3:=Lib.hid (Ac hB2.out hb3);clear hb3 hvq hvr hB2
  go_wp2_with fail
  refine (Bb true _ (x / y) _ Hq.out (by first | omega | (have:=Fo (x / y) 1; have:=CJ (show 1<4294967296 by decide); omega))).mono ?_
  rintro e w5 ⟨v5,rfl,hv5,hb5⟩
  rw [show BK true (x / y)=a / b from (It SA.out SB.out hy0).1] at hv5;obtain ⟨b5,A5,k5,c5,rfl,H5⟩:=hv5.open_;have HR5:=Lib.hid (Hr.out.into hb5);have hB5:=Lib.hid (Ac hB3.out hb5);clear hb5 hv5
  go_wp2_with fail
  refine (Bb false _ (x % y) _ HR5.out (by omega)).mono ?_
  rintro e w6 ⟨v6,rfl,hv6,hb6⟩
  rw [show BK false (x % y)=a % b from (It SA.out SB.out hy0).2] at hv6;obtain ⟨b6,A6,k6,c6,rfl,H6⟩:=hv6.open_;have H5':=Lib.hid (H5.out.into hb6);have hB6:=Ac hB5.out hb6;obtain ⟨hc0,hc1,hf0,hf1,hs⟩:=Ax HH.out.2.2.1 hB6;obtain ⟨gc0,gc1,gf0,gf1,gs⟩:=Ax HH.out.2.2.2 hB6;have HE:=Lib.hid (FP (x':=.bool b5) (y':=.slice A5 k5 c5) (x'':=.bool b6) (y'':=.slice A6 k6 c6) HH.out.2.2.1 HH.out.2.2.2 hB6 H5'.out H6.out HW.out (by omega) (by omega));clear hB6 hb6 hv6
  go_wp2
  refine bodyPost_ret (v:=.tuple #[.agg #[.bool b5,.slice A5 k5 c5],.agg #[.bool b6,.slice A6 k6 c6],.int .i64 0]) (by simp [results,Tryz.results119,go_sem,hc0,hc1,gc0,gc1]) rfl ⟨_,_,rfl,HE.out.1,HE.out.2.1,HE.out.2.2⟩
 ·have HH:=Lib.hid (YZ w (.cells #[.bool true,.slice A (len x) c] 34) (.cells #[.bool false,.slice B (len y) d] 34) (.cells #[.bool false,.slice none 0 0] 34) (.cells #[.bool false,.slice none 0 0] 34))
  have HW:=Lib.hid (Pv w (.cells #[.bool true,.slice A (len x) c] 34) (.cells #[.bool false,.slice B (len y) d] 34) (.cells #[.bool false,.slice none 0 0] 34) (.cells #[.bool false,.slice none 0 0] 34))
  go_enter Tryz.func119,Tryz.ntmps119
  go_wp2_with fail
  generalize (((w.alloc (.cells #[.bool true,.slice A (len x) c] 34)).alloc (.cells #[.bool false,.slice B (len y) d] 34)).alloc (.cells #[.bool false,.slice none 0 0] 34)).alloc (.cells #[.bool false,.slice none 0 0] 34)=W at *;refine (BC _ a x true _ (HIA.out.into HW.out) HX.out HP.out (by omega)).mono ?_
  rintro e w1 ⟨A1,c1,rfl,H1,hb1⟩
  have hB1:=Lib.hid hb1;obtain ⟨hc0,hc1,hf0,hf1,hs⟩:=Ax HH.out.2.1 hb1;clear hb1
  go_wp2_with fail
  refine (BC _ b y false _ (HIB.out.into (Ac HW.out hB1.out)) HY.out HQ.out (by omega)).mono ?_
  rintro e w2 ⟨B1,d1,rfl,H2,hb2⟩
  have hB2:=Lib.hid (Ac hB1.out hb2);have H1':=Lib.hid (H1.out.into hb2);clear hb2 hc0 hc1 hf0 hf1 hs hB1 H1;have hle:len (x / y)≤len x:=AY (Nat.div_le_self x y);have hle2:len (x % y)≤len y:=AY (Nat.le_of_lt (Nat.mod_lt x hy0));have hyn:((len y:Int) == 0)=false:=by
   have:len y≠0:=λh=>by have:=AZ.1 h; omega
   simp; omega
  go_wp2_with fail
  refine (HDD.out _ _ _ H1'.out H2.out).mono ?_
  rintro e w3 ⟨vq,vr,rfl,hvq,hvr,hb3⟩
  obtain ⟨Aq,cq,rfl,Hq⟩:=hvq.open_;obtain ⟨Ar,cr,rfl,Hr⟩:=hvr.open_;have H2':=Lib.hid (H2.out.into hb3);have hB3:=Lib.hid (Ac hB2.out hb3);clear hb3 hvq hvr hB2
  rcases Nat.eq_zero_or_pos (x % y) with hr0 | hr0
  ·have hp:decide ((0:Int)<(len (x % y):Int))=false:=by rw [hr0,AX]; rfl
   have hp':decide (0<len (x % y))=false:=by rw [hr0,AX]; rfl
   have HR0:=Lib.hid hr0;clear hr0
   go_wp2_with fail
   refine (Bb true _ (x / y) _ Hq.out (by first | omega | (have:=Fo (x / y) 1; have:=CJ (show 1<4294967296 by decide); omega))).mono ?_
   rintro e w5 ⟨v5,rfl,hv5,hb5⟩
   rw [show BK true (x / y)=a / b from (G4 SA.out SB.out hy0 HR0.out).1] at hv5;obtain ⟨b5,A5,k5,c5,rfl,H5⟩:=hv5.open_;have HR5:=Lib.hid (Hr.out.into hb5);have hB5:=Lib.hid (Ac hB3.out hb5);clear hb5 hv5
   go_wp2_with fail
   refine (Bb false _ (x % y) _ HR5.out (by omega)).mono ?_
   rintro e w6 ⟨v6,rfl,hv6,hb6⟩
   rw [show BK false (x % y)=a % b from (G4 SA.out SB.out hy0 HR0.out).2] at hv6;obtain ⟨b6,A6,k6,c6,rfl,H6⟩:=hv6.open_;have H5':=Lib.hid (H5.out.into hb6);have hB6:=Ac hB5.out hb6;obtain ⟨hc0,hc1,hf0,hf1,hs⟩:=Ax HH.out.2.2.1 hB6;obtain ⟨gc0,gc1,gf0,gf1,gs⟩:=Ax HH.out.2.2.2 hB6;have HE:=Lib.hid (FP (x':=.bool b5) (y':=.slice A5 k5 c5) (x'':=.bool b6) (y'':=.slice A6 k6 c6) HH.out.2.2.1 HH.out.2.2.2 hB6 H5'.out H6.out HW.out (by omega) (by omega));clear hB6 hb6 hv6
   go_wp2
   refine bodyPost_ret (v:=.tuple #[.agg #[.bool b5,.slice A5 k5 c5],.agg #[.bool b6,.slice A6 k6 c6],.int .i64 0]) (by simp [results,Tryz.results119,go_sem,hc0,hc1,gc0,gc1]) rfl ⟨_,_,rfl,HE.out.1,HE.out.2.1,HE.out.2.2⟩
  ·have hp':decide (0<len (x % y))=true:=by
    have:len (x % y)≠0:=λh=>by have:=AZ.1 h; omega
    simp; omega
   have hrl:=Nat.mod_lt x hy0
   go_wp2_with fail
   have hm1:=Zi w3;refine (Lh _ _ (x / y) 1 _ (Hq.out.into (Ai _ _)) hm1 (by omega) (by have:=CJ (show 1<4294967296 by decide); omega)).mono ?_
   rintro e w4 ⟨v4,rfl,hv4,hb4⟩
   obtain ⟨A4,c4,rfl,H4⟩:=hv4.open_;have hB4:=Lib.hid (Ac hB3.out (Ac (Ai _ _) hb4));have Hr':=Lib.hid (Hr.out.into (Ac (Ai _ _) hb4));have H2'':=Lib.hid (H2'.out.into (Ac (Ai _ _) hb4));clear hb4 hv4 hm1
   go_wp2_with fail
   refine (Ci _ _ y (x % y) _ H2''.out Hr'.out (by omega) (by omega)).mono ?_
   rintro e w4' ⟨v4',rfl,hv4',hb4'⟩
   obtain ⟨A4',c4',rfl,H4'⟩:=hv4'.open_;have hB4':=Lib.hid (Ac hB4.out hb4');have H4'':=Lib.hid (H4.out.into hb4');have hle3:len (y - x % y)≤len y:=AY (Nat.sub_le _ _);clear hb4' hv4'
   go_wp2_with fail
   refine (Bb true _ (x / y+1) _ H4''.out (by first | omega | (have:=Fo (x / y) 1; have:=CJ (show 1<4294967296 by decide); omega))).mono ?_
   rintro e w5 ⟨v5,rfl,hv5,hb5⟩
   rw [show BK true (x / y+1)=a / b from (G7 SA.out SB.out hy0 hr0).1] at hv5;obtain ⟨b5,A5,k5,c5,rfl,H5⟩:=hv5.open_;have HR5:=Lib.hid (H4'.out.into hb5);have hB5:=Lib.hid (Ac hB4'.out hb5);clear hb5 hv5
   go_wp2_with fail
   refine (Bb false _ (y - x % y) _ HR5.out (by omega)).mono ?_
   rintro e w6 ⟨v6,rfl,hv6,hb6⟩
   rw [show BK false (y - x % y)=a % b from (G7 SA.out SB.out hy0 hr0).2] at hv6;obtain ⟨b6,A6,k6,c6,rfl,H6⟩:=hv6.open_;have H5':=Lib.hid (H5.out.into hb6);have hB6:=Ac hB5.out hb6;obtain ⟨hc0,hc1,hf0,hf1,hs⟩:=Ax HH.out.2.2.1 hB6;obtain ⟨gc0,gc1,gf0,gf1,gs⟩:=Ax HH.out.2.2.2 hB6;have HE:=Lib.hid (FP (x':=.bool b5) (y':=.slice A5 k5 c5) (x'':=.bool b6) (y'':=.slice A6 k6 c6) HH.out.2.2.1 HH.out.2.2.2 hB6 H5'.out H6.out HW.out (by omega) (by omega));clear hB6 hb6 hv6
   go_wp2
   refine bodyPost_ret (v:=.tuple #[.agg #[.bool b5,.slice A5 k5 c5],.agg #[.bool b6,.slice A6 k6 c6],.int .i64 0]) (by simp [results,Tryz.results119,go_sem,hc0,hc1,gc0,gc1]) rfl ⟨_,_,rfl,HE.out.1,HE.out.2.1,HE.out.2.2⟩
 ·have HH:=Lib.hid (YZ w (.cells #[.bool true,.slice A (len x) c] 34) (.cells #[.bool true,.slice B (len y) d] 34) (.cells #[.bool false,.slice none 0 0] 34) (.cells #[.bool false,.slice none 0 0] 34))
  have HW:=Lib.hid (Pv w (.cells #[.bool true,.slice A (len x) c] 34) (.cells #[.bool true,.slice B (len y) d] 34) (.cells #[.bool false,.slice none 0 0] 34) (.cells #[.bool false,.slice none 0 0] 34))
  go_enter Tryz.func119,Tryz.ntmps119
  go_wp2_with fail
  generalize (((w.alloc (.cells #[.bool true,.slice A (len x) c] 34)).alloc (.cells #[.bool true,.slice B (len y) d] 34)).alloc (.cells #[.bool false,.slice none 0 0] 34)).alloc (.cells #[.bool false,.slice none 0 0] 34)=W at *;refine (BC _ a x true _ (HIA.out.into HW.out) HX.out HP.out (by omega)).mono ?_
  rintro e w1 ⟨A1,c1,rfl,H1,hb1⟩
  have hB1:=Lib.hid hb1;obtain ⟨hc0,hc1,hf0,hf1,hs⟩:=Ax HH.out.2.1 hb1;clear hb1
  go_wp2_with fail
  refine (BC _ b y true _ (HIB.out.into (Ac HW.out hB1.out)) HY.out HQ.out (by omega)).mono ?_
  rintro e w2 ⟨B1,d1,rfl,H2,hb2⟩
  have hB2:=Lib.hid (Ac hB1.out hb2);have H1':=Lib.hid (H1.out.into hb2);clear hb2 hc0 hc1 hf0 hf1 hs hB1 H1;have hle:len (x / y)≤len x:=AY (Nat.div_le_self x y);have hle2:len (x % y)≤len y:=AY (Nat.le_of_lt (Nat.mod_lt x hy0));have hyn:((len y:Int) == 0)=false:=by
   have:len y≠0:=λh=>by have:=AZ.1 h; omega
   simp; omega
  go_wp2_with fail
  refine (HDD.out _ _ _ H1'.out H2.out).mono ?_
  rintro e w3 ⟨vq,vr,rfl,hvq,hvr,hb3⟩
  obtain ⟨Aq,cq,rfl,Hq⟩:=hvq.open_;obtain ⟨Ar,cr,rfl,Hr⟩:=hvr.open_;have H2':=Lib.hid (H2.out.into hb3);have hB3:=Lib.hid (Ac hB2.out hb3);clear hb3 hvq hvr hB2
  rcases Nat.eq_zero_or_pos (x % y) with hr0 | hr0
  ·have hp:decide ((0:Int)<(len (x % y):Int))=false:=by rw [hr0,AX]; rfl
   have hp':decide (0<len (x % y))=false:=by rw [hr0,AX]; rfl
   have HR0:=Lib.hid hr0;clear hr0
   go_wp2_with fail
   refine (Bb false _ (x / y) _ Hq.out (by first | omega | (have:=Fo (x / y) 1; have:=CJ (show 1<4294967296 by decide); omega))).mono ?_
   rintro e w5 ⟨v5,rfl,hv5,hb5⟩
   rw [show BK false (x / y)=a / b from (Iu SA.out SB.out hy0 HR0.out).1] at hv5;obtain ⟨b5,A5,k5,c5,rfl,H5⟩:=hv5.open_;have HR5:=Lib.hid (Hr.out.into hb5);have hB5:=Lib.hid (Ac hB3.out hb5);clear hb5 hv5
   go_wp2_with fail
   refine (Bb false _ (x % y) _ HR5.out (by omega)).mono ?_
   rintro e w6 ⟨v6,rfl,hv6,hb6⟩
   rw [show BK false (x % y)=a % b from (Iu SA.out SB.out hy0 HR0.out).2] at hv6;obtain ⟨b6,A6,k6,c6,rfl,H6⟩:=hv6.open_;have H5':=Lib.hid (H5.out.into hb6);have hB6:=Ac hB5.out hb6;obtain ⟨hc0,hc1,hf0,hf1,hs⟩:=Ax HH.out.2.2.1 hB6;obtain ⟨gc0,gc1,gf0,gf1,gs⟩:=Ax HH.out.2.2.2 hB6;have HE:=Lib.hid (FP (x':=.bool b5) (y':=.slice A5 k5 c5) (x'':=.bool b6) (y'':=.slice A6 k6 c6) HH.out.2.2.1 HH.out.2.2.2 hB6 H5'.out H6.out HW.out (by omega) (by omega));clear hB6 hb6 hv6
   go_wp2
   refine bodyPost_ret (v:=.tuple #[.agg #[.bool b5,.slice A5 k5 c5],.agg #[.bool b6,.slice A6 k6 c6],.int .i64 0]) (by simp [results,Tryz.results119,go_sem,hc0,hc1,gc0,gc1]) rfl ⟨_,_,rfl,HE.out.1,HE.out.2.1,HE.out.2.2⟩
  ·have hp':decide (0<len (x % y))=true:=by
    have:len (x % y)≠0:=λh=>by have:=AZ.1 h; omega
    simp; omega
   have hrl:=Nat.mod_lt x hy0
   go_wp2_with fail
   have hm1:=Zi w3;refine (Lh _ _ (x / y) 1 _ (Hq.out.into (Ai _ _)) hm1 (by omega) (by have:=CJ (show 1<4294967296 by decide); omega)).mono ?_
   rintro e w4 ⟨v4,rfl,hv4,hb4⟩
   obtain ⟨A4,c4,rfl,H4⟩:=hv4.open_;have hB4:=Lib.hid (Ac hB3.out (Ac (Ai _ _) hb4));have Hr':=Lib.hid (Hr.out.into (Ac (Ai _ _) hb4));have H2'':=Lib.hid (H2'.out.into (Ac (Ai _ _) hb4));clear hb4 hv4 hm1
   go_wp2_with fail
   refine (Ci _ _ y (x % y) _ H2''.out Hr'.out (by omega) (by omega)).mono ?_
   rintro e w4' ⟨v4',rfl,hv4',hb4'⟩
   obtain ⟨A4',c4',rfl,H4'⟩:=hv4'.open_;have hB4':=Lib.hid (Ac hB4.out hb4');have H4'':=Lib.hid (H4.out.into hb4');have hle3:len (y - x % y)≤len y:=AY (Nat.sub_le _ _);clear hb4' hv4'
   go_wp2_with fail
   refine (Bb false _ (x / y+1) _ H4''.out (by first | omega | (have:=Fo (x / y) 1; have:=CJ (show 1<4294967296 by decide); omega))).mono ?_
   rintro e w5 ⟨v5,rfl,hv5,hb5⟩
   rw [show BK false (x / y+1)=a / b from (Is SA.out SB.out hy0 hr0).1] at hv5;obtain ⟨b5,A5,k5,c5,rfl,H5⟩:=hv5.open_;have HR5:=Lib.hid (H4'.out.into hb5);have hB5:=Lib.hid (Ac hB4'.out hb5);clear hb5 hv5
   go_wp2_with fail
   refine (Bb false _ (y - x % y) _ HR5.out (by omega)).mono ?_
   rintro e w6 ⟨v6,rfl,hv6,hb6⟩
   rw [show BK false (y - x % y)=a % b from (Is SA.out SB.out hy0 hr0).2] at hv6;obtain ⟨b6,A6,k6,c6,rfl,H6⟩:=hv6.open_;have H5':=Lib.hid (H5.out.into hb6);have hB6:=Ac hB5.out hb6;obtain ⟨hc0,hc1,hf0,hf1,hs⟩:=Ax HH.out.2.2.1 hB6;obtain ⟨gc0,gc1,gf0,gf1,gs⟩:=Ax HH.out.2.2.2 hB6;have HE:=Lib.hid (FP (x':=.bool b5) (y':=.slice A5 k5 c5) (x'':=.bool b6) (y'':=.slice A6 k6 c6) HH.out.2.2.1 HH.out.2.2.2 hB6 H5'.out H6.out HW.out (by omega) (by omega));clear hB6 hb6 hv6
   go_wp2
   refine bodyPost_ret (v:=.tuple #[.agg #[.bool b5,.slice A5 k5 c5],.agg #[.bool b6,.slice A6 k6 c6],.int .i64 0]) (by simp [results,Tryz.results119,go_sem,hc0,hc1,gc0,gc1]) rfl ⟨_,_,rfl,HE.out.1,HE.out.2.1,HE.out.2.2⟩
section
open Go.RowKit
end
section
open Go.RowKit
end
def TG(x:Nat):Value:=.int .u32 (x:Int)
def ET(w:World)(g:Nat)(ms:List Nat):Prop:=∃ tl:List Value,w.heap[g]? = some (.cells (ms.map TG ++ tl).toArray 114 (0,0))
theorem ET.cell{w:World}{g:Nat}{ms:List Nat}(h:ET w g ms){i:Nat}(hi:i<ms.length):w.cell? ⟨g,i,none⟩=some (.int .u32 (ms[i]:Nat))∧w.frozen? ⟨g,i,none⟩=false:=by
 obtain ⟨tl,h⟩:=h;refine ⟨?_,AA h i⟩;rw [cell_of_row w g i _ _ (0,0) h];simp [List.getElem?_append,hi,TG]
theorem ET.set_{w:World}{g:Nat}{ms:List Nat}(h:ET w g ms){i:Nat}(hi:i<ms.length)(x:Nat):ET (w.setCell ⟨g,i,none⟩ (.int .u32 (x:Int))) g (ms.set i x):=by
 obtain ⟨tl,h⟩:=h;refine ⟨tl,?_⟩;have:=Az h i (.int .u32 (x:Int));rw [this]
 congr 2
 simp [hi,List.map_set,TG]
theorem ET.lt{w:World}{g:Nat}{ms:List Nat}(h:ET w g ms):g<w.heap.size:=by
 obtain ⟨tl,h⟩:=h
 rcases Nat.lt_or_ge g w.heap.size with hlt | hge
 ·exact hlt
 ·rw [Array.getElem?_eq_none hge] at h; cases h
theorem ET.mem{w:World}{g:Nat}{ms:List Nat}(h:ET w g ms):CQ w w.heap.size (some ⟨g,0,none⟩) ms:=λ_=>⟨_,rfl,h.lt,by obtain ⟨tl,h⟩:=h; exact ⟨_,_,h⟩,λj x hx=>by
 have hj:j<ms.length:=(List.getElem?_eq_some_iff.1 hx).1;have hx':ms[j]=x:=(List.getElem?_eq_some_iff.1 hx).2;have e:(⟨g,0,none⟩:Addr).add j=⟨g,j,none⟩:=by
  unfold Addr.add;split
  ·next h0=>rw [h0]
  ·simp
 rw [e,(h.cell hj).1,hx']⟩
theorem ET.take{w:World}{g:Nat}{ms:List Nat}(h:ET w g ms)(k:Nat):ET w g (ms.take k):=by
 obtain ⟨tl,h⟩:=h;refine ⟨(ms.drop k).map TG ++ tl,?_⟩;rw [h,← List.append_assoc,← List.map_append,List.take_append_drop]
theorem ET.below{w w':World}{g:Nat}{ms:List Nat}(h:ET w g ms)(hb:Below w.heap.size w w'):ET w' g ms:=by
 obtain ⟨tl,h'⟩:=h;exact ⟨tl,(hb.block g (ET.lt ⟨tl,h'⟩)).trans h'⟩
theorem Nb{w wr:World}{g:Nat}(h:w.grownBy wr (some g))(i:Nat)(u:Value):w.grownBy (wr.setCell ⟨g,i,none⟩ u) (some g):=
 ⟨h.os,h.tape,h.output,by simpa [World.setCell] using h.size,λk hk hne=>(Below.heap_setCell wr _ u k (by simpa using hne)).trans (h.block k hk hne)⟩
def FR(w:World)(g:Nat)(ms:List Nat)(d:Nat)(wr:World)(k r:Nat):Prop:=
 ∃ ds:List Nat,ds.length=ms.length∧Bx ds∧ET wr g ds∧ds.take k=ms.take k∧val (ms.drop k)=d*val (ds.drop k)+r∧w.grownBy wr (some g)
theorem CS{ms:List Nat}{j:Nat}(h:j<ms.length):ms.drop j=ms.getD j 0 :: ms.drop (j+1):=by
 rw [List.drop_eq_getElem_cons h,At h]
theorem FR.step{w wr:World}{g:Nat}{ms:List Nat}{d j r p Q R:Nat}(h:FR w g ms d wr (j+1) r)(hj:j<ms.length)(hp:ms.getD j 0=p)(hQ:Q=(r*4294967296+p) / d)(hR:R=(r*4294967296+p) % d)(hQ32:Q<4294967296)
  (v:Int) (hv:v=(Q:Int)):FR w g ms d (wr.setCell ⟨g,j,none⟩ (.int .u32 v)) j R:=by
 subst hv;obtain ⟨ds,hl,h32,hrow,ht,hd,hg⟩:=h;refine ⟨ds.set j Q,by simpa using hl,h32.set hQ32,hrow.set_ (by omega) Q,?_,?_,Nb hg j _⟩
 ·rw [List.take_set_of_le (Nat.le_refl _)]
  have:=congrArg (List.take j) ht;rwa [List.take_take,List.take_take,Nat.min_eq_left (by omega)] at this
 ·rw [CS hj,hp,val,hd]
  have e:(ds.set j Q).drop j=Q :: ds.drop (j+1):=by
   rw [CS (by simp; omega)]
   congr 1
   ·simp [List.getD,show j<ds.length by omega]
   ·rw [List.drop_set_of_lt (by omega)]
  rw [e,val];have h1:=Nat.div_add_mod (r*4294967296+p) d;rw [← hQ,← hR] at h1;generalize val (ds.drop (j+1))=V at *;rw [Nat.mul_add,Nat.mul_add,Nat.mul_left_comm d 4294967296 V];omega
theorem FR.at_{w wr:World}{g:Nat}{ms:List Nat}{d j r:Nat}(h:FR w g ms d wr (j+1) r)(hj:j<ms.length):wr.cell? ⟨g,j,none⟩=some (.int .u32 ((ms.getD j 0:Nat):Int))∧wr.frozen? ⟨g,j,none⟩=false:=by
 obtain ⟨ds,hl,h32,hrow,ht,hd,hg⟩:=h;obtain ⟨h1,h2⟩:=hrow.cell (i:=j) (by omega);refine ⟨?_,h2⟩;rw [h1];have:=congrArg (λl=>l.getD j 0) ht;simp only [List.getD,List.getElem?_take,show j<j+1 by omega,if_true] at this;rw [← At (show j<ds.length by omega)];simp only [List.getD,this]
theorem Fr(r p:Nat)(hr:r<4294967296)(hp:p<4294967296):bits .or .u64 ((r:Int)*4294967296) (p:Int)=((r*4294967296+p:Nat):Int):=by
 have e:(r:Int)*4294967296=((r*4294967296:Nat):Int):=by omega
 rw [e,Gt _ _ (by omega) (by omega),rL _ _ hp]
set_option maxHeartbeats 1600000 in
theorem Sf(g n c:Nat)(ms:List Nat)(d:Nat)(w:World)(hn:ms.length=n)(hr:ET w g ms)(h32:Bx ms)(hl:n≤4398046511104)(hd0:0<d)(hd:d<4294967296) :
  Calls Tryz.prog 139 #[.slice (some ⟨g,0,none⟩) n c,.int .u32 d] w λe w'=>e = .returned (.int .u32 (val ms % d:Nat))∧(∃ ds:List Nat,ds.length=n∧Bx ds∧val ds=val ms / d∧ET w' g ds)∧w.grownBy w' (some g):=by
 have HN:=Lib.hid hn;clear hn
 go_enter Tryz.func139,Tryz.ntmps139
 go_wp2_with fail
 go_loopw [5,6] (λrest i wr=>∃ k r:Nat,k≤n∧i = .int .i64 ((k:Int) - 1)∧rest = .int .u64 r∧r<d∧FR w g ms d wr k r) (λ_ i _=>(intOf i+1).toNat)
 case atStart=>exact ⟨n,0,Nat.le_refl _,rfl,rfl,hd0,ms,rfl,h32,hr,rfl,by rw [← HN.out,List.drop_length]; simp [val],World.grownBy.refl w _⟩
 case round =>
  obtain ⟨k,r,hk,rfl,rfl,hrd,hrel⟩:=hrel
  rcases Nat.eq_zero_or_pos k with h0 | h0
  ·subst h0
   obtain ⟨ds,hl',h32',hrow,ht,hv,hgrow⟩:=hrel;rw [List.drop_zero,List.drop_zero] at hv;have HV:=Lib.hid hv;have HL:=Lib.hid hl';clear hv hl' ht
   go_wp2
   go_ret
   have e1:val ms % d=r:=by rw [HV.out,Nat.add_comm,Nat.add_mul_mod_self_left]; exact Nat.mod_eq_of_lt hrd
   have e2:val ms / d=val ds:=by rw [HV.out,Nat.add_comm,Nat.add_mul_div_left _ _ hd0,Nat.div_eq_of_lt hrd]; omega
   rw [e1,e2];exact ⟨rfl,⟨ds,by rw [HL.out,HN.out],h32',rfl,hrow⟩,hgrow⟩
  ·obtain ⟨j,rfl⟩:∃ j,k=j+1:=⟨k - 1,by omega⟩
   have hj:j<ms.length:=by rw [HN.out]; omega
   obtain ⟨hc,hf⟩:=hrel.at_ hj;have hp:=h32.at_ j;obtain ⟨p,hpe⟩:∃ p,ms.getD j 0=p:=⟨_,rfl⟩;rw [hpe] at hc hp;have hT:r*4294967296+p<d*4294967296:=by omega
   have hor:bits .or .u64 ((r:Int)*4294967296) (p:Int)=((r*4294967296+p:Nat):Int):=by
    exact Fr r p (by omega) hp
   have hQ32:(r*4294967296+p) / d<4294967296:=Nat.div_lt_of_lt_mul hT;have hR:(r*4294967296+p) % d<d:=Nat.mod_lt _ hd0;have HS:=Lib.hid (hrel.step hj hpe rfl rfl hQ32 _ rfl);have hT64:r*4294967296+p<18446744073709551616:=by omega
   generalize r*4294967296+p=T at *;have hq:IntKind.u64.wrap ((T:Int) / (d:Int))=((T / d:Nat):Int):=Bo _ (by omega);have hrm:(T:Int).tmod (d:Int)=((T % d:Nat):Int):=rfl;generalize T / d=Q at *;generalize T % d=R at *;have hdn:¬ d=0:=by omega
   have hcast:((j+1:Nat):Int) - 1=(j:Int):=by omega
   have HPE:=Lib.hid hpe;have HC:=Lib.hid hcast;clear hrel hpe hcast;rw [HC.out]
   go_wp2
   go_roundw
   case rel=>exact ⟨j,R,by omega,by first | rfl | go_num,by first | rfl | go_num,hR,HS.out⟩
   case measure=>simp [intOf]
theorem Ct.head{w:World}{base:Nat}{v:Value}{ms:List Nat}(h:Ct w base v ms)(h0:0<ms.length):∃ g c,v = .slice (some ⟨g,0,none⟩) ms.length c:=by
 obtain ⟨h1,h2⟩:=h
 rcases h2 with ⟨_,h3⟩ | ⟨g',cap,cur,rfl,_⟩
 ·omega
 ·exact ⟨g',cap,rfl⟩
theorem Ct.prow{w:World}{base g n c:Nat}{ms:List Nat}(h:Ct w base (.slice (some ⟨g,0,none⟩) n c) ms):ET w g ms∧n=ms.length∧n≤c∧base≤g:=by
 obtain ⟨h1,h2⟩:=h
 rcases h2 with ⟨h3,_⟩ | ⟨g',cap,cur,h3,hb,hg,hn,hm,hs,ht⟩
 ·cases h3
 ·injection h3 with e1 e2 e3
  injection e1 with e1
  injection e1 with e1
  subst e1 e2 e3;refine ⟨⟨cur.toList.drop (ms.length*1),?_⟩,rfl,hn,hb⟩;rw [hg];have:ms.map TG=cur.toList.take (ms.length*1):=ht.symm;rw [this,List.take_append_drop,Array.toArray_toList]
set_option maxHeartbeats 1000000 in
theorem aR(ad:Addr)(n c:Nat)(w:World)(h:AB w (.slice (some ad) (len n) c) n)(hl:len n≤4398046511104)(h0:0<len n) :
  Calls Tryz.prog 138 #[.slice (some ad) (len n) c] w λe w'=>∃ g c',e = .returned (.slice (some ⟨g,0,none⟩) (len n) c')∧ET w' g (Ae n)∧w.heap.size≤g∧len n≤c'∧Below w.heap.size w w':=by
 have hnil:=λW:World=>Lib.run_eql_slice_nil (P:=Tryz.prog) W 32 114 (some ad) (len n) c 0 0 Tryz.underlying32
 have ho:=Lib.hid (Ct.empty w (Nat.le_refl _));have hr:=Lib.hid (h.mem.2.2.raw.below (Ai w (.cells #[] 114)))
 go_enter Tryz.func138,Tryz.ntmps138
 go_wp2_with (at_builtin; refine AG rfl (.tmp 5) (.tmp 6) rfl w.heap.size (.slice (some ⟨w.heap.size,0,none⟩) 0 0) [] rfl ho.out w.heap.size (some ad) (len n) c (Ae n) rfl hr.out rfl (by simp; omega) (by simp) ?_; rintro v' w1 hown hgrow hat; have HB:=Lib.hid ((Ai w (.cells #[] 114)).grown hgrow (by simp) (by intro k hk; simp [Value.ownBlock] at hk; omega)); clear hgrow hat)
 go_ret
 obtain ⟨g,c',hv⟩:=hown.head (by simpa [Aa] using h0);rw [hv] at hown;obtain ⟨hp,_,hle,hbg⟩:=hown.prow;rw [List.nil_append] at hp;refine ⟨g,c',?_,hp,hbg,by simpa [Aa] using hle,HB.out⟩;exact congrArg Ending.returned (hv.trans (by simp [Aa]))
section
open Go.RowKit
end
section
open Go.RowKit
end
def Gf(w:World)(X Y:List Nat)(o:Value)(wr:World)(k c:Nat):Prop:=
 ∃ ds:List Nat,ds.length=k∧Bx ds∧Ct wr w.heap.size o ds∧val ds+4294967296 ^ k*c=val (X.take k)+val (Y.take k)∧Below w.heap.size w wr
theorem TD(ds:List Nat)(r:Nat):val (ds ++ [r])=val ds+4294967296 ^ ds.length*r:=by
 induction ds with
 | nil=>simp [val]
 | cons x l ih =>
  rw [List.cons_append];unfold val;rw [ih,List.length_cons,Nat.pow_succ,Nat.mul_add];rw [← Nat.mul_assoc,Nat.mul_comm 4294967296 (4294967296 ^ l.length)];omega
theorem Gf.step{w wr':World}{X Y:List Nat}{o':Value}{k c p q r d:Nat}{ds:List Nat}(hl:ds.length=k)(h32:Bx ds)(he:val ds+4294967296 ^ k*c=val (X.take k)+val (Y.take k))
  (hp:X.getD k 0=p) (hq:Y.getD k 0=q) (hr:r=(c+p+q) % 4294967296) (hd:d=(c+p+q) / 4294967296) (hown:Ct wr' w.heap.size o' (ds ++ [r])) (hb:Below w.heap.size w wr'):Gf w X Y o' wr' (k+1) d:=by
 refine ⟨ds ++ [r],by simp [hl],h32.append (Bx.mk (by omega) Bx.nil_),hown,?_,hb⟩;rw [TD,hl,Au X,Au Y,hp,hq,Nat.pow_succ];have e:c+p+q=4294967296*d+r:=by omega
 clear hr hd;have e2:4294967296 ^ k*(c+p+q)=4294967296 ^ k*(4294967296*d+r):=by rw [e]
 rw [Nat.mul_add,Nat.mul_add,Nat.mul_add,← Nat.mul_assoc] at e2;omega
theorem E_(w:World)(x:Int)(r:Nat)(h:x=r):Cq (w.alloc (.cells #[.int .u32 x] 114)) (w.alloc (.cells #[.int .u32 x] 114)).heap.size (some ⟨w.heap.size,0,none⟩) [r]:=by
 subst h;exact ((Cx.new w [r]).mem (B:=(w.alloc (B9 [r])).heap.size) (by simp)).raw
theorem Hb{X:List Nat}{k:Nat}(h:X.length≤k):X.getD k 0=0:=by simp [List.getD,List.getElem?_eq_none h]
set_option maxHeartbeats 1600000 in
theorem mH(A B:Option Addr)(c d n m:Nat)(X Y:List Nat)(w:World)(ha:Cq w w.heap.size A X)(hb:Cq w w.heap.size B Y)(hX:Bx X)(hY:Bx Y)(hn:X.length=n)(hm:Y.length=m)(hlx:n≤1099511627776)(hly:m≤1099511627776) :
  Calls Tryz.prog 108 #[.slice A n c,.slice B m d] w λe w'=>∃ v ds,e = .returned v∧Ct w' w.heap.size v ds∧Bx ds∧ds.length≤1099511627777∧val ds=val X+val Y∧Below w.heap.size w w':=by
 have HX:=Lib.hid hX;have HY:=Lib.hid hY;have HN:=Lib.hid hn;have HM:=Lib.hid hm;have HLX:=Lib.hid hlx;have HLY:=Lib.hid hly;clear hX hY hn hm hlx hly
 go_enter Tryz.func108,Tryz.ntmps108
 go_wp2_with fail
 go_loopw [5,6,7] (λo cr i wr=>∃ k c:Nat,i = .int .i64 k∧cr = .int .u64 c∧c≤1∧k≤max n m+1∧(max n m<k→c=0)∧Gf w X Y o wr k c) (λ_ _ i _=>max n m+1 - (intOf i).toNat)
 case atStart=>exact ⟨0,0,rfl,rfl,by omega,by omega,λ_=>rfl,[],rfl,Bx.nil_,Ct.empty w (Nat.le_refl _),by simp [val],Ai _ _⟩
 case round =>
  obtain ⟨k,cy,rfl,rfl,hc1,hk,hz,ds,hl,h32,hown,he,hbel⟩:=hrel;have HC:=Lib.hid hc1;have HK:=Lib.hid hk;have HZ:=Lib.hid hz;have HL:=Lib.hid hl;have H32:=Lib.hid h32;have HO:=Lib.hid hown;have HE:=Lib.hid he;have HB:=Lib.hid hbel;clear hc1 hk hz hl h32 hown he hbel
  by_cases hkn:k<n
  ·obtain ⟨ad,rfl,hlt,hca⟩:=ha.at_ (show k<X.length by rw [HN.out]; exact hkn)
   have hp:=HX.out.get (show k<X.length by rw [HN.out]; exact hkn);have gp:=At (show k<X.length by rw [HN.out]; exact hkn);have hca':=(HB.out.cell (p:=ad.add k) (by rw [Ap]; exact hlt)).trans hca;generalize X[k]'(by rw [HN.out]; exact hkn)=p at *;have GP:=Lib.hid gp;clear gp hca
   by_cases hkm:k<m
   ·obtain ⟨bd,rfl,hlt2,hcb⟩:=hb.at_ (show k<Y.length by rw [HM.out]; exact hkm)
    have hq:=HY.out.get (show k<Y.length by rw [HM.out]; exact hkm);have gq:=At (show k<Y.length by rw [HM.out]; exact hkm);have hcb':=(HB.out.cell (p:=bd.add k) (by rw [Ap]; exact hlt2)).trans hcb;generalize Y[k]'(by rw [HM.out]; exact hkm)=q at *;have GQ:=Lib.hid gq;clear gq hcb;obtain ⟨r,hr⟩:∃ s,s=(cy+p+q) % 4294967296:=⟨_,rfl⟩;obtain ⟨dv,hdv⟩:∃ s,s=(cy+p+q) / 4294967296:=⟨_,rfl⟩;have HR:=Lib.hid hr;have HD:=Lib.hid hdv;have hc:=HC.out;have hkb:k≤1099511627777:=by have:=HK.out; have:=HLX.out; have:=HLY.out; omega
    clear hr hdv
    go_wp2_with (at_builtin; refine AG rfl (.tmp 47) (.tmp 50) rfl w.heap.size _ ds rfl (HO.out.alloc _) _ (some ⟨wr.heap.size,0,none⟩) 1 1 [r] rfl (E_ wr _ r (by have:=HR.out; omega)) rfl (by have:=HL.out; have:=HK.out; have:=HLX.out; have:=HLY.out; omega) (by have:=HB.out.size; simp; omega) ?_; rintro v' w1 hown1 hgrow hat; have HB1:=Lib.hid ((HB.out.alloc HB.out.size _).grown hgrow (by have:=HB.out.size; simp; omega) HO.out.base_le); have HO1:=Lib.hid hown1; clear hown1 hgrow hat)
    go_roundw
    case rel=>exact ⟨k+1,dv,by go_num,by have:=HD.out; go_num,by have:=HD.out; omega,by omega,λh=>by have:=HD.out; omega,Gf.step HL.out H32.out HE.out GP.out GQ.out HR.out HD.out HO1.out HB1.out⟩
    case measure=>simp [intOf]; omega
   ·have GQ:=Lib.hid (Hb (X:=Y) (k:=k) (by rw [HM.out]; omega))
    obtain ⟨r,hr⟩:∃ s,s=(cy+p+0) % 4294967296:=⟨_,rfl⟩;obtain ⟨dv,hdv⟩:∃ s,s=(cy+p+0) / 4294967296:=⟨_,rfl⟩;have HR:=Lib.hid hr;have HD:=Lib.hid hdv;have hc:=HC.out;have hkb:k≤1099511627777:=by have:=HK.out; have:=HLX.out; have:=HLY.out; omega
    clear hr hdv
    go_wp2_with (at_builtin; refine AG rfl (.tmp 47) (.tmp 50) rfl w.heap.size _ ds rfl (HO.out.alloc _) _ (some ⟨wr.heap.size,0,none⟩) 1 1 [r] rfl (E_ wr _ r (by have:=HR.out; omega)) rfl (by have:=HL.out; have:=HK.out; have:=HLX.out; have:=HLY.out; omega) (by have:=HB.out.size; simp; omega) ?_; rintro v' w1 hown1 hgrow hat; have HB1:=Lib.hid ((HB.out.alloc HB.out.size _).grown hgrow (by have:=HB.out.size; simp; omega) HO.out.base_le); have HO1:=Lib.hid hown1; clear hown1 hgrow hat)
    go_roundw
    case rel=>exact ⟨k+1,dv,by go_num,by have:=HD.out; go_num,by have:=HD.out; omega,by omega,λh=>by have:=HD.out; omega,Gf.step HL.out H32.out HE.out GP.out GQ.out HR.out HD.out HO1.out HB1.out⟩
    case measure=>simp [intOf]; omega
  ·have GP:=Lib.hid (Hb (X:=X) (k:=k) (by rw [HN.out]; omega))
   by_cases hkm:k<m
   ·obtain ⟨bd,rfl,hlt2,hcb⟩:=hb.at_ (show k<Y.length by rw [HM.out]; exact hkm)
    have hq:=HY.out.get (show k<Y.length by rw [HM.out]; exact hkm);have gq:=At (show k<Y.length by rw [HM.out]; exact hkm);have hcb':=(HB.out.cell (p:=bd.add k) (by rw [Ap]; exact hlt2)).trans hcb;generalize Y[k]'(by rw [HM.out]; exact hkm)=q at *;have GQ:=Lib.hid gq;clear gq hcb;obtain ⟨r,hr⟩:∃ s,s=(cy+0+q) % 4294967296:=⟨_,rfl⟩;obtain ⟨dv,hdv⟩:∃ s,s=(cy+0+q) / 4294967296:=⟨_,rfl⟩;have HR:=Lib.hid hr;have HD:=Lib.hid hdv;have hc:=HC.out;have hkb:k≤1099511627777:=by have:=HK.out; have:=HLX.out; have:=HLY.out; omega
    clear hr hdv
    go_wp2_with (at_builtin; refine AG rfl (.tmp 47) (.tmp 50) rfl w.heap.size _ ds rfl (HO.out.alloc _) _ (some ⟨wr.heap.size,0,none⟩) 1 1 [r] rfl (E_ wr _ r (by have:=HR.out; omega)) rfl (by have:=HL.out; have:=HK.out; have:=HLX.out; have:=HLY.out; omega) (by have:=HB.out.size; simp; omega) ?_; rintro v' w1 hown1 hgrow hat; have HB1:=Lib.hid ((HB.out.alloc HB.out.size _).grown hgrow (by have:=HB.out.size; simp; omega) HO.out.base_le); have HO1:=Lib.hid hown1; clear hown1 hgrow hat)
    go_roundw
    case rel=>exact ⟨k+1,dv,by go_num,by have:=HD.out; go_num,by have:=HD.out; omega,by omega,λh=>by have:=HD.out; omega,Gf.step HL.out H32.out HE.out GP.out GQ.out HR.out HD.out HO1.out HB1.out⟩
    case measure=>simp [intOf]; omega
   ·have GQ:=Lib.hid (Hb (X:=Y) (k:=k) (by rw [HM.out]; omega))
    by_cases hcy:cy=0
    ·subst hcy
     go_wp2_with fail
     go_ret
     have he:=HE.out;rw [List.take_of_length_le (by rw [HN.out]; omega),List.take_of_length_le (by rw [HM.out]; omega)] at he;exact ⟨_,rfl,ds,HO.out,H32.out,by have:=HL.out; have:=HK.out; have:=HLX.out; have:=HLY.out; omega,by omega,HB.out⟩
    ·have hpos:decide (0<cy)=true:=by simp; omega
     have hkk:k≤max n m:=Nat.le_of_not_lt λh=>hcy (HZ.out h)
     obtain ⟨r,hr⟩:∃ s,s=(cy+0+0) % 4294967296:=⟨_,rfl⟩;obtain ⟨dv,hdv⟩:∃ s,s=(cy+0+0) / 4294967296:=⟨_,rfl⟩;have HR:=Lib.hid hr;have HD:=Lib.hid hdv;have hc:=HC.out;have hkb:k≤1099511627777:=by have:=HK.out; have:=HLX.out; have:=HLY.out; omega
     clear hr hdv
     go_wp2_with (at_builtin; refine AG rfl (.tmp 47) (.tmp 50) rfl w.heap.size _ ds rfl (HO.out.alloc _) _ (some ⟨wr.heap.size,0,none⟩) 1 1 [r] rfl (E_ wr _ r (by have:=HR.out; omega)) rfl (by have:=HL.out; have:=HK.out; have:=HLX.out; have:=HLY.out; omega) (by have:=HB.out.size; simp; omega) ?_; rintro v' w1 hown1 hgrow hat; have HB1:=Lib.hid ((HB.out.alloc HB.out.size _).grown hgrow (by have:=HB.out.size; simp; omega) HO.out.base_le); have HO1:=Lib.hid hown1; clear hown1 hgrow hat)
     go_roundw
     case rel=>exact ⟨k+1,dv,by go_num,by have:=HD.out; go_num,by have:=HD.out; omega,by omega,λh=>by have:=HD.out; omega,Gf.step HL.out H32.out HE.out GP.out GQ.out HR.out HD.out HO1.out HB1.out⟩
     case measure=>simp [intOf]; omega
def EX(w:World)(X Y:List Nat)(o:Value)(wr:World)(k b:Nat):Prop:=
 ∃ ds:List Nat,ds.length=k∧Bx ds∧Ct wr w.heap.size o ds∧val ds+val (Y.take k)=val (X.take k)+4294967296 ^ k*b∧Below w.heap.size w wr
theorem EX.step{w wr':World}{X Y:List Nat}{o':Value}{k b b' p q r:Nat}{ds:List Nat}(hl:ds.length=k)(h32:Bx ds)(he:val ds+val (Y.take k)=val (X.take k)+4294967296 ^ k*b)
  (hp:X.getD k 0=p) (hq:Y.getD k 0=q) (hr:r<4294967296) (hd:r+q+b=p+4294967296*b') (hown:Ct wr' w.heap.size o' (ds ++ [r])) (hb:Below w.heap.size w wr'):EX w X Y o' wr' (k+1) b':=by
 refine ⟨ds ++ [r],by simp [hl],h32.append (Bx.mk hr Bx.nil_),hown,?_,hb⟩;rw [TD,hl,Au X,Au Y,hp,hq,Nat.pow_succ];have e2:4294967296 ^ k*(r+q+b)=4294967296 ^ k*(p+4294967296*b'):=by rw [hd]
 rw [Nat.mul_add,Nat.mul_add,Nat.mul_add,← Nat.mul_assoc] at e2;omega
set_option maxHeartbeats 1600000 in
theorem O9(A B:Option Addr)(c d n m:Nat)(X Y:List Nat)(w:World)(ha:Cq w w.heap.size A X)(hb:Cq w w.heap.size B Y)(hX:Bx X)(hY:Bx Y)(hn:X.length=n)(hm:Y.length=m)(hlx:n≤1099511627776)(hmn:m≤n)(hle:val Y≤val X) :
  Calls Tryz.prog 109 #[.slice A n c,.slice B m d] w λe w'=>∃ v ds,e = .returned v∧Ct w' w.heap.size v ds∧Bx ds∧ds.length≤1099511627777∧val ds=val X - val Y∧Below w.heap.size w w':=by
 have HX:=Lib.hid hX;have HY:=Lib.hid hY;have HN:=Lib.hid hn;have HM:=Lib.hid hm;have HLX:=Lib.hid hlx;have HMN:=Lib.hid hmn;have HLE:=Lib.hid hle;clear hX hY hn hm hlx hmn hle
 go_enter Tryz.func109,Tryz.ntmps109
 go_wp2_with fail
 go_loopw [5,6,7] (λo br i wr=>∃ k b:Nat,i = .int .i64 k∧br = .int .i64 b∧b≤1∧k≤n∧EX w X Y o wr k b) (λ_ _ i _=>n - (intOf i).toNat)
 case atStart=>exact ⟨0,0,rfl,rfl,by omega,by omega,[],rfl,Bx.nil_,Ct.empty w (Nat.le_refl _),by simp [val],Ai _ _⟩
 case round =>
  obtain ⟨k,b,rfl,rfl,hc,hk,ds,hl,h32,hown,he,hbel⟩:=hrel;have HK:=Lib.hid hk;have HL:=Lib.hid hl;have H32:=Lib.hid h32;have HO:=Lib.hid hown;have HE:=Lib.hid he;have HB:=Lib.hid hbel;clear hk hl h32 hown he hbel
  by_cases hkn:k<n
  ·obtain ⟨ad,rfl,hlt,hca⟩:=ha.at_ (show k<X.length by rw [HN.out]; exact hkn)
   have hp:=HX.out.get (show k<X.length by rw [HN.out]; exact hkn);have gp:=At (show k<X.length by rw [HN.out]; exact hkn);have hca':=(HB.out.cell (p:=ad.add k) (by rw [Ap]; exact hlt)).trans hca;generalize X[k]'(by rw [HN.out]; exact hkn)=p at *;have GP:=Lib.hid gp;clear gp hca
   by_cases hkm:k<m
   ·obtain ⟨bd,rfl,hlt2,hcb⟩:=hb.at_ (show k<Y.length by rw [HM.out]; exact hkm)
    have hq:=HY.out.get (show k<Y.length by rw [HM.out]; exact hkm);have gq:=At (show k<Y.length by rw [HM.out]; exact hkm);have hcb':=(HB.out.cell (p:=bd.add k) (by rw [Ap]; exact hlt2)).trans hcb;generalize Y[k]'(by rw [HM.out]; exact hkm)=q at *;have GQ:=Lib.hid gq;clear gq hcb
    by_cases hs:(p:Int) - (b:Int) - (q:Int)<0
    ·have hd:decide ((p:Int) - (b:Int) - (q:Int)<0)=true:=decide_eq_true hs
     obtain ⟨r,hr⟩:∃ s:Nat,(s:Int)=((p:Int) - (b:Int) - (q:Int)+4294967296):=⟨((p:Int) - (b:Int) - (q:Int)+4294967296).toNat,by omega⟩;have HR:=Lib.hid hr;have hkb:k≤1099511627777:=by have:=HK.out; have:=HLX.out; omega
     clear hr
     go_wp2_with (at_builtin; refine AG rfl (.tmp 38) (.tmp 41) rfl w.heap.size _ ds rfl (HO.out.alloc _) _ (some ⟨wr.heap.size,0,none⟩) 1 1 [r] rfl (E_ wr _ r (by have:=HR.out; omega)) rfl (by have:=HL.out; have:=HK.out; have:=HLX.out; omega) (by have:=HB.out.size; simp; omega) ?_; rintro v' w1 hown1 hgrow hat; have HB1:=Lib.hid ((HB.out.alloc HB.out.size _).grown hgrow (by have:=HB.out.size; simp; omega) HO.out.base_le); have HO1:=Lib.hid hown1; clear hown1 hgrow hat)
     go_roundw
     case rel=>exact ⟨k+1,1,by go_num,rfl,by omega,by omega,EX.step HL.out H32.out HE.out GP.out GQ.out (by have:=HR.out; omega) (by have:=HR.out; omega) HO1.out HB1.out⟩
     case measure=>simp [intOf]; omega
    ·have hd:decide ((p:Int) - (b:Int) - (q:Int)<0)=false:=decide_eq_false hs
     obtain ⟨r,hr⟩:∃ s:Nat,(s:Int)=((p:Int) - (b:Int) - (q:Int)):=⟨((p:Int) - (b:Int) - (q:Int)).toNat,by omega⟩;have HR:=Lib.hid hr;have hkb:k≤1099511627777:=by have:=HK.out; have:=HLX.out; omega
     clear hr
     go_wp2_with (at_builtin; refine AG rfl (.tmp 38) (.tmp 41) rfl w.heap.size _ ds rfl (HO.out.alloc _) _ (some ⟨wr.heap.size,0,none⟩) 1 1 [r] rfl (E_ wr _ r (by have:=HR.out; omega)) rfl (by have:=HL.out; have:=HK.out; have:=HLX.out; omega) (by have:=HB.out.size; simp; omega) ?_; rintro v' w1 hown1 hgrow hat; have HB1:=Lib.hid ((HB.out.alloc HB.out.size _).grown hgrow (by have:=HB.out.size; simp; omega) HO.out.base_le); have HO1:=Lib.hid hown1; clear hown1 hgrow hat)
     go_roundw
     case rel=>exact ⟨k+1,0,by go_num,rfl,by omega,by omega,EX.step HL.out H32.out HE.out GP.out GQ.out (by have:=HR.out; omega) (by have:=HR.out; omega) HO1.out HB1.out⟩
     case measure=>simp [intOf]; omega
   ·have GQ:=Lib.hid (Hb (X:=Y) (k:=k) (by rw [HM.out]; omega))
    by_cases hs:(p:Int) - (b:Int)<0
    ·have hd:decide ((p:Int) - (b:Int)<0)=true:=decide_eq_true hs
     obtain ⟨r,hr⟩:∃ s:Nat,(s:Int)=((p:Int) - (b:Int) - 0+4294967296):=⟨((p:Int) - (b:Int) - 0+4294967296).toNat,by omega⟩;have HR:=Lib.hid hr;have hkb:k≤1099511627777:=by have:=HK.out; have:=HLX.out; omega
     clear hr
     go_wp2_with (at_builtin; refine AG rfl (.tmp 38) (.tmp 41) rfl w.heap.size _ ds rfl (HO.out.alloc _) _ (some ⟨wr.heap.size,0,none⟩) 1 1 [r] rfl (E_ wr _ r (by have:=HR.out; omega)) rfl (by have:=HL.out; have:=HK.out; have:=HLX.out; omega) (by have:=HB.out.size; simp; omega) ?_; rintro v' w1 hown1 hgrow hat; have HB1:=Lib.hid ((HB.out.alloc HB.out.size _).grown hgrow (by have:=HB.out.size; simp; omega) HO.out.base_le); have HO1:=Lib.hid hown1; clear hown1 hgrow hat)
     go_roundw
     case rel=>exact ⟨k+1,1,by go_num,rfl,by omega,by omega,EX.step HL.out H32.out HE.out GP.out GQ.out (by have:=HR.out; omega) (by have:=HR.out; omega) HO1.out HB1.out⟩
     case measure=>simp [intOf]; omega
    ·have hd:decide ((p:Int) - (b:Int)<0)=false:=decide_eq_false hs
     obtain ⟨r,hr⟩:∃ s:Nat,(s:Int)=((p:Int) - (b:Int) - 0):=⟨((p:Int) - (b:Int) - 0).toNat,by omega⟩;have HR:=Lib.hid hr;have hkb:k≤1099511627777:=by have:=HK.out; have:=HLX.out; omega
     clear hr
     go_wp2_with (at_builtin; refine AG rfl (.tmp 38) (.tmp 41) rfl w.heap.size _ ds rfl (HO.out.alloc _) _ (some ⟨wr.heap.size,0,none⟩) 1 1 [r] rfl (E_ wr _ r (by have:=HR.out; omega)) rfl (by have:=HL.out; have:=HK.out; have:=HLX.out; omega) (by have:=HB.out.size; simp; omega) ?_; rintro v' w1 hown1 hgrow hat; have HB1:=Lib.hid ((HB.out.alloc HB.out.size _).grown hgrow (by have:=HB.out.size; simp; omega) HO.out.base_le); have HO1:=Lib.hid hown1; clear hown1 hgrow hat)
     go_roundw
     case rel=>exact ⟨k+1,0,by go_num,rfl,by omega,by omega,EX.step HL.out H32.out HE.out GP.out GQ.out (by have:=HR.out; omega) (by have:=HR.out; omega) HO1.out HB1.out⟩
     case measure=>simp [intOf]; omega
  ·go_wp2_with fail
   go_ret
   have hkn':k=n:=by have:=HK.out; omega
   have he:=HE.out;have hlds:=HL.out;have hv:=Cv H32.out;have hX1:=HN.out;have hY1:=HM.out;have hmn1:=HMN.out;rw [List.take_of_length_le (show X.length≤k by omega),List.take_of_length_le (show Y.length≤k by omega)] at he;have hb0:b=0:=by
    rcases Nat.eq_zero_or_pos b with h | h
    ·exact h
    ·obtain rfl:b=1:=by omega
     rw [hlds] at hv;rw [Nat.mul_one] at he;have:=HLE.out;omega
   subst hb0;exact ⟨_,ds,rfl,HO.out,H32.out,by have:=HL.out; have:=HK.out; have:=HLX.out; omega,by omega,HB.out⟩
set_option maxHeartbeats 1600000 in
theorem Z_(va vb:Value)(a b:Int)(w:World)(ha:Al w va a)(hb:Al w vb b)(hla:len a.natAbs≤1099511627775)(hlb:len b.natAbs≤1099511627775)(hs:decide (a<0)=decide (b<0)) :
    Calls Tryz.prog 81 #[va,vb] w (Be (a+b) w):=by
  obtain ⟨x,hx⟩:∃ n,a.natAbs=n:=⟨_,rfl⟩
  obtain ⟨y,hy⟩:∃ n,b.natAbs=n:=⟨_,rfl⟩
  obtain ⟨p,hp⟩:∃ s,decide (a<0)=s:=⟨_,rfl⟩
  obtain ⟨q,hq⟩:∃ s,decide (b<0)=s:=⟨_,rfl⟩
  have sa:=Cb a
  have sb:=Cb b
  rw [hx,hp] at sa
  rw [hy,hq] at sb
  rw [hx] at hla
  rw [hy] at hlb
  rw [hp,hq] at hs
  subst hs
  obtain ⟨A,c,rfl,HA⟩:=ha.parts_ hx hp
  obtain ⟨B,d,rfl,HB⟩:=hb.parts_ hy hq
  have SA:=Lib.hid sa
  have SB:=Lib.hid sb
  have LA:=Lib.hid hla
  have LB:=Lib.hid hlb
  clear hx hy hp hq ha hb sa sb hla hlb
  have heq:(p == p)=true:=by simp
  have HH:=Lib.hid (EW w (.cells #[.bool p,.slice A (len x) c] 34) (.cells #[.bool p,.slice B (len y) d] 34) (.cells #[.bool false,.slice none 0 0] 34))
  have HW:=Lib.hid (D8 w (.cells #[.bool p,.slice A (len x) c] 34) (.cells #[.bool p,.slice B (len y) d] 34) (.cells #[.bool false,.slice none 0 0] 34))
  obtain ⟨ca0,ca1,_,_,_⟩:=Ax HH.out.1 (Below.refl _ _)
  obtain ⟨cb0,cb1,_,_,_⟩:=Ax HH.out.2.1 (Below.refl _ _)
  obtain ⟨cc0,cc1,cf0,cf1,cs⟩:=Ax HH.out.2.2 (Below.refl _ _)
  go_enter Tryz.func81,Tryz.ntmps81
  go_wp2_with fail
  generalize ((w.alloc (.cells #[.bool p,.slice A (len x) c] 34)).alloc (.cells #[.bool p,.slice B (len y) d] 34)).alloc (.cells #[.bool false,.slice none 0 0] 34)=W at *
  have HELD:∀ w':World,Below W.heap.size W w'→w'.cell? ⟨w.heap.size,0,none⟩=some (.bool p)∧w'.cell? ⟨w.heap.size,1,none⟩=some (.slice A (len x) c)∧w'.cell? ⟨w.heap.size+1,0,none⟩=some (.bool p)∧w'.cell? ⟨w.heap.size+1,1,none⟩=some (.slice B (len y) d):=λw' hb=>by
    obtain ⟨a0,a1,_,_,_⟩:=Ax HH.out.1 hb
    obtain ⟨b0,b1,_,_,_⟩:=Ax HH.out.2.1 hb
    exact ⟨a0,a1,b0,b1⟩
  have HELD2:∀ w':World,Below W.heap.size W w'→∀(i j:Nat)(u v:Value),((w'.setCell ⟨w.heap.size+1+1,i,none⟩ u).setCell ⟨w.heap.size+1+1,j,none⟩ v).cell? ⟨w.heap.size,0,none⟩=some (.bool p)∧((w'.setCell ⟨w.heap.size+1+1,i,none⟩ u).setCell ⟨w.heap.size+1+1,j,none⟩ v).cell? ⟨w.heap.size,1,none⟩=some (.slice A (len x) c)∧((w'.setCell ⟨w.heap.size+1+1,i,none⟩ u).setCell ⟨w.heap.size+1+1,j,none⟩ v).cell? ⟨w.heap.size+1,0,none⟩=some (.bool p)∧((w'.setCell ⟨w.heap.size+1+1,i,none⟩ u).setCell ⟨w.heap.size+1+1,j,none⟩ v).cell? ⟨w.heap.size+1,1,none⟩=some (.slice B (len y) d):=λw' hb i j u v=>by
    obtain ⟨a0,a1,b0,b1⟩:=HELD w' hb
    refine ⟨?_,?_,?_,?_⟩
    all_goals
      rw [World.cell?_setCell_far _ _ _ _ (by simp; try omega),World.cell?_setCell_far _ _ _ _ (by simp; try omega)]
      assumption
  have HELD':=Lib.hid HELD
  have HELD2':=Lib.hid HELD2
  clear HELD2
  have HWW:=Lib.hid (Below.refl W.heap.size W)
  clear HELD
  go_region_held3 (λw'=>w'.cell? ⟨w.heap.size,0,none⟩=some (.bool p)∧w'.cell? ⟨w.heap.size,1,none⟩=some (.slice A (len x) c)∧w'.cell? ⟨w.heap.size+1,0,none⟩=some (.bool p)∧w'.cell? ⟨w.heap.size+1,1,none⟩=some (.slice B (len y) d))
    (first | (go_keep; done) | exact HELD'.out _ HB1.out | exact HELD'.out _ HB1.out.drew | exact HELD'.out _ HB2.out | exact HELD'.out _ HB2.out.drew | exact HELD2'.out _ HB2.out _ _ _ _)
    (first
      | (go_at_call 108
         refine (mH _ _ c d _ _ (Ae x) (Ae y) _ ((HA.out.into (by first | exact HW.out | exact HW.out.drew | exact HW.out.drew.drew)).mem.2.2.raw) ((HB.out.into (by first | exact HW.out | exact HW.out.drew | exact HW.out.drew.drew)).mem.2.2.raw) (As _) (As _) (Aa _) (Aa _) (by have:=LA.out; omega) (by have:=LB.out; omega)).mono ?_
         rintro e w1 ⟨v1,ds,rfl,ho1,h321,hl1,hv1,hb1⟩
         obtain ⟨A1,L1,c1,rfl,hL1,hc1,_,hm1⟩:=ho1.shapeL
         have HL1:=hL1
         have H321:=Lib.hid h321
         have HLL:=Lib.hid hl1
         have HV1:=Lib.hid hv1
         have HC1:=Lib.hid hc1
         have HM1:=Lib.hid hm1
         have HB1:Hid (Below W.heap.size W w1):=Ac (by first | exact HWW.out | exact HWW.out.drew | exact HWW.out.drew.drew) hb1
         clear hb1 ho1 h321 hl1 hv1 hL1 hc1 hm1)
      | (go_at_call 89
         refine (C4 A1 L1 c1 ds p _ HL1.out.symm HM1.out.raw (by have:=HL1.out; have:=HLL.out; omega) HC1.out H321.out).mono ?_
         rintro e w2 ⟨v2,rfl,hv2,hb2⟩
         obtain ⟨b2,A2,k2,c2,rfl,H2⟩:=hv2.open_
         have HB2:Hid (Below W.heap.size W w2):=Ac HB1.out hb2
         obtain ⟨dc0,dc1,df0,df1,ds'⟩:=Ax HH.out.2.2 HB2.out
         have HE:=Lib.hid (Cu (x':=.bool b2) (y':=.slice A2 k2 c2) HH.out.2.2 HB2.out H2.out HW.out (by omega))
         clear hb2 hv2))
  go_wp2
  have hz:BK p (val ds)=a+b:=by
    rw [HV1.out,← SA.out,← SB.out]
    rw [Ao,Ao]
    cases p <;> simp [BK] <;> omega
  rw [hz] at HE
  refine bodyPost_ret (v:=.agg #[.bool b2,.slice A2 k2 c2]) (by simp [results,Tryz.results81,go_sem,dc0,dc1]) rfl ⟨_,rfl,HE.out.1,HE.out.2⟩
set_option maxHeartbeats 1600000 in
theorem dI(va vb:Value)(a b:Int)(w:World)(ha:Al w va a)(hb:Al w vb b)(hla:len a.natAbs≤1099511627775)(hlb:len b.natAbs≤1099511627775)(hs:decide (a<0)≠decide (b<0))(hlt:a.natAbs<b.natAbs) :
    Calls Tryz.prog 81 #[va,vb] w (Be (a+b) w):=by
  obtain ⟨x,hx⟩:∃ n,a.natAbs=n:=⟨_,rfl⟩
  obtain ⟨y,hy⟩:∃ n,b.natAbs=n:=⟨_,rfl⟩
  obtain ⟨p,hp⟩:∃ s,decide (a<0)=s:=⟨_,rfl⟩
  obtain ⟨q,hq⟩:∃ s,decide (b<0)=s:=⟨_,rfl⟩
  have sa:=Cb a
  have sb:=Cb b
  rw [hx,hp] at sa
  rw [hy,hq] at sb
  rw [hx] at hla
  rw [hy] at hlb
  rw [hp,hq] at hs
  rw [hx,hy] at hlt
  have HLT:=Lib.hid hlt
  clear hlt
  obtain ⟨A,c,rfl,HA⟩:=ha.parts_ hx hp
  obtain ⟨B,d,rfl,HB⟩:=hb.parts_ hy hq
  have SA:=Lib.hid sa
  have SB:=Lib.hid sb
  have LA:=Lib.hid hla
  have LB:=Lib.hid hlb
  clear hx hy hp hq ha hb sa sb hla hlb
  have hne:(p == q)=false:=by cases p <;> cases q <;> simp_all
  have HH:=Lib.hid (EW w (.cells #[.bool p,.slice A (len x) c] 34) (.cells #[.bool q,.slice B (len y) d] 34) (.cells #[.bool false,.slice none 0 0] 34))
  have HW:=Lib.hid (D8 w (.cells #[.bool p,.slice A (len x) c] 34) (.cells #[.bool q,.slice B (len y) d] 34) (.cells #[.bool false,.slice none 0 0] 34))
  obtain ⟨ca0,ca1,_,_,_⟩:=Ax HH.out.1 (Below.refl _ _)
  obtain ⟨cb0,cb1,_,_,_⟩:=Ax HH.out.2.1 (Below.refl _ _)
  obtain ⟨cc0,cc1,cf0,cf1,cs⟩:=Ax HH.out.2.2 (Below.refl _ _)
  go_enter Tryz.func81,Tryz.ntmps81
  go_wp2_with fail
  generalize ((w.alloc (.cells #[.bool p,.slice A (len x) c] 34)).alloc (.cells #[.bool q,.slice B (len y) d] 34)).alloc (.cells #[.bool false,.slice none 0 0] 34)=W at *
  refine (MW A B c d x y _ (HA.out.into HW.out) (HB.out.into HW.out) (by have:=LA.out; omega) (by have:=LB.out; omega)).mono ?_
  rintro e W1 ⟨rfl,hbl,hheap⟩
  rw [decide_eq_true HLT.out]
  have HH1:=HH.out
  rw [← hheap] at HH1
  replace HH:=Lib.hid HH1
  replace HW:=Lib.hid (Ac HW.out hbl)
  clear HH1 hbl hheap ca0 ca1 cb0 cb1 cc0 cc1 cf0 cf1 cs
  obtain ⟨ca0,ca1,_,_,_⟩:=Ax HH.out.1 (Below.refl _ _)
  obtain ⟨cb0,cb1,_,_,_⟩:=Ax HH.out.2.1 (Below.refl _ _)
  obtain ⟨cc0,cc1,cf0,cf1,cs⟩:=Ax HH.out.2.2 (Below.refl _ _)
  go_wp2_with fail
  have HELD:∀ w':World,Below W1.heap.size W1 w'→w'.cell? ⟨w.heap.size,0,none⟩=some (.bool p)∧w'.cell? ⟨w.heap.size,1,none⟩=some (.slice A (len x) c)∧w'.cell? ⟨w.heap.size+1,0,none⟩=some (.bool q)∧w'.cell? ⟨w.heap.size+1,1,none⟩=some (.slice B (len y) d):=λw' hb=>by
    obtain ⟨a0,a1,_,_,_⟩:=Ax HH.out.1 hb
    obtain ⟨b0,b1,_,_,_⟩:=Ax HH.out.2.1 hb
    exact ⟨a0,a1,b0,b1⟩
  have HELD2:∀ w':World,Below W1.heap.size W1 w'→∀(i j:Nat)(u v:Value),((w'.setCell ⟨w.heap.size+1+1,i,none⟩ u).setCell ⟨w.heap.size+1+1,j,none⟩ v).cell? ⟨w.heap.size,0,none⟩=some (.bool p)∧((w'.setCell ⟨w.heap.size+1+1,i,none⟩ u).setCell ⟨w.heap.size+1+1,j,none⟩ v).cell? ⟨w.heap.size,1,none⟩=some (.slice A (len x) c)∧((w'.setCell ⟨w.heap.size+1+1,i,none⟩ u).setCell ⟨w.heap.size+1+1,j,none⟩ v).cell? ⟨w.heap.size+1,0,none⟩=some (.bool q)∧((w'.setCell ⟨w.heap.size+1+1,i,none⟩ u).setCell ⟨w.heap.size+1+1,j,none⟩ v).cell? ⟨w.heap.size+1,1,none⟩=some (.slice B (len y) d):=λw' hb i j u v=>by
    obtain ⟨a0,a1,b0,b1⟩:=HELD w' hb
    refine ⟨?_,?_,?_,?_⟩
    all_goals
      rw [World.cell?_setCell_far _ _ _ _ (by simp; try omega),World.cell?_setCell_far _ _ _ _ (by simp; try omega)]
      assumption
  have HELD':=Lib.hid HELD
  have HELD2':=Lib.hid HELD2
  clear HELD2
  have HWW:=Lib.hid (Below.refl W1.heap.size W1)
  clear HELD
  go_region_held3 (λw'=>w'.cell? ⟨w.heap.size,0,none⟩=some (.bool p)∧w'.cell? ⟨w.heap.size,1,none⟩=some (.slice A (len x) c)∧w'.cell? ⟨w.heap.size+1,0,none⟩=some (.bool q)∧w'.cell? ⟨w.heap.size+1,1,none⟩=some (.slice B (len y) d))
    (first | (go_keep; done) | exact HELD'.out _ HB1.out | exact HELD'.out _ HB1.out.drew | exact HELD'.out _ HB2.out | exact HELD'.out _ HB2.out.drew | exact HELD2'.out _ HB2.out _ _ _ _)
    (first
      | (go_at_call 109
         refine (O9 _ _ d c _ _ (Ae y) (Ae x) _ ((HB.out.into (by first | exact HW.out | exact HW.out.drew | exact HW.out.drew.drew)).mem.2.2.raw) ((HA.out.into (by first | exact HW.out | exact HW.out.drew | exact HW.out.drew.drew)).mem.2.2.raw) (As _) (As _) (Aa _) (Aa _) (by have:=LB.out; omega) (AY (Nat.le_of_lt HLT.out)) (by rw [Ao,Ao]; exact Nat.le_of_lt HLT.out)).mono ?_
         rintro e w1 ⟨v1,ds,rfl,ho1,h321,hl1,hv1,hb1⟩
         obtain ⟨A1,L1,c1,rfl,hL1,hc1,_,hm1⟩:=ho1.shapeL
         have HL1:=hL1
         have H321:=Lib.hid h321
         have HLL:=Lib.hid hl1
         have HV1:=Lib.hid hv1
         have HC1:=Lib.hid hc1
         have HM1:=Lib.hid hm1
         have HB1:Hid (Below W1.heap.size W1 w1):=Ac (by first | exact HWW.out | exact HWW.out.drew | exact HWW.out.drew.drew) hb1
         clear hb1 ho1 h321 hl1 hv1 hL1 hc1 hm1)
      | (go_at_call 89
         refine (C4 A1 L1 c1 ds q _ HL1.out.symm HM1.out.raw (by have:=HL1.out; have:=HLL.out; omega) HC1.out H321.out).mono ?_
         rintro e w2 ⟨v2,rfl,hv2,hb2⟩
         obtain ⟨b2,A2,k2,c2,rfl,H2⟩:=hv2.open_
         have HB2:Hid (Below W1.heap.size W1 w2):=Ac HB1.out hb2
         obtain ⟨dc0,dc1,df0,df1,ds'⟩:=Ax HH.out.2.2 HB2.out
         have HE:=Lib.hid (Cu (x':=.bool b2) (y':=.slice A2 k2 c2) HH.out.2.2 HB2.out H2.out HW.out (by omega))
         clear hb2 hv2))
  go_wp2
  have hz:BK q (val ds)=a+b:=by
    rw [HV1.out,← SA.out,← SB.out]
    rw [Ao,Ao]
    have:=HLT.out
    cases p <;> cases q <;> simp [BK] at hne ⊢ <;> omega
  rw [hz] at HE
  refine bodyPost_ret (v:=.agg #[.bool b2,.slice A2 k2 c2]) (by simp [results,Tryz.results81,go_sem,dc0,dc1]) rfl ⟨_,rfl,HE.out.1,HE.out.2⟩
set_option maxHeartbeats 1600000 in
theorem yQ(va vb:Value)(a b:Int)(w:World)(ha:Al w va a)(hb:Al w vb b)(hla:len a.natAbs≤1099511627775)(hlb:len b.natAbs≤1099511627775)(hs:decide (a<0)≠decide (b<0))(hlt:¬ a.natAbs<b.natAbs) :
    Calls Tryz.prog 81 #[va,vb] w (Be (a+b) w):=by
  obtain ⟨x,hx⟩:∃ n,a.natAbs=n:=⟨_,rfl⟩
  obtain ⟨y,hy⟩:∃ n,b.natAbs=n:=⟨_,rfl⟩
  obtain ⟨p,hp⟩:∃ s,decide (a<0)=s:=⟨_,rfl⟩
  obtain ⟨q,hq⟩:∃ s,decide (b<0)=s:=⟨_,rfl⟩
  have sa:=Cb a
  have sb:=Cb b
  rw [hx,hp] at sa
  rw [hy,hq] at sb
  rw [hx] at hla
  rw [hy] at hlb
  rw [hp,hq] at hs
  rw [hx,hy] at hlt
  have HLT:=Lib.hid hlt
  clear hlt
  obtain ⟨A,c,rfl,HA⟩:=ha.parts_ hx hp
  obtain ⟨B,d,rfl,HB⟩:=hb.parts_ hy hq
  have SA:=Lib.hid sa
  have SB:=Lib.hid sb
  have LA:=Lib.hid hla
  have LB:=Lib.hid hlb
  clear hx hy hp hq ha hb sa sb hla hlb
  have hne:(p == q)=false:=by cases p <;> cases q <;> simp_all
  have HH:=Lib.hid (EW w (.cells #[.bool p,.slice A (len x) c] 34) (.cells #[.bool q,.slice B (len y) d] 34) (.cells #[.bool false,.slice none 0 0] 34))
  have HW:=Lib.hid (D8 w (.cells #[.bool p,.slice A (len x) c] 34) (.cells #[.bool q,.slice B (len y) d] 34) (.cells #[.bool false,.slice none 0 0] 34))
  obtain ⟨ca0,ca1,_,_,_⟩:=Ax HH.out.1 (Below.refl _ _)
  obtain ⟨cb0,cb1,_,_,_⟩:=Ax HH.out.2.1 (Below.refl _ _)
  obtain ⟨cc0,cc1,cf0,cf1,cs⟩:=Ax HH.out.2.2 (Below.refl _ _)
  go_enter Tryz.func81,Tryz.ntmps81
  go_wp2_with fail
  generalize ((w.alloc (.cells #[.bool p,.slice A (len x) c] 34)).alloc (.cells #[.bool q,.slice B (len y) d] 34)).alloc (.cells #[.bool false,.slice none 0 0] 34)=W at *
  refine (MW A B c d x y _ (HA.out.into HW.out) (HB.out.into HW.out) (by have:=LA.out; omega) (by have:=LB.out; omega)).mono ?_
  rintro e W1 ⟨rfl,hbl,hheap⟩
  rw [decide_eq_false HLT.out]
  have HH1:=HH.out
  rw [← hheap] at HH1
  replace HH:=Lib.hid HH1
  replace HW:=Lib.hid (Ac HW.out hbl)
  clear HH1 hbl hheap ca0 ca1 cb0 cb1 cc0 cc1 cf0 cf1 cs
  obtain ⟨ca0,ca1,_,_,_⟩:=Ax HH.out.1 (Below.refl _ _)
  obtain ⟨cb0,cb1,_,_,_⟩:=Ax HH.out.2.1 (Below.refl _ _)
  obtain ⟨cc0,cc1,cf0,cf1,cs⟩:=Ax HH.out.2.2 (Below.refl _ _)
  go_wp2_with fail
  have HELD:∀ w':World,Below W1.heap.size W1 w'→w'.cell? ⟨w.heap.size,0,none⟩=some (.bool p)∧w'.cell? ⟨w.heap.size,1,none⟩=some (.slice A (len x) c)∧w'.cell? ⟨w.heap.size+1,0,none⟩=some (.bool q)∧w'.cell? ⟨w.heap.size+1,1,none⟩=some (.slice B (len y) d):=λw' hb=>by
    obtain ⟨a0,a1,_,_,_⟩:=Ax HH.out.1 hb
    obtain ⟨b0,b1,_,_,_⟩:=Ax HH.out.2.1 hb
    exact ⟨a0,a1,b0,b1⟩
  have HELD2:∀ w':World,Below W1.heap.size W1 w'→∀(i j:Nat)(u v:Value),((w'.setCell ⟨w.heap.size+1+1,i,none⟩ u).setCell ⟨w.heap.size+1+1,j,none⟩ v).cell? ⟨w.heap.size,0,none⟩=some (.bool p)∧((w'.setCell ⟨w.heap.size+1+1,i,none⟩ u).setCell ⟨w.heap.size+1+1,j,none⟩ v).cell? ⟨w.heap.size,1,none⟩=some (.slice A (len x) c)∧((w'.setCell ⟨w.heap.size+1+1,i,none⟩ u).setCell ⟨w.heap.size+1+1,j,none⟩ v).cell? ⟨w.heap.size+1,0,none⟩=some (.bool q)∧((w'.setCell ⟨w.heap.size+1+1,i,none⟩ u).setCell ⟨w.heap.size+1+1,j,none⟩ v).cell? ⟨w.heap.size+1,1,none⟩=some (.slice B (len y) d):=λw' hb i j u v=>by
    obtain ⟨a0,a1,b0,b1⟩:=HELD w' hb
    refine ⟨?_,?_,?_,?_⟩
    all_goals
      rw [World.cell?_setCell_far _ _ _ _ (by simp; try omega),World.cell?_setCell_far _ _ _ _ (by simp; try omega)]
      assumption
  have HELD':=Lib.hid HELD
  have HELD2':=Lib.hid HELD2
  clear HELD2
  have HWW:=Lib.hid (Below.refl W1.heap.size W1)
  clear HELD
  go_region_held3 (λw'=>w'.cell? ⟨w.heap.size,0,none⟩=some (.bool p)∧w'.cell? ⟨w.heap.size,1,none⟩=some (.slice A (len x) c)∧w'.cell? ⟨w.heap.size+1,0,none⟩=some (.bool q)∧w'.cell? ⟨w.heap.size+1,1,none⟩=some (.slice B (len y) d))
    (first | (go_keep; done) | exact HELD'.out _ HB1.out | exact HELD'.out _ HB1.out.drew | exact HELD'.out _ HB2.out | exact HELD'.out _ HB2.out.drew | exact HELD2'.out _ HB2.out _ _ _ _)
    (first
      | (go_at_call 109
         refine (O9 _ _ c d _ _ (Ae x) (Ae y) _ ((HA.out.into (by first | exact HW.out | exact HW.out.drew | exact HW.out.drew.drew)).mem.2.2.raw) ((HB.out.into (by first | exact HW.out | exact HW.out.drew | exact HW.out.drew.drew)).mem.2.2.raw) (As _) (As _) (Aa _) (Aa _) (by have:=LA.out; omega) (AY (by have:=HLT.out; omega)) (by rw [Ao,Ao]; have:=HLT.out; omega)).mono ?_
         rintro e w1 ⟨v1,ds,rfl,ho1,h321,hl1,hv1,hb1⟩
         obtain ⟨A1,L1,c1,rfl,hL1,hc1,_,hm1⟩:=ho1.shapeL
         have HL1:=hL1
         have H321:=Lib.hid h321
         have HLL:=Lib.hid hl1
         have HV1:=Lib.hid hv1
         have HC1:=Lib.hid hc1
         have HM1:=Lib.hid hm1
         have HB1:Hid (Below W1.heap.size W1 w1):=Ac (by first | exact HWW.out | exact HWW.out.drew | exact HWW.out.drew.drew) hb1
         clear hb1 ho1 h321 hl1 hv1 hL1 hc1 hm1)
      | (go_at_call 89
         refine (C4 A1 L1 c1 ds p _ HL1.out.symm HM1.out.raw (by have:=HL1.out; have:=HLL.out; omega) HC1.out H321.out).mono ?_
         rintro e w2 ⟨v2,rfl,hv2,hb2⟩
         obtain ⟨b2,A2,k2,c2,rfl,H2⟩:=hv2.open_
         have HB2:Hid (Below W1.heap.size W1 w2):=Ac HB1.out hb2
         obtain ⟨dc0,dc1,df0,df1,ds'⟩:=Ax HH.out.2.2 HB2.out
         have HE:=Lib.hid (Cu (x':=.bool b2) (y':=.slice A2 k2 c2) HH.out.2.2 HB2.out H2.out HW.out (by omega))
         clear hb2 hv2))
  go_wp2
  have hz:BK p (val ds)=a+b:=by
    rw [HV1.out,← SA.out,← SB.out]
    rw [Ao,Ao]
    have:=HLT.out
    cases p <;> cases q <;> simp [BK] at hne ⊢ <;> omega
  rw [hz] at HE
  refine bodyPost_ret (v:=.agg #[.bool b2,.slice A2 k2 c2]) (by simp [results,Tryz.results81,go_sem,dc0,dc1]) rfl ⟨_,rfl,HE.out.1,HE.out.2⟩
theorem SN(va vb:Value)(a b:Int)(w:World)(ha:Al w va a)(hb:Al w vb b)(hla:len a.natAbs≤1099511627775)(hlb:len b.natAbs≤1099511627775) :
  Calls Tryz.prog 81 #[va,vb] w (Be (a+b) w):=by
 by_cases hs:decide (a<0)=decide (b<0)
 ·exact Z_ va vb a b w ha hb hla hlb hs
 ·by_cases hlt:a.natAbs<b.natAbs
  ·exact dI va vb a b w ha hb hla hlb hs hlt
  ·exact yQ va vb a b w ha hb hla hlb hs hlt
set_option maxHeartbeats 1600000 in
theorem jQ(va vb:Value)(a b:Int)(w:World)(ha:Al w va a)(hb:Al w vb b)(hla:len a.natAbs≤1099511627775)(hlb:len b.natAbs≤1099511627775) :
    Calls Tryz.prog 121 #[va,vb] w (Be (a - b) w):=by
  obtain ⟨x,hx⟩:∃ n,a.natAbs=n:=⟨_,rfl⟩
  obtain ⟨y,hy⟩:∃ n,b.natAbs=n:=⟨_,rfl⟩
  obtain ⟨p,hp⟩:∃ s,decide (a<0)=s:=⟨_,rfl⟩
  obtain ⟨q,hq⟩:∃ s,decide (b<0)=s:=⟨_,rfl⟩
  have sa:=Cb a
  have sb:=Cb b
  rw [hx,hp] at sa
  rw [hy,hq] at sb
  rw [hx] at hla
  rw [hy] at hlb
  obtain ⟨A,c,rfl,HA⟩:=ha.parts_ hx hp
  obtain ⟨B,d,rfl,HB⟩:=hb.parts_ hy hq
  have HIA:=Lib.hid (Al.back HA.out hx hp)
  have HIB:=Lib.hid (Al.back HB.out hy hq)
  have HX:=Lib.hid hx
  have HY:=Lib.hid hy
  have HP:=Lib.hid hp
  have HQ:=Lib.hid hq
  have SA:=Lib.hid sa
  have SB:=Lib.hid sb
  clear hx hy hp hq ha hb HA HB sa sb
  have HH:=Lib.hid (EW w (.cells #[.bool p,.slice A (len x) c] 34) (.cells #[.bool q,.slice B (len y) d] 34) (.cells #[.bool false,.slice none 0 0] 34))
  have HW:=Lib.hid (D8 w (.cells #[.bool p,.slice A (len x) c] 34) (.cells #[.bool q,.slice B (len y) d] 34) (.cells #[.bool false,.slice none 0 0] 34))
  obtain ⟨ca0,ca1,_,_,_⟩:=Ax HH.out.1 (Below.refl _ _)
  obtain ⟨cb0,cb1,_,_,_⟩:=Ax HH.out.2.1 (Below.refl _ _)
  obtain ⟨cc0,cc1,cf0,cf1,cs⟩:=Ax HH.out.2.2 (Below.refl _ _)
  go_enter Tryz.func121,Tryz.ntmps121
  go_wp2_with fail
  generalize ((w.alloc (.cells #[.bool p,.slice A (len x) c] 34)).alloc (.cells #[.bool q,.slice B (len y) d] 34)).alloc (.cells #[.bool false,.slice none 0 0] 34)=W at *
  have HELD:∀ w':World,Below W.heap.size W w'→w'.cell? ⟨w.heap.size,0,none⟩=some (.bool p)∧w'.cell? ⟨w.heap.size,1,none⟩=some (.slice A (len x) c)∧w'.cell? ⟨w.heap.size+1,0,none⟩=some (.bool q)∧w'.cell? ⟨w.heap.size+1,1,none⟩=some (.slice B (len y) d):=λw' hb=>by
    obtain ⟨a0,a1,_,_,_⟩:=Ax HH.out.1 hb
    obtain ⟨b0,b1,_,_,_⟩:=Ax HH.out.2.1 hb
    exact ⟨a0,a1,b0,b1⟩
  have HELD2:∀ w':World,Below W.heap.size W w'→∀(i j:Nat)(u v:Value),((w'.setCell ⟨w.heap.size+1+1,i,none⟩ u).setCell ⟨w.heap.size+1+1,j,none⟩ v).cell? ⟨w.heap.size,0,none⟩=some (.bool p)∧((w'.setCell ⟨w.heap.size+1+1,i,none⟩ u).setCell ⟨w.heap.size+1+1,j,none⟩ v).cell? ⟨w.heap.size,1,none⟩=some (.slice A (len x) c)∧((w'.setCell ⟨w.heap.size+1+1,i,none⟩ u).setCell ⟨w.heap.size+1+1,j,none⟩ v).cell? ⟨w.heap.size+1,0,none⟩=some (.bool q)∧((w'.setCell ⟨w.heap.size+1+1,i,none⟩ u).setCell ⟨w.heap.size+1+1,j,none⟩ v).cell? ⟨w.heap.size+1,1,none⟩=some (.slice B (len y) d):=λw' hb i j u v=>by
    obtain ⟨a0,a1,b0,b1⟩:=HELD w' hb
    refine ⟨?_,?_,?_,?_⟩
    all_goals
      rw [World.cell?_setCell_far _ _ _ _ (by simp; try omega),World.cell?_setCell_far _ _ _ _ (by simp; try omega)]
      assumption
  have HELD':=Lib.hid HELD
  have HELD2':=Lib.hid HELD2
  clear HELD2
  have HWW:=Lib.hid (Below.refl W.heap.size W)
  clear HELD
  go_region_held3 (λw'=>w'.cell? ⟨w.heap.size,0,none⟩=some (.bool p)∧w'.cell? ⟨w.heap.size,1,none⟩=some (.slice A (len x) c)∧w'.cell? ⟨w.heap.size+1,0,none⟩=some (.bool q)∧w'.cell? ⟨w.heap.size+1,1,none⟩=some (.slice B (len y) d))
    (first | (go_keep; done) | exact HELD'.out _ HB1.out | exact HELD'.out _ HB1.out.drew | exact HELD'.out _ HB2.out | exact HELD'.out _ HB2.out.drew | exact HELD2'.out _ HB2.out _ _ _ _)
    (first
      | (go_at_call 60
         refine (TS _ b _ (HIB.out.into (by first | exact HW.out | exact HW.out.drew | exact HW.out.drew.drew)) (by rw [HY.out]; omega)).mono ?_
         rintro e w1 ⟨v1,rfl,hv1,hb1⟩
         obtain ⟨b1,A1,k1,c1,rfl,H1⟩:=hv1.open_
         have HB1:Hid (Below W.heap.size W w1):=Ac (by first | exact HWW.out | exact HWW.out.drew | exact HWW.out.drew.drew) hb1
         clear hb1 hv1)
      | (go_at_call 81
         refine (SN _ _ a (-b) _ (HIA.out.into (Ac HW.out HB1.out)) H1.out (by rw [HX.out]; omega) (by rw [Int.natAbs_neg,HY.out]; omega)).mono ?_
         rintro e w2 ⟨v2,rfl,hv2,hb2⟩
         obtain ⟨b2,A2,k2,c2,rfl,H2⟩:=hv2.open_
         have HB2:Hid (Below W.heap.size W w2):=Ac HB1.out hb2
         obtain ⟨dc0,dc1,df0,df1,ds⟩:=Ax HH.out.2.2 HB2.out
         have HE:=Lib.hid (Cu (x':=.bool b2) (y':=.slice A2 k2 c2) HH.out.2.2 HB2.out H2.out HW.out (by omega))
         clear hb2 hv2))
  go_wp2
  refine bodyPost_ret (v:=.agg #[.bool b2,.slice A2 k2 c2]) (by simp [results,Tryz.results121,go_sem,dc0,dc1]) rfl ⟨_,rfl,HE.out.1,HE.out.2⟩
section
open Go.RowKit
end
theorem Bh.skip{w wr:World}{g n m:Nat}{X Y:List Nat}{i p:Nat}(h:Bh w g n m X Y wr i m p 0)(hp:X.getD i 0=p)(hY:Y.length≤m)(p':Nat):Bh w g n m X Y wr (i+1) 0 p' 0:=by
 obtain ⟨ds,hl,h32,hr,he,hz,hb⟩:=h;refine ⟨ds,hl,h32,hr,?_,λt' ht'=>hz t' (by omega),hb⟩;rw [List.take_of_length_le hY,Nat.mul_zero,Nat.add_zero] at he;rw [Nat.mul_zero,Nat.add_zero,he,Au,hp,List.take_zero,Li,Nat.mul_zero,Nat.mul_zero,Nat.add_zero,Nat.add_mul,Nat.mul_assoc]
theorem Bh.zero{w wr:World}{g n m:Nat}{X Y:List Nat}{i j p c:Nat}(h:Bh w g n m X Y wr i j p c){t:Nat}(ht:t<n)(hm:i+m≤t):wr.cell? ⟨g,t,none⟩=some (.int .u32 0)∧wr.frozen? ⟨g,t,none⟩=false:=by
 obtain ⟨ds,hl,h32,hr,he,hz,hb⟩:=h;have:=hr.cell (show t<ds.length by omega);have gx:=At (show t<ds.length by omega);rw [hz t hm] at gx;rw [← gx] at this;exact ⟨this,hr.frozen t⟩
theorem Bh.bel{w wr:World}{g n m:Nat}{X Y:List Nat}{i j p c:Nat}(h:Bh w g n m X Y wr i j p c):Below w.heap.size w wr:=by
 obtain ⟨_,_,_,_,_,_,hb⟩:=h;exact hb
set_option maxHeartbeats 3200000 in
theorem pS(va vb:Value)(a b:Int)(w:World)(ha:Al w va a)(hb:Al w vb b)(hla:len a.natAbs≤1099511627776)(hlb:len b.natAbs≤1099511627776) :
  Calls Tryz.prog 62 #[va,vb] w (Be (a*b) w):=by
 obtain ⟨x,hx⟩:∃ n,a.natAbs=n:=⟨_,rfl⟩;obtain ⟨y,hy⟩:∃ n,b.natAbs=n:=⟨_,rfl⟩;obtain ⟨s,hs⟩:∃ s,decide (a<0)=s:=⟨_,rfl⟩;obtain ⟨u,hu⟩:∃ s,decide (b<0)=s:=⟨_,rfl⟩;have sa:=Cb a;have sb:=Cb b;rw [hx,hs] at sa;rw [hy,hu] at sb;rw [hx] at hla;rw [hy] at hlb;obtain ⟨A,c,rfl,HA⟩:=ha.parts_ hx hs;obtain ⟨B,d,rfl,HB⟩:=hb.parts_ hy hu;have SA:=Lib.hid sa;have SB:=Lib.hid sb;clear hx hy hs hu ha hb sa sb;have HH:=Lib.hid (EW w (.cells #[.bool s,.slice A (len x) c] 34) (.cells #[.bool u,.slice B (len y) d] 34) (.cells #[.bool false,.slice none 0 0] 34));have HW:=Lib.hid (D8 w (.cells #[.bool s,.slice A (len x) c] 34) (.cells #[.bool u,.slice B (len y) d] 34) (.cells #[.bool false,.slice none 0 0] 34));obtain ⟨ca0,ca1,_,_,_⟩:=Ax HH.out.1 (Below.refl _ _);obtain ⟨cb0,cb1,_,_,_⟩:=Ax HH.out.2.1 (Below.refl _ _);have hmk:=λW=>Kw ((len x:Int)+(len y:Int)+1) (by omega) (by omega) W
 have e1:((len x:Int)+(len y:Int)+1).toNat=len x+len y+1:=by omega
 rw [e1] at hmk;clear e1;have hWs:(((w.alloc (.cells #[.bool s,.slice A (len x) c] 34)).alloc (.cells #[.bool u,.slice B (len y) d] 34)).alloc (.cells #[.bool false,.slice none 0 0] 34)).heap.size=w.heap.size+1+1+1:=by simp
 have HWS:=Lib.hid hWs;clear hWs
 go_enter Tryz.func62,Tryz.ntmps62
 go_wp2_with fail
 generalize ((w.alloc (.cells #[.bool s,.slice A (len x) c] 34)).alloc (.cells #[.bool u,.slice B (len y) d] 34)).alloc (.cells #[.bool false,.slice none 0 0] 34)=W at *;have MA:=Lib.hid (HA.out.into HW.out).mem.2.2;have MB:=Lib.hid (HB.out.into HW.out).mem.2.2;clear ca0 ca1 cb0 cb1 hmk
 go_loopw [6] (λi wr=>∃ k:Nat,k≤len x∧i = .int .i64 k∧Bh W (w.heap.size+1+1+1) (len x+len y+1) (len y) (Ae x) (Ae y) wr k 0 0 0) (λi _=>len x - (intOf i).toNat)
 case atStart=>exact ⟨0,by omega,rfl,by rw [← HWS.out]; exact Bh.start 0⟩
 case round =>
  obtain ⟨k,hk,rfl,hR0⟩:=hrel;obtain ⟨ca0,ca1,_,_,_⟩:=Ax HH.out.1 hR0.bel;obtain ⟨cb0,cb1,_,_,_⟩:=Ax HH.out.2.1 hR0.bel
  by_cases hlt:k<len x
  ·obtain ⟨ad,eA,hlt1,_,hca⟩:∃ ad,A=some ad∧ad.block<W.heap.size∧True∧W.cell? (ad.add k)=some (.int .u32 (((Ae x)[k]'(by rw [Aa]; exact hlt):Nat):Int)):=by
    obtain ⟨ad,e,h1,h2⟩:=MA.out.at_ (show k<(Ae x).length by rw [Aa]; omega);exact ⟨ad,e,h1,trivial,h2⟩
   subst eA;have hp:=(As x).get (show k<(Ae x).length by rw [Aa]; omega);have gp:=At (show k<(Ae x).length by rw [Aa]; omega);generalize (Ae x)[k]'(by rw [Aa]; omega)=p at *;have GP:=Lib.hid gp;clear gp;have HR:=Lib.hid (Bh.row (p':=p) hR0);have HCA:=Lib.hid hca;clear hR0 hca
   go_wp2_with fail
   go_loopw [7,8] (λcr i wr2=>∃ j cc:Nat,i = .int .i64 j∧cr = .int .u64 cc∧cc<4294967296∧((j≤len y∧Bh W (w.heap.size+1+1+1) (len x+len y+1) (len y) (Ae x) (Ae y) wr2 k j p cc) ∨ (j=len y+1∧cc=0∧Bh W (w.heap.size+1+1+1) (len x+len y+1) (len y) (Ae x) (Ae y) wr2 (k+1) 0 0 0))) (λ_ i _=>len y+1 - (intOf i).toNat)
   case atStart=>exact ⟨0,0,rfl,rfl,by omega,.inl ⟨by omega,HR.out⟩⟩
   case round =>
    clear ca0 ca1 cb0 cb1;obtain ⟨j,cc,rfl,rfl,hcc,hrel⟩:=hrel
    rcases hrel with ⟨hj,hrel⟩ | ⟨rfl,rfl,hrel⟩
    ·have HR2:=Lib.hid hrel
     obtain ⟨ca0,ca1,_,_,_⟩:=Ax HH.out.1 hrel.bel;obtain ⟨cb0,cb1,_,_,_⟩:=Ax HH.out.2.1 hrel.bel;have hca:=(hrel.bel.cell (p:=ad.add k) (by rw [Ap]; exact hlt1)).trans HCA.out;clear hrel HR
     by_cases hlj:j<len y
     ·obtain ⟨bd,eB,hlt2,hcb0⟩:=MB.out.raw.at_ (show j<(Ae y).length by rw [Aa]; omega)
      subst eB;have hq:=(As y).get (show j<(Ae y).length by rw [Aa]; omega);have gq:=At (show j<(Ae y).length by rw [Aa]; omega);have hcb:=(HR2.out.bel.cell (p:=bd.add j) (by rw [Ap]; exact hlt2)).trans hcb0;generalize (Ae y)[j]'(by rw [Aa]; omega)=q at *;have GQ:=Lib.hid gq;clear gq hcb0;obtain ⟨r,hr,hcell,hfz,hstep⟩:=HR2.out.cell (t:=k+j) (by omega);clear hstep;have hm:=DX hp hq;have hm0:(0:Int)≤(p:Int)*(q:Int):=by rw [← Int.natCast_mul]; omega
      have hm1:(p:Int)*(q:Int)≤18446744065119617025:=by rw [← Int.natCast_mul]; omega
      clear hm;have b1:(0:Int)≤(k:Int):=by omega
      have b2:(k:Int)<(len x:Int):=by omega
      have b3:(0:Int)≤(j:Int):=by omega
      have b4:(j:Int)<(len y:Int):=by omega
      go_wp2_with fail
      go_quiet (fail)
      have HR3:=Lib.hid (HR2.out.drewN nq);have hcd:(wr.drewN nq).cell? ⟨w.heap.size+1+1+1,k+j,none⟩=some (.int .u32 (r:Int)):=hcell;have HCD:=Lib.hid hcd;clear HR2 hcell hfz ca0 ca1 cb0 cb1 hca hcb hcd;generalize wr.drewN nq=wo at *;obtain ⟨ca0,ca1,_,_,_⟩:=Ax HH.out.1 HR3.out.bel;obtain ⟨cb0,cb1,_,_,_⟩:=Ax HH.out.2.1 HR3.out.bel;obtain ⟨r',hr',hcell,hfz,hstep⟩:=HR3.out.cell (t:=k+j) (by omega);obtain rfl:r'=r:=by
       have:=hcell.symm.trans HCD.out;simp at this;omega
      obtain ⟨S,hS⟩:∃ S,S=cc+(p*q+r'):=⟨_,rfl⟩;have hSI:(cc:Int)+(r':Int)+(p:Int)*(q:Int)=(S:Int):=by rw [hS,← Int.natCast_mul]; omega
      have hS2:S<18446744073709551616:=by
       have:=DX hp hq;rw [hS];generalize p*q=pq at *;omega
      have HSI:=Lib.hid hSI;have HSN:=Lib.hid hS;have HS2:=Lib.hid hS2;have HST:=Lib.hid (hstep hlj q (S / 4294967296) GQ.out rfl (by rw [HWS.out]; exact Nat.le_refl _) (by rw [hS]) ((S:Int) % 4294967296) (by rw [← hSI]; congr 1; omega));clear hstep hSI hS hS2
      go_wp2_with fail
      go_roundw
      case rel=>exact ⟨j+1,S / 4294967296,by go_num,by rw [HSI.out]; rfl,by have:=HS2.out; omega,.inl ⟨by omega,by rw [HSI.out]; exact HST.out⟩⟩
      case measure=>(simp [intOf]; try omega)
     ·have hj':j=len y:=by omega
      subst hj';obtain ⟨hcell,hfz⟩:=HR2.out.zero (t:=k+len y) (by omega) (Nat.le_refl _)
      by_cases hc0:cc=0
      ·subst hc0
       have HN:=Lib.hid (HR2.out.skip GP.out (Nat.le_refl _) 0);clear HR2
       go_wp2_with fail
       go_roundw
       case rel=>exact ⟨k+1,by omega,by go_num,HN.out⟩
       case measure=>(simp [intOf]; try omega)
      ·have hpos:decide (0<cc)=true:=by simp; omega
       have HN:=Lib.hid (HR2.out.next (by rw [HWS.out]; exact Nat.le_refl _) (by omega) hcc GP.out (Nat.le_refl _) 0);clear HR2
       go_wp2_with fail
       go_roundw
       case rel=>exact ⟨len y+1,0,by go_num,by go_num,by omega,.inr ⟨rfl,rfl,by first | exact HN.out | (rw [show ((cc:Int) % 4294967296)=(cc:Int) from by omega]; exact HN.out)⟩⟩
       case measure=>(simp [intOf]; try omega)
    ·obtain ⟨ca0,ca1,_,_,_⟩:=Ax HH.out.1 hrel.bel
     obtain ⟨cb0,cb1,_,_,_⟩:=Ax HH.out.2.1 hrel.bel;have HN:=Lib.hid hrel;clear hrel HR
     go_wp2_with fail
     go_roundw
     case rel=>exact ⟨k+1,by omega,by go_num,HN.out⟩
     case measure=>(simp [intOf]; try omega)
  ·have hk':k=len x:=by omega
   subst hk';obtain ⟨ds,hl,h32,hrow,he,hbel⟩:=hR0.finish (Nat.le_refl _);have HE:=Lib.hid he;have HBL:=Lib.hid hbel;have HL:=Lib.hid hl;have H32:=Lib.hid h32;have HROW:=Lib.hid hrow;clear he hbel hl h32 hrow hR0
   go_wp2_with fail
   refine (C4 _ _ _ ds (s != u) _ HL.out (HROW.out.mem HROW.out.lt).raw (by omega) (Nat.le_refl _) H32.out).mono ?_
   rintro e w2 ⟨v2,rfl,hv2,hb2⟩
   obtain ⟨b2,A2,k2,c2,rfl,H2⟩:=hv2.open_;have HB2:=Lib.hid (Ac HBL.out hb2);obtain ⟨dc0,dc1,df0,df1,ds'⟩:=Ax HH.out.2.2 HB2.out;have hz:BK (s != u) (val ds)=a*b:=by
    rw [HE.out,Ao,Ao,← SA.out,← SB.out]
    cases s <;> cases u <;> simp [BK,Int.mul_neg,Int.neg_mul,Int.natCast_mul]
   have HEE:=Cu (x':=.bool b2) (y':=.slice A2 k2 c2) HH.out.2.2 HB2.out H2.out HW.out (by omega);rw [hz] at HEE;have HE2:=Lib.hid HEE;clear hb2 hv2 HEE hz
   go_wp2
   refine bodyPost_ret (v:=.agg #[.bool b2,.slice A2 k2 c2]) (by simp [results,Tryz.results62,go_sem,dc0,dc1]) rfl ⟨_,rfl,HE2.out.1,HE2.out.2⟩
theorem KO(ds:List Nat)(i k v:Nat):(ds.set (i+k) v).drop i=(ds.drop i).set k v:=by
 apply List.ext_getElem?;intro j;rw [List.getElem?_drop,List.getElem?_set,List.getElem?_set,List.getElem?_drop]
 by_cases h:i+k=i+j
 ·have:k=j:=by omega
  subst this;simp only [if_true,List.length_drop]
  by_cases h2:i+k<ds.length
  ·rw [if_pos h2,if_pos (by omega)]
  ·rw [if_neg h2,if_neg (by omega)]
 ·rw [if_neg h,if_neg (by omega)]
theorem EH(ds:List Nat)(i k:Nat):(ds.drop i).getD k 0=ds.getD (i+k) 0:=by
 simp [List.getD,List.getElem?_drop]
theorem FH(ds:List Nat)(i:Nat)(h:i≤ds.length):val ds=val (ds.take i)+4294967296 ^ i*val (ds.drop i):=CW ds i h
theorem Jp{xs ys:List Nat}{i j:Nat}(h:xs.drop i=ys.drop i)(hj:i≤j):xs.getD j 0=ys.getD j 0:=by
 have:=congrArg (λl=>l.getD (j - i) 0) h;simp only [EH] at this;rwa [show i+(j - i)=j by omega] at this
def Mx(w:World)(g:Nat)(A:Option Addr)(ms:List Nat):Prop:=∃ ad,A=some ad∧ad.block≠g∧∀(j x:Nat),ms[j]? = some x→w.cell? (ad.add j)=some (.int .u32 (x:Int))
theorem Mx.only{w w':World}{g:Nat}{A:Option Addr}{ms:List Nat}(h:Mx w g A ms)(hg:w.grownBy w' (some g)):Mx w' g A ms:=by
 obtain ⟨ad,e,hb,hc⟩:=h;refine ⟨ad,e,hb,λj x hx=>?_⟩;have h1:=hc j x hx;have hl:=World.block_lt_of_cell? _ _ h1;have hb':(ad.add j).block≠g:=by rw [Ap]; exact hb
 rw [World.cell?_of_block (w:=w) (hg.block _ hl (by simpa using hb'))];exact h1
theorem Mx.below{w w':World}{g:Nat}{A:Option Addr}{ms:List Nat}(h:Mx w g A ms)(hb:Below w.heap.size w w'):Mx w' g A ms:=by
 obtain ⟨ad,e,hn,hc⟩:=h;refine ⟨ad,e,hn,λj x hx=>?_⟩;have h1:=hc j x hx;exact (hb.cell (World.block_lt_of_cell? _ _ h1)).trans h1
theorem Mx.at_{w:World}{g:Nat}{A:Option Addr}{ms:List Nat}{k:Nat}(h:Mx w g A ms)(hk:k<ms.length):∃ ad,A=some ad∧ad.block≠g∧w.cell? (ad.add k)=some (.int .u32 (ms[k]:Nat)):=by
 obtain ⟨ad,e,hb,hc⟩:=h;exact ⟨ad,e,hb,hc k _ (List.getElem?_eq_getElem hk)⟩
theorem NI(w:World)(row:Option Nat):w.grownBy w row:=⟨rfl,rfl,rfl,Nat.le_refl _,λ_ _ _=>rfl⟩
def Dz(w:World)(g i:Nat)(rs X:List Nat)(q:Nat)(wr:World)(k c b:Nat):Prop:=
 ∃ ds:List Nat,ds.length=rs.length∧Bx ds∧Cx wr g ds∧ds.take i=rs.take i∧ds.drop (i+k)=rs.drop (i+k)∧val ((ds.drop i).take k)+q*val (X.take k)=val ((rs.drop i).take k)+4294967296 ^ k*(c+b)∧w.grownBy wr (some g)
theorem Dz.start{w:World}{g i q:Nat}{rs X:List Nat}(hr:Cx w g rs)(h32:Bx rs):Dz w g i rs X q w 0 0 0:=
 ⟨rs,rfl,h32,hr,rfl,rfl,by simp [val],NI _ _⟩
theorem Dz.cell{w wr:World}{g i q k c b:Nat}{rs X:List Nat}(h:Dz w g i rs X q wr k c b){j:Nat}(hk:k≤j)(hj:i+j<rs.length):wr.cell? ⟨g,i+j,none⟩=some (.int .u32 ((rs.getD (i+j) 0:Nat):Int))∧wr.frozen? ⟨g,i+j,none⟩=false:=by
 obtain ⟨ds,hl,h32,hr,ht,hd,he,hg⟩:=h;refine ⟨?_,hr.frozen _⟩;rw [hr.cell (show i+j<ds.length by omega),← At (show i+j<ds.length by omega),Jp hd (by omega)]
theorem Il(ds:List Nat)(i k v:Nat)(h:i+k<ds.length):val (((ds.set (i+k) v).drop i).take (k+1))=val ((ds.drop i).take k)+4294967296 ^ k*v:=by
 rw [KO,BP _ _ _ (by rw [List.length_drop]; omega)]
theorem Dz.step{w wr:World}{g i q k c b p x lo c' b':Nat}{rs X:List Nat}(h:Dz w g i rs X q wr k c b)(hi:i+k<rs.length)(hp:rs.getD (i+k) 0=p)(hx:X.getD k 0=x)
  {v:Nat} (hv:v<4294967296) (e1:c+q*x=lo+4294967296*c') (e2:v+lo+b=p+4294967296*b') (u:Int) (hu:u=(v:Int)):Dz w g i rs X q (wr.setCell ⟨g,i+k,none⟩ (.int .u32 u)) (k+1) c' b':=by
 subst hu;obtain ⟨ds,hl,h32,hr,ht,hd,he,hg⟩:=h;refine ⟨ds.set (i+k) v,by simpa using hl,h32.set hv,hr.set_ _ _,?_,?_,?_,Nb hg _ _⟩
 ·rw [List.take_set_of_le (by omega)]; exact ht
 ·rw [List.drop_set_of_lt (by omega)]
  have:=congrArg (List.drop 1) hd;rw [List.drop_drop,List.drop_drop] at this;exact this
 ·rw [Il _ _ _ _ (by omega),Au X,Au (rs.drop i),EH,hp,hx,Nat.pow_succ]
  generalize 4294967296 ^ k=P at *;have e3:P*v+P*(q*x)+P*(c+b)=P*p+P*4294967296*(c'+b'):=by
   rw [Nat.mul_assoc,← Nat.mul_add,← Nat.mul_add,← Nat.mul_add]
   congr 1
   omega
  rw [Nat.mul_add q,Nat.mul_left_comm q P x];omega
theorem Dz.finish{w wr:World}{g i q c b p v:Nat}{rs X:List Nat}{neg:Bool}(h:Dz w g i rs X q wr X.length c b)(hi:i+X.length<rs.length)(hp:rs.getD (i+X.length) 0=p)(hv:v<4294967296)(e:v+c+b=p+4294967296*(if neg then 1 else 0))(u:Int)(hu:u=(v:Int)) :
  ∃ ds:List Nat,ds.length=rs.length∧Bx ds∧Cx (wr.setCell ⟨g,i+X.length,none⟩ (.int .u32 u)) g ds∧ds.take i=rs.take i∧ds.drop (i+(X.length+1))=rs.drop (i+(X.length+1)) ∧
   val ((ds.drop i).take (X.length+1))+q*val X=val ((rs.drop i).take (X.length+1))+4294967296 ^ (X.length+1)*(if neg then 1 else 0)∧w.grownBy (wr.setCell ⟨g,i+X.length,none⟩ (.int .u32 u)) (some g):=by
 have h2:=h.step (x:=0) (lo:=c) (c':=0) (b':=if neg then 1 else 0) hi hp (by simp [List.getD]) hv (by omega) (by omega) u hu;obtain ⟨ds,hl,h32,hr,ht,hd,he,hg⟩:=h2;refine ⟨ds,hl,h32,hr,ht,hd,?_,hg⟩;rw [List.take_of_length_le (show X.length≤X.length+1 by omega),Nat.zero_add] at he;exact he
def DD(w:World)(g i:Nat)(rs X:List Nat)(wr:World)(k c:Nat):Prop:=
 ∃ ds:List Nat,ds.length=rs.length∧Bx ds∧Cx wr g ds∧ds.take i=rs.take i∧ds.drop (i+k)=rs.drop (i+k)∧val ((ds.drop i).take k)+4294967296 ^ k*c=val ((rs.drop i).take k)+val (X.take k)∧w.grownBy wr (some g)
theorem DD.start{w:World}{g i:Nat}{rs X:List Nat}(hr:Cx w g rs)(h32:Bx rs):DD w g i rs X w 0 0:=
 ⟨rs,rfl,h32,hr,rfl,rfl,by simp [val],NI _ _⟩
theorem DD.cell{w wr:World}{g i k c:Nat}{rs X:List Nat}(h:DD w g i rs X wr k c){j:Nat}(hk:k≤j)(hj:i+j<rs.length):wr.cell? ⟨g,i+j,none⟩=some (.int .u32 ((rs.getD (i+j) 0:Nat):Int))∧wr.frozen? ⟨g,i+j,none⟩=false:=by
 obtain ⟨ds,hl,h32,hr,ht,hd,he,hg⟩:=h;refine ⟨?_,hr.frozen _⟩;rw [hr.cell (show i+j<ds.length by omega),← At (show i+j<ds.length by omega),Jp hd (by omega)]
theorem DD.step{w wr:World}{g i k c p x c':Nat}{rs X:List Nat}(h:DD w g i rs X wr k c)(hi:i+k<rs.length)(hp:rs.getD (i+k) 0=p)(hx:X.getD k 0=x)
  {v:Nat} (hv:v<4294967296) (e:v+4294967296*c'=c+(p+x)) (u:Int) (hu:u=(v:Int)):DD w g i rs X (wr.setCell ⟨g,i+k,none⟩ (.int .u32 u)) (k+1) c':=by
 subst hu;obtain ⟨ds,hl,h32,hr,ht,hd,he,hg⟩:=h;refine ⟨ds.set (i+k) v,by simpa using hl,h32.set hv,hr.set_ _ _,?_,?_,?_,Nb hg _ _⟩
 ·rw [List.take_set_of_le (by omega)]; exact ht
 ·rw [List.drop_set_of_lt (by omega)]
  have:=congrArg (List.drop 1) hd;rw [List.drop_drop,List.drop_drop] at this;exact this
 ·rw [Il _ _ _ _ (by omega),Au X,Au (rs.drop i),EH,hp,hx,Nat.pow_succ]
  generalize 4294967296 ^ k=P at *;have e3:P*v+P*4294967296*c'=P*c+(P*p+P*x):=by
   rw [Nat.mul_assoc,← Nat.mul_add,← Nat.mul_add,← Nat.mul_add]
   congr 1
  omega
theorem DD.finish{w wr:World}{g i c p v:Nat}{rs X:List Nat}(h:DD w g i rs X wr X.length c)(hi:i+X.length<rs.length)(hp:rs.getD (i+X.length) 0=p)(hv:v<4294967296)(e:∃ f,v+4294967296*f=c+p)(u:Int)(hu:u=(v:Int)) :
  ∃(ds:List Nat)(f:Nat),ds.length=rs.length∧Bx ds∧Cx (wr.setCell ⟨g,i+X.length,none⟩ (.int .u32 u)) g ds∧ds.take i=rs.take i∧ds.drop (i+(X.length+1))=rs.drop (i+(X.length+1)) ∧
   val ((ds.drop i).take (X.length+1))+4294967296 ^ (X.length+1)*f=val ((rs.drop i).take (X.length+1))+val X∧w.grownBy (wr.setCell ⟨g,i+X.length,none⟩ (.int .u32 u)) (some g):=by
 obtain ⟨f,e⟩:=e;have h2:=h.step (x:=0) (c':=f) hi hp (by simp [List.getD]) hv (by omega) u hu;obtain ⟨ds,hl,h32,hr,ht,hd,he,hg⟩:=h2;refine ⟨ds,f,hl,h32,hr,ht,hd,?_,hg⟩;rw [List.take_of_length_le (show X.length≤X.length+1 by omega)] at he;exact he
def E9(w:World)(g n H:Nat)(X:List Nat)(wr:World)(k c:Nat):Prop:=
 ∃ ds:List Nat,ds.length=n+1∧Bx ds∧Cx wr g ds∧val (ds.take k)+4294967296 ^ k*c=val (X.take k)*H∧Below w.heap.size w wr
theorem E9.start(w:World)(n H:Nat)(X:List Nat):E9 w w.heap.size n H X (w.alloc (B9 (List.replicate (n+1) 0))) 0 0:=
 ⟨_,by simp,Bx.replicate _,Cx.new _ _,by simp [val],Ai _ _⟩
theorem E9.cell{w wr:World}{g n H k c:Nat}{X:List Nat}(h:E9 w g n H X wr k c){i:Nat}(hi:i<n+1):∃ x:Nat,wr.cell? ⟨g,i,none⟩=some (.int .u32 (x:Int))∧wr.frozen? ⟨g,i,none⟩=false:=by
 obtain ⟨ds,hl,h32,hr,he,hb⟩:=h;exact ⟨_,hr.cell (by omega),hr.frozen i⟩
theorem E9.step{w wr:World}{g n H k c p s:Nat}{X:List Nat}(h:E9 w g n H X wr k c)(hk:k<n+1)(hg:w.heap.size≤g)(hp:X.getD k 0=p)(hs:s=c+p*H)(u:Int)(hu:u=(s:Int) % 4294967296) :
  E9 w g n H X (wr.setCell ⟨g,k,none⟩ (.int .u32 u)) (k+1) (s / 4294967296):=by
 obtain ⟨ds,hl,h32,hr,he,hb⟩:=h;have e:u=((s % 4294967296:Nat):Int):=by omega
 rw [e];refine ⟨ds.set k (s % 4294967296),by simpa using hl,h32.set (by omega),hr.set_ k _,?_,hb.setCell (by simpa using hg) _⟩;rw [BP _ _ _ (by omega),Au X,hp,Nat.pow_succ];have e1:s=4294967296*(s / 4294967296)+s % 4294967296:=by omega
 generalize s / 4294967296=d at *;generalize s % 4294967296=r at *;generalize 4294967296 ^ k=P at *;rw [Nat.add_mul,Nat.mul_assoc P p H];generalize p*H=pH at *;have e2:P*(c+pH)=P*(4294967296*d+r):=by rw [← hs,e1]
 rw [Nat.mul_add,Nat.mul_add,← Nat.mul_assoc] at e2;omega
theorem E9.finish{w wr:World}{g n H c:Nat}{X:List Nat}(h:E9 w g n H X wr n c)(hg:w.heap.size≤g)(hc:c<4294967296)(hX:X.length=n)(u:Int)(hu:u=(c:Int)) :
  ∃ ds:List Nat,ds.length=n+1∧Bx ds∧Cx (wr.setCell ⟨g,n,none⟩ (.int .u32 u)) g ds∧val ds=val X*H∧Below w.heap.size w (wr.setCell ⟨g,n,none⟩ (.int .u32 u)):=by
 subst hu;obtain ⟨ds,hl,h32,hr,he,hb⟩:=h;refine ⟨ds.set n c,by simpa using hl,h32.set hc,hr.set_ n c,?_,hb.setCell (by simpa using hg) _⟩;have h1:=BP ds n c (by omega);rw [List.take_of_length_le (by simp [hl])] at h1;rw [h1,he,List.take_of_length_le (by omega)]
theorem nR{X:List Nat}(h32:Bx X)(k:Nat)(hk:k≤X.length):val X / 4294967296 ^ k=val (X.drop k):=by
 have h1:=CW X k hk;have h2:=Cv (h32.take k);rw [List.length_take,Nat.min_eq_left hk] at h2;rw [h1,Nat.add_mul_div_left _ _ (Nat.pow_pos (by decide)),Nat.div_eq_of_lt h2,Nat.zero_add]
def Dw(w:World)(g n H:Nat)(X:List Nat)(wr:World)(k:Nat):Prop:=
 ∃ ds:List Nat,ds.length=n∧Bx ds∧Cx wr g ds∧val (ds.take k)=val X / H % 4294967296 ^ k∧Below w.heap.size w wr
theorem Dw.start(w:World)(n H:Nat)(X:List Nat):Dw w w.heap.size n H X (w.alloc (B9 (List.replicate n 0))) 0:=
 ⟨_,by simp,Bx.replicate _,Cx.new _ _,by simp [val,Nat.mod_one],Ai _ _⟩
theorem Dw.cell{w wr:World}{g n H k:Nat}{X:List Nat}(h:Dw w g n H X wr k){i:Nat}(hi:i<n):∃ x:Nat,wr.cell? ⟨g,i,none⟩=some (.int .u32 (x:Int))∧wr.frozen? ⟨g,i,none⟩=false:=by
 obtain ⟨ds,hl,h32,hr,he,hb⟩:=h;exact ⟨_,hr.cell (by omega),hr.frozen i⟩
theorem jL{X:List Nat}(h32:Bx X){k H e:Nat}(hk:k<X.length)(hH:4294967296=H*e)(h0:0<H):(X.getD k 0+4294967296*X.getD (k+1) 0) / H % 4294967296=val X / H / 4294967296 ^ k % 4294967296:=by
 rw [Nat.div_div_eq_div_mul,Nat.mul_comm H,← Nat.div_div_eq_div_mul,nR h32 k (by omega),CS hk,val]
 rcases Nat.lt_or_ge (k+1) X.length with h1 | h1
 ·rw [CS h1,val]
  generalize X.getD k 0=x;generalize X.getD (k+1) 0=y;generalize val (X.drop (k+1+1))=r;have e1:x+4294967296*(y+4294967296*r)=(x+4294967296*y)+H*(e*(4294967296*r)):=by
   rw [Nat.mul_add,← Nat.mul_assoc H e,← hH]; omega
  rw [e1,Nat.add_mul_div_left _ _ h0,Nat.mul_left_comm e,Nat.add_mul_mod_self_left]
 ·rw [List.drop_of_length_le h1,show X.getD (k+1) 0=0 from by simp [List.getD,List.getElem?_eq_none h1]]
  rfl
theorem Dw.step{w wr:World}{g n H k e p q:Nat}{X:List Nat}(h:Dw w g n H X wr k)(hX:X.length=n)(h32:Bx X)(hk:k<n)(hg:w.heap.size≤g)(hp:X.getD k 0=p)(hq:X.getD (k+1) 0=q)(hH:4294967296=H*e)(h0:0<H)(u:Int)(hu:u=(((p+4294967296*q) / H % 4294967296:Nat):Int)) :
  Dw w g n H X (wr.setCell ⟨g,k,none⟩ (.int .u32 u)) (k+1):=by
 subst hu;obtain ⟨ds,hl,hd,hr,he,hb⟩:=h;refine ⟨ds.set k _,by simpa using hl,hd.set (Nat.mod_lt _ (by decide)),hr.set_ k _,?_,hb.setCell (by simpa using hg) _⟩;rw [BP _ _ _ (by omega),he,← hp,← hq,jL h32 (by omega) hH h0,Nat.mod_pow_succ]
theorem Dw.finish{w wr:World}{g n H:Nat}{X:List Nat}(h:Dw w g n H X wr n)(hX:X.length=n)(h32:Bx X):∃ ds:List Nat,ds.length=n∧Bx ds∧Cx wr g ds∧val ds=val X / H∧Below w.heap.size w wr:=by
 obtain ⟨ds,hl,hd,hr,he,hb⟩:=h;refine ⟨ds,hl,hd,hr,?_,hb⟩;rw [List.take_of_length_le (by omega)] at he;rw [he];refine Nat.mod_eq_of_lt (Nat.lt_of_le_of_lt (Nat.div_le_self _ _) ?_);rw [← hX];exact Cv h32
theorem OD{h:Nat}(hh:h<32):2 ^ h≤2147483648:=Nat.le_trans (Nat.pow_le_pow_right (by decide) (show h≤31 by omega)) (by decide)
theorem M_{p h:Nat}(hp:p<4294967296)(hh:h<32):p*2 ^ h≤9223372034707292160:=by
 have:=Nat.mul_le_mul (show p≤4294967295 by omega) (OD hh);omega
theorem AfA(c p h:Nat)(hc:c<2 ^ h)(hp:p<4294967296)(hh:h<32):bits .or .u64 (c:Int) (IntKind.u64.wrap ((p:Int)*2 ^ h))=((c+p*2 ^ h:Nat):Int):=by
 have hb:=M_ hp hh;have h2:=OD hh;have e:(p:Int)*2 ^ h=((p*2 ^ h:Nat):Int):=by rw [Int.natCast_mul,Int.natCast_pow]; rfl
 rw [e,Bo _ (by omega),Gt _ _ (by omega) (by omega)]
 congr 1
 have:=Nat.shiftLeft_add_eq_or_of_lt hc p;rw [Nat.shiftLeft_eq] at this;rw [Nat.or_comm,← this,Nat.add_comm]
set_option maxHeartbeats 1600000 in
theorem Iq(A:Option Addr)(n c h:Nat)(ms:List Nat)(w:World)(hn:ms.length=n)(hm:CQ w w.heap.size A ms)(h32:Bx ms)(hl:n≤1099511627776)(h0:0<n)(hh:h<32) :
  Calls Tryz.prog 144 #[.slice A n c,.int .i64 h] w λe w'=>∃(g:Nat)(ds:List Nat),e = .returned (.slice (some ⟨g,0,none⟩) (n+1) (n+1))∧ds.length=n+1∧Bx ds∧Cx w' g ds∧val ds=val ms*2 ^ h∧Below w.heap.size w w'∧w.heap.size≤g:=by
 have hmk:=λW=>Kw ((n:Int)+1) (by omega) (by omega) W
 have e1:((n:Int)+1).toNat=n+1:=by omega
 rw [e1] at hmk;clear e1;have HN:=Lib.hid hn;have H32:=Lib.hid h32;obtain ⟨ad,rfl,_,hca⟩:=hm.at_ (show 0<ms.length by omega);clear hca hn h32
 go_enter Tryz.func144,Tryz.ntmps144
 go_wp2_with fail
 go_loopw [6,15] (λcr i wr=>∃ k c:Nat,k≤n∧i = .int .i64 k∧cr = .int .u64 c∧c<2 ^ h∧E9 w w.heap.size n (2 ^ h) ms wr k c) (λ_ i _=>n - (intOf i).toNat)
 case atStart=>exact ⟨0,0,by omega,rfl,rfl,Nat.pow_pos (by decide),E9.start _ _ _ _⟩
 case round =>
  obtain ⟨k,c,hk,rfl,rfl,hc,hrel⟩:=hrel;have HR:=Lib.hid hrel;have HC:=Lib.hid hc;clear hrel hc
  by_cases hlt:k<n
  ·obtain ⟨ad',e,hb0,hca⟩:=hm.at_ (show k<ms.length by have:=HN.out; omega)
   injection e with e
   subst e;have hp:=H32.out.get (show k<ms.length by have:=HN.out; omega);have gp:=At (show k<ms.length by have:=HN.out; omega);generalize ms[k]'(by have:=HN.out; omega)=p at *;have GP:=Lib.hid gp;clear gp;obtain ⟨ds,hl',h32',hr,he,hbel⟩:=HR.out;have hca':=(hbel.cell (p:=ad.add k) (by rw [Ap]; omega)).trans hca;obtain ⟨ox,ho,hf⟩:=HR.out.cell (show k<n+1 by omega);clear hl' h32' hr he hbel hca;have hor:=AfA c p h HC.out hp hh;have hb:=M_ hp hh;have h2:=OD hh;have hc2:=HC.out;obtain ⟨s,hs⟩:∃ s,c+p*2 ^ h=s:=⟨_,rfl⟩;rw [hs] at hor;have hs64:s<18446744073709551616:=by omega
   have hsd:s / 4294967296<2 ^ h:=by
    rw [Nat.div_lt_iff_lt_mul (by decide)];have:=Nat.mul_le_mul_right (2 ^ h) (show p+1≤4294967296 by omega);rw [Nat.add_mul] at this;omega
   have HS:=Lib.hid hs;have HSD:=Lib.hid hsd;clear hb h2 hc2 hs hsd
   go_wp2
   go_roundw
   case rel=>exact ⟨k+1,s / 4294967296,by omega,by go_num,by go_num,HSD.out,HR.out.step (by omega) (Nat.le_refl _) GP.out HS.out.symm _ rfl⟩
   case measure=>simp [intOf]; omega
  ·have hk':k=n:=by omega
   subst hk';have h2:=OD hh;have hc2:=HC.out;have hc32:c<4294967296:=by omega
   obtain ⟨ox,ho,hf⟩:=HR.out.cell (show k<k+1 by omega);clear h2 hc2
   go_wp2
   go_ret
   obtain ⟨ds,d1,d2,d3,d4,d5⟩:=HR.out.finish (Nat.le_refl _) hc32 HN.out (c:Int) rfl;refine ⟨w.heap.size,ds,rfl,d1,d2,?_,d4,?_,Nat.le_refl _⟩
   ·first | exact d3 | (rw [show ((c:Int) % 4294967296)=(c:Int) from by omega]; exact d3)
   ·first | exact d5 | (rw [show ((c:Int) % 4294967296)=(c:Int) from by omega]; exact d5)
theorem GZ(s:Nat)(hs:s<18446744073709551616):bits .and .u64 (s:Int) 4294967295=((s % 4294967296:Nat):Int):=by
 have e1:(BitVec.ofInt 64 (s:Int)).toNat=s:=by rw [BitVec.ofInt_natCast,BitVec.toNat_ofNat]; exact Nat.mod_eq_of_lt (by omega)
 have e2:(BitVec.ofInt 64 (4294967295:Int)).toNat=4294967295:=by decide
 show IntKind.u64.wrap ((BitVec.ofInt 64 (s:Int) &&& BitVec.ofInt 64 (4294967295:Int)).toNat:Int)=_;rw [BitVec.toNat_and,e1,e2,show 4294967295=2 ^ 32 - 1 from rfl,Nat.and_two_pow_sub_one_eq_mod,IntKind.wrap_u64];omega
theorem Jh(p lo b:Nat)(hp:p<4294967296)(hlo:lo<4294967296)(hb:b≤1):∃ v b':Nat,v<4294967296∧b'≤1∧v+lo+b=p+4294967296*b'∧IntKind.u64.wrap (IntKind.u64.wrap ((p:Int) - (lo:Int)) - (b:Int)) / 9223372036854775808=(b':Int)∧IntKind.u64.wrap (IntKind.u64.wrap ((p:Int) - (lo:Int)) - (b:Int)) % 4294967296=(v:Int):=by
 rw [IntKind.wrap_u64,IntKind.wrap_u64]
 by_cases h:p<lo+b
 ·exact ⟨p+4294967296 - lo - b,1,by omega,by omega,by omega,by omega,by omega⟩
 ·exact ⟨p - lo - b,0,by omega,by omega,by omega,by omega,by omega⟩
set_option maxHeartbeats 1600000 in
theorem pB(g i n cap d q:Nat)(rs X:List Nat)(B:Option Addr)(w:World)(hX:X.length=n)(hn0:0<n)(hr:Cx w g rs)(h32:Bx rs)(hi:i+n<rs.length)(hB:Mx w g B X)(hX32:Bx X)(hq:q<4294967296)(hl:rs.length≤1099511627776) :
  Calls Tryz.prog 146 #[.slice (some ⟨g,i,none⟩) (n+1) cap,.slice B n d,.int .u32 q] w λe w'=>∃(ds:List Nat)(neg:Bool),e = .returned (.bool neg)∧ds.length=rs.length∧Bx ds∧Cx w' g ds∧ds.take i=rs.take i∧ds.drop (i+(n+1))=rs.drop (i+(n+1)) ∧
   val ((ds.drop i).take (n+1))+q*val X=val ((rs.drop i).take (n+1))+4294967296 ^ (n+1)*(if neg then 1 else 0)∧w.grownBy w' (some g):=by
 have HX:=Lib.hid hX;have HI:=Lib.hid hi;have H32:=Lib.hid h32;have HX32:=Lib.hid hX32;have HB:=Lib.hid hB;have hST:=Lib.hid (Dz.start (q:=q) (X:=X) (i:=i) hr h32);obtain ⟨bd,rfl,_,hcb⟩:=hB.at_ (show 0<X.length by omega);clear hcb hX hi h32 hX32 hB
 go_enter Tryz.func146,Tryz.ntmps146
 go_wp2_with fail
 go_loopw [7,8,15] (λcr br j wr=>∃ k c b:Nat,k≤n∧j = .int .i64 k∧cr = .int .u64 c∧br = .int .u64 b∧c<4294967296∧b≤1∧Dz w g i rs X q wr k c b) (λ_ _ j _=>n - (intOf j).toNat)
 case atStart=>exact ⟨0,0,0,by omega,rfl,rfl,rfl,by omega,by omega,hST.out⟩
 case round =>
  obtain ⟨k,c,b,hk,rfl,rfl,rfl,hc,hb1,hrel⟩:=hrel;have HR:=Lib.hid hrel;clear hrel hST
  by_cases hlt:k<n
  ·obtain ⟨ds,d1,d2,d3,d4,d5,d6,d7⟩:=HR.out
   obtain ⟨bd',e,_,hcb⟩:=(HB.out.only d7).at_ (show k<X.length by have:=HX.out; omega);injection e with e
   subst e;clear d1 d2 d3 d4 d5 d6 d7;have hx:=HX32.out.get (show k<X.length by have:=HX.out; omega);have gx:=At (show k<X.length by have:=HX.out; omega);generalize X[k]'(by have:=HX.out; omega)=x at *;have GX:=Lib.hid gx;clear gx;obtain ⟨hcp,hfz⟩:=HR.out.cell (Nat.le_refl k) (show i+k<rs.length by have:=HI.out; omega);have hp:=H32.out.at_ (i+k);obtain ⟨p,gp⟩:∃ p,rs.getD (i+k) 0=p:=⟨_,rfl⟩;rw [gp] at hp hcp;have GP:=Lib.hid gp;clear gp;have hm:=DX hq hx;have hm0:(0:Int)≤(q:Int)*(x:Int):=by rw [← Int.natCast_mul]; omega
   have hm1:(q:Int)*(x:Int)≤18446744065119617025:=by rw [← Int.natCast_mul]; omega
   obtain ⟨s,hs⟩:∃ s,c+q*x=s:=⟨_,rfl⟩;have hsI:(c:Int)+(q:Int)*(x:Int)=(s:Int):=by rw [← hs,← Int.natCast_mul]; omega
   have hs64:s<18446744073709551616:=by omega
   have hand:=GZ s hs64;obtain ⟨v,b',hv,hb',hvb,hT1,hT2⟩:=Jh p (s % 4294967296) b hp (by omega) hb1;have HS:=Lib.hid hs;have HVB:=Lib.hid hvb;have hkn:n≤1099511627775:=by have:=HI.out; omega
   clear hm hs hvb;generalize hlo:s % 4294967296=lo at *;have HLO:=Lib.hid hlo;clear hlo
   go_wp2
   go_roundw
   case rel=>exact ⟨k+1,s / 4294967296,b',by omega,by go_num,by go_num,rfl,by omega,hb',HR.out.step (by have:=HI.out; omega) GP.out GX.out hv (by rw [HS.out,← HLO.out]; omega) HVB.out _ rfl⟩
   case measure=>simp [intOf]; omega
  ·have hk':k=n:=by omega
   subst hk';obtain ⟨hcp,hfz⟩:=HR.out.cell (Nat.le_refl k) (show i+k<rs.length by have:=HI.out; omega);have hp:=H32.out.at_ (i+k);obtain ⟨p,gp⟩:∃ p,rs.getD (i+k) 0=p:=⟨_,rfl⟩;rw [gp] at hp hcp;have GP:=Lib.hid gp;clear gp;obtain ⟨v,b',hv,hb',hvb,hT1,hT2⟩:=Jh p c b hp hc hb1;have HVB:=Lib.hid hvb;clear hvb;have hkn:k≤1099511627775:=by have:=HI.out; omega
   rcases (show b'=0 ∨ b'=1 by omega) with rfl | rfl
   ·go_wp2
    go_ret
    have e:=HX.out;subst e;obtain ⟨ds,d1,d2,d3,d4,d5,d6,d7⟩:=HR.out.finish (neg:=false) HI.out GP.out hv (by simpa using HVB.out) (v:Int) rfl;exact ⟨ds,false,rfl,d1,d2,d3,d4,d5,d6,d7⟩
   ·go_wp2
    go_ret
    have e:=HX.out;subst e;obtain ⟨ds,d1,d2,d3,d4,d5,d6,d7⟩:=HR.out.finish (neg:=true) HI.out GP.out hv (by simpa using HVB.out) (v:Int) rfl;exact ⟨ds,true,rfl,d1,d2,d3,d4,d5,d6,d7⟩
set_option maxHeartbeats 1600000 in
theorem tI(g i n cap d:Nat)(rs X:List Nat)(B:Option Addr)(w:World)(hX:X.length=n)(hn0:0<n)(hr:Cx w g rs)(h32:Bx rs)(hi:i+n<rs.length)(hB:Mx w g B X)(hX32:Bx X)(hl:rs.length≤1099511627776) :
  Calls Tryz.prog 147 #[.slice (some ⟨g,i,none⟩) (n+1) cap,.slice B n d] w λe w'=>∃(ds:List Nat)(f:Nat),(∃ v,e = .returned v)∧ds.length=rs.length∧Bx ds∧Cx w' g ds∧ds.take i=rs.take i∧ds.drop (i+(n+1))=rs.drop (i+(n+1)) ∧
   val ((ds.drop i).take (n+1))+4294967296 ^ (n+1)*f=val ((rs.drop i).take (n+1))+val X∧w.grownBy w' (some g):=by
 have HX:=Lib.hid hX;have HI:=Lib.hid hi;have H32:=Lib.hid h32;have HX32:=Lib.hid hX32;have HB:=Lib.hid hB;have hST:=Lib.hid (DD.start (X:=X) (i:=i) hr h32);obtain ⟨bd,rfl,_,hcb⟩:=hB.at_ (show 0<X.length by omega);have hkn:n≤1099511627775:=by omega
 clear hcb hX hi h32 hX32 hB
 go_enter Tryz.func147,Tryz.ntmps147
 go_wp2_with fail
 go_loopw [4,9] (λcr j wr=>∃ k c:Nat,k≤n∧j = .int .i64 k∧cr = .int .u64 c∧c≤1∧DD w g i rs X wr k c) (λ_ j _=>n - (intOf j).toNat)
 case atStart=>exact ⟨0,0,by omega,rfl,rfl,by omega,hST.out⟩
 case round =>
  obtain ⟨k,c,hk,rfl,rfl,hc1,hrel⟩:=hrel;have HR:=Lib.hid hrel;clear hrel hST
  by_cases hlt:k<n
  ·obtain ⟨ds,d1,d2,d3,d4,d5,d6,d7⟩:=HR.out
   obtain ⟨bd',e,_,hcb⟩:=(HB.out.only d7).at_ (show k<X.length by have:=HX.out; omega);injection e with e
   subst e;clear d1 d2 d3 d4 d5 d6 d7;have hx:=HX32.out.get (show k<X.length by have:=HX.out; omega);have gx:=At (show k<X.length by have:=HX.out; omega);generalize X[k]'(by have:=HX.out; omega)=x at *;have GX:=Lib.hid gx;clear gx;obtain ⟨hcp,hfz⟩:=HR.out.cell (Nat.le_refl k) (show i+k<rs.length by have:=HI.out; omega);have hp:=H32.out.at_ (i+k);obtain ⟨p,gp⟩:∃ p,rs.getD (i+k) 0=p:=⟨_,rfl⟩;rw [gp] at hp hcp;have GP:=Lib.hid gp;clear gp
   go_wp2
   go_roundw
   case rel=>exact ⟨k+1,(c+(p+x)) / 4294967296,by omega,by go_num,by go_num,by omega,HR.out.step (by have:=HI.out; omega) GP.out GX.out (v:=(c+(p+x)) % 4294967296) (by omega) (by omega) _ (by omega)⟩
   case measure=>simp [intOf]; omega
  ·have hk':k=n:=by omega
   subst hk';obtain ⟨hcp,hfz⟩:=HR.out.cell (Nat.le_refl k) (show i+k<rs.length by have:=HI.out; omega);have hp:=H32.out.at_ (i+k);obtain ⟨p,gp⟩:∃ p,rs.getD (i+k) 0=p:=⟨_,rfl⟩;rw [gp] at hp hcp;have GP:=Lib.hid gp;clear gp
   go_wp2
   have e:=HX.out;subst e;obtain ⟨ds,f,d1,d2,d3,d4,d5,d6,d7⟩:=HR.out.finish HI.out GP.out (v:=(p+c) % 4294967296) (by omega) ⟨(p+c) / 4294967296,by omega⟩ (((p:Int)+(c:Int)) % 4294967296) (by omega);exact bodyPost_end (results_none rfl _ _ _) rfl ⟨ds,f,⟨_,rfl⟩,d1,d2,d3,d4,d5,d6,d7⟩
section
open Go.RowKit
end
def Ch(w:World)(g:Nat)(ms:List Nat)(d:Nat)(wr:World)(k r:Nat):Prop:=
 ∃ ds:List Nat,ds.length=ms.length∧Bx ds∧Cx wr g ds∧val (ms.drop k)=d*val (ds.drop k)+r∧Below w.heap.size w wr
theorem Ch.start(w:World)(ms:List Nat)(d n:Nat)(hn:ms.length=n):Ch w w.heap.size ms d (w.alloc (B9 (List.replicate n 0))) n 0:=by
 subst hn;exact ⟨_,by simp,Bx.replicate _,Cx.new _ _,by rw [List.drop_length,List.drop_of_length_le (by simp)]; simp [val],Ai _ _⟩
theorem Ch.step{w wr:World}{g:Nat}{ms:List Nat}{d j r p Q R:Nat}(h:Ch w g ms d wr (j+1) r)(hg:w.heap.size≤g)(hj:j<ms.length)(hp:ms.getD j 0=p)(hQ:Q=(r*4294967296+p) / d)(hR:R=(r*4294967296+p) % d)(hQ32:Q<4294967296)
  (v:Int) (hv:v=(Q:Int)):Ch w g ms d (wr.setCell ⟨g,j,none⟩ (.int .u32 v)) j R:=by
 subst hv;obtain ⟨ds,hl,h32,hrow,hd,hb⟩:=h;refine ⟨ds.set j Q,by simpa using hl,h32.set hQ32,hrow.set_ j Q,?_,hb.setCell (by simpa using hg) _⟩;rw [CS hj,hp,val,hd];have e:(ds.set j Q).drop j=Q :: ds.drop (j+1):=by
  rw [CS (by simp; omega)]
  congr 1
  ·simp [List.getD,show j<ds.length by omega]
  ·rw [List.drop_set_of_lt (by omega)]
 rw [e,val];have h1:=Nat.div_add_mod (r*4294967296+p) d;rw [← hQ,← hR] at h1;generalize val (ds.drop (j+1))=V at *;rw [Nat.mul_add,Nat.mul_add,Nat.mul_left_comm d 4294967296 V];omega
theorem Ch.cell{w wr:World}{g:Nat}{ms:List Nat}{d k r:Nat}(h:Ch w g ms d wr k r){i:Nat}(hi:i<ms.length):∃ x:Nat,wr.cell? ⟨g,i,none⟩=some (.int .u32 (x:Int))∧wr.frozen? ⟨g,i,none⟩=false:=by
 obtain ⟨ds,hl,h32,hr,he,hb⟩:=h;exact ⟨_,hr.cell (by omega),hr.frozen i⟩
theorem Ch.bel{w wr:World}{g:Nat}{ms:List Nat}{d k r:Nat}(h:Ch w g ms d wr k r):Below w.heap.size w wr:=by
 obtain ⟨_,_,_,_,_,hb⟩:=h;exact hb
set_option maxHeartbeats 1600000 in
theorem T9(A:Option Addr)(n c:Nat)(ms:List Nat)(d:Nat)(w:World)(hn:ms.length=n)(hm:CQ w w.heap.size A ms)(h32:Bx ms)(hl:n≤4398046511104)(hd0:0<d)(hd:d<4294967296) :
  Calls Tryz.prog 132 #[.slice A n c,.int .u32 d] w λe w'=>∃ ds:List Nat,e = .returned (.tuple #[.slice (some ⟨w.heap.size,0,none⟩) n n,.int .u32 (val ms % d:Nat)])∧ds.length=n∧Bx ds∧val ds=val ms / d∧Cx w' w.heap.size ds∧Below w.heap.size w w':=by
 have hmk:=λW=>Kw (n:Int) (by omega) (by omega) W
 rw [Int.toNat_natCast] at hmk;have HN:=Lib.hid hn;have HM:=Lib.hid hm;clear hn hm
 go_enter Tryz.func132,Tryz.ntmps132
 go_wp2_with fail
 go_loopw [7,8] (λrest i wr=>∃ k r:Nat,k≤n∧i = .int .i64 ((k:Int) - 1)∧rest = .int .u64 r∧r<d∧Ch w w.heap.size ms d wr k r) (λ_ i _=>(intOf i+1).toNat)
 case atStart=>exact ⟨n,0,Nat.le_refl _,rfl,rfl,hd0,Ch.start w ms d n HN.out⟩
 case round =>
  obtain ⟨k,r,hk,rfl,rfl,hrd,hrel⟩:=hrel
  rcases Nat.eq_zero_or_pos k with h0 | h0
  ·subst h0
   obtain ⟨ds,hl',h32',hrow,hv,hgrow⟩:=hrel;rw [List.drop_zero,List.drop_zero] at hv;have HV:=Lib.hid hv;have HL:=Lib.hid hl';clear hv hl'
   go_wp2
   go_ret2
   have e1:val ms % d=r:=by rw [HV.out,Nat.add_comm,Nat.add_mul_mod_self_left]; exact Nat.mod_eq_of_lt hrd
   have e2:val ms / d=val ds:=by rw [HV.out,Nat.add_comm,Nat.add_mul_div_left _ _ hd0,Nat.div_eq_of_lt hrd]; omega
   rw [e1,e2];exact ⟨ds,rfl,by rw [HL.out,HN.out],h32',rfl,hrow,hgrow⟩
  ·obtain ⟨j,rfl⟩:∃ j,k=j+1:=⟨k - 1,by omega⟩
   have hj:j<ms.length:=by rw [HN.out]; omega
   obtain ⟨ad,rfl,hlt,hc0⟩:=HM.out.at_ hj;have hc:=(hrel.bel.cell (p:=ad.add j) (by rw [Ap]; exact hlt)).trans hc0;obtain ⟨ox,ho,hf⟩:=hrel.cell hj;have hp:=h32.get hj;have hpe:=At hj;generalize ms[j]'hj=p at *;have hT:r*4294967296+p<d*4294967296:=by omega
   have hQ32:(r*4294967296+p) / d<4294967296:=Nat.div_lt_of_lt_mul hT;have hR:(r*4294967296+p) % d<d:=Nat.mod_lt _ hd0;have HS:=Lib.hid (hrel.step (Nat.le_refl _) hj hpe rfl rfl hQ32 _ rfl);have hT64:r*4294967296+p<18446744073709551616:=by omega
   have hor:(r:Int)*4294967296+(p:Int)=((r*4294967296+p:Nat):Int):=by omega
   generalize r*4294967296+p=T at *;have hq:IntKind.u64.wrap ((T:Int) / (d:Int))=((T / d:Nat):Int):=Bo _ (by omega);have hrm:(T:Int).tmod (d:Int)=((T % d:Nat):Int):=rfl;generalize T / d=Q at *;generalize T % d=R at *;have hdn:¬ d=0:=by omega
   have hcast:((j+1:Nat):Int) - 1=(j:Int):=by omega
   have HC:=Lib.hid hcast;have HPE:=Lib.hid hpe;clear hrel hpe hcast hc0;rw [HC.out]
   go_wp2
   go_roundw
   case rel=>exact ⟨j,R,by omega,by first | rfl | go_num,by first | rfl | go_num,hR,HS.out⟩
   case measure=>simp [intOf]
end Go.Proofs.YtdopbgnkneeceaaGreat
