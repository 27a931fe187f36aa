/- Walks: Of, Sign, Neg, Mul on integers. -/
import Derived.Test.YtdopbgnkneeceaaGreatqW3
set_option linter.unusedSectionVars false
set_option linter.unusedVariables false
set_option linter.unusedSimpArgs false
set_option maxRecDepth 100000
namespace Go.Proofs.YtdopbgnkneeceaaGreat
open Go.RowKit
theorem R_(n:Nat)(hn:n≤9223372036854775808)(h1:0<n):IntKind.u64.wrap (-IntKind.u64.wrap (-(n:Int)))=(n:Int):=by
 rw [IntKind.wrap_u64,IntKind.wrap_u64]; omega
set_option maxHeartbeats 400000 in
theorem Afc(n:Nat)(w:World)(hn:n≤9223372036854775808)(h1:0<n) :
  Calls Tryz.prog 77 #[.int .i64 (-(n:Int))] w (Be (BK true n) w):=by
 have h0:decide (-(n:Int)<0)=true:=by simp; omega
 have hl:len n≤2:=EL (by omega)
 go_enter Tryz.func77,Tryz.ntmps77
 go_wp2_with fail
 rw [R_ n hn h1];refine (CV n _ (by omega)).mono ?_
 rintro e w1 ⟨v,rfl,hv,hb⟩
 go_wp2_with fail
 refine (Bb true v n _ hv (by omega)).mono ?_
 rintro e w2 ⟨v2,rfl,hv2,hb2⟩
 obtain ⟨b,A,k,c,rfl,H⟩:=hv2.open_;have hB:=Ac hb hb2;obtain ⟨hc0,hc1,hf0,hf1,hs⟩:=NC hB;have HE:=Lib.hid (C5 (x':=.bool b) (y':=.slice A k c) hB H.out);clear hB
 go_wp2
 refine bodyPost_ret (v:=.agg #[.bool b,.slice A k c]) (by simp [results,Tryz.results77,go_sem,hc0,hc1]) rfl ⟨_,rfl,HE.out.1,HE.out.2⟩
theorem Aeh(z:Int)(w:World)(h0 : -9223372036854775808≤z)(h1:z≤9223372036854775807):Calls Tryz.prog 77 #[.int .i64 z] w (Be z w):=by
 rcases Int.lt_or_le z 0 with h | h
 ·obtain ⟨n,rfl⟩:∃ n:Nat,z = -(n:Int):=⟨z.natAbs,by omega⟩
  exact Afc n w (by omega) (by omega)
 ·obtain ⟨n,rfl⟩:=Int.eq_ofNat_of_zero_le h
  exact cE n w (by omega)
set_option maxHeartbeats 400000 in
theorem mS(v:Value)(z:Int)(w:World)(h:Al w v z)(hl:len z.natAbs≤1099511627776) :
    Calls Tryz.prog 114 #[v] w λe w'=>e = .returned (.int .i64 z.sign)∧Below w.heap.size w w':=by
  obtain ⟨n,hn⟩:∃ n,z.natAbs=n:=⟨_,rfl⟩
  obtain ⟨b,hb⟩:∃ b,decide (z<0)=b:=⟨_,rfl⟩
  obtain ⟨A,c,rfl,H⟩:=h.parts_ hn hb
  have HI:=Lib.hid (Al.back H.out hn hb)
  rw [hn] at hl
  have HN:=Lib.hid hn
  have HB:=Lib.hid hb
  clear hn hb h
  cases b
  all_goals
    go_enter Tryz.func114,Tryz.ntmps114
    go_wp2_with fail
    refine (BC _ z n _ _ (HI.out.into (Ai _ _)) HN.out HB.out (by omega)).mono ?_
    rintro e w1 ⟨A1,c1,rfl,H1,hb1⟩
    have HD:=Lib.hid (Ac (Ai _ _) hb1)
    clear hb1
  · rcases Nat.eq_zero_or_pos n with h0 | h0
    · have hz : z.sign = 0 := by have:=HN.out; have:z=0:=by omega
                                 rw [this]; rfl
      have HZ:=Lib.hid hz
      clear hz
      subst h0
      rw [AX] at *
      go_wp2
      go_ret
      rw [HZ.out]
      exact ⟨rfl,HD.out⟩
    · have hz:z.sign=1:=Int.sign_eq_one_of_pos (by have:=HN.out; have:=of_decide_eq_false HB.out; omega)
      have HZ:=Lib.hid hz
      clear hz
      have hne:((len n:Int) == 0)=false:=by
        have:len n≠0:=λh=>by have:=AZ.1 h; omega
        simp; omega
      go_wp2
      go_ret
      rw [HZ.out]
      exact ⟨rfl,HD.out⟩
  · have hz:z.sign = -1:=Int.sign_eq_neg_one_of_neg (of_decide_eq_true HB.out)
    have HZ:=Lib.hid hz
    clear hz
    go_wp2
    go_ret
    rw [HZ.out]
    exact ⟨rfl,HD.out⟩
set_option maxHeartbeats 400000 in
theorem zB(v:Value)(z:Int)(w:World)(h:Al w v z)(hl:len z.natAbs≤1099511627776) :
  Calls Tryz.prog 87 #[v] w (Be (-z) w):=by
 obtain ⟨n,hn⟩:∃ n,z.natAbs=n:=⟨_,rfl⟩;obtain ⟨b,hb⟩:∃ b,decide (z<0)=b:=⟨_,rfl⟩;obtain ⟨A,c,rfl,H⟩:=h.parts_ hn hb;have hz:BK (!b) n = -z:=by
  subst hn hb
  by_cases h:z<0
  ·simp [BK,h]; omega
  ·simp [BK,h]; omega
 have HZ:=Lib.hid hz;rw [hn] at hl;clear hn hb h hz
 go_enter Tryz.func87,Tryz.ntmps87
 go_wp2_with fail
 refine (Bb (!b) _ n _ (H.out.into (FD _ _ _)) (by omega)).mono ?_
 rintro e w2 ⟨v2,rfl,hv2,hb2⟩
 rw [HZ.out] at hv2;obtain ⟨b',A',k',c',rfl,H'⟩:=hv2.open_;have hg:=(TW w (.cells #[.bool b,.slice A (len n) c] 34) (.cells #[.bool false,.slice none 0 0] 34)).2;obtain ⟨hc0,hc1,hf0,hf1,hs⟩:=Ax hg hb2;have HE:=Lib.hid (Cu (x':=.bool b') (y':=.slice A' k' c') hg hb2 H'.out (FD _ _ _) (by omega));clear hg hb2
 go_wp2
 refine bodyPost_ret (v:=.agg #[.bool b',.slice A' k' c']) (by simp [results,Tryz.results87,go_sem,hc0,hc1]) rfl ⟨_,rfl,HE.out.1,HE.out.2⟩
theorem wC(a b:Int):BK (decide (a<0) != decide (b<0)) (a.natAbs*b.natAbs)=a*b:=by
 have h:∀(p q:Bool)(x y:Nat),BK (p != q) (x*y)=BK p x*BK q y:=by
  intro p q x y
  cases p <;> cases q <;> simp [BK,Int.neg_mul,Int.mul_neg]
 rw [h,Cb,Cb]
set_option maxHeartbeats 800000 in
theorem zZ(va vb:Value)(a b:Int)(w:World)(ha:Al w va a)(hb:Al w vb b)(hla:len a.natAbs≤1099511627776)(hlb:len b.natAbs≤1099511627776) :
  Calls Tryz.prog 79 #[va,vb] w (Be (a*b) w):=by
 obtain ⟨x,hx⟩:∃ n,a.natAbs=n:=⟨_,rfl⟩;obtain ⟨y,hy⟩:∃ n,b.natAbs=n:=⟨_,rfl⟩;obtain ⟨p,hp⟩:∃ s,decide (a<0)=s:=⟨_,rfl⟩;obtain ⟨q,hq⟩:∃ s,decide (b<0)=s:=⟨_,rfl⟩;have hz:=wC a b;rw [hx,hy,hp,hq] at hz;rw [hx] at hla;rw [hy] at hlb;obtain ⟨A,c,rfl,HA⟩:=ha.parts_ hx hp;obtain ⟨B,d,rfl,HB⟩:=hb.parts_ hy hq;have HIA:=Lib.hid (Al.back HA.out hx hp);have HIB:=Lib.hid (Al.back HB.out hy hq);have HX:=Lib.hid hx;have HY:=Lib.hid hy;have HP:=Lib.hid hp;have HQ:=Lib.hid hq;have HZ:=Lib.hid hz;clear hx hy hp hq hz ha hb HA HB;have HH:=Lib.hid (EW w (.cells #[.bool p,.slice A (len x) c] 34) (.cells #[.bool q,.slice B (len y) d] 34) (.cells #[.bool false,.slice none 0 0] 34));have HW:=Lib.hid (D8 w (.cells #[.bool p,.slice A (len x) c] 34) (.cells #[.bool q,.slice B (len y) d] 34) (.cells #[.bool false,.slice none 0 0] 34))
 go_enter Tryz.func79,Tryz.ntmps79
 go_wp2_with fail
 generalize ((w.alloc (.cells #[.bool p,.slice A (len x) c] 34)).alloc (.cells #[.bool q,.slice B (len y) d] 34)).alloc (.cells #[.bool false,.slice none 0 0] 34)=W at *;refine (BC _ a x p _ (HIA.out.into HW.out) HX.out HP.out (by omega)).mono ?_
 rintro e w1 ⟨A1,c1,rfl,H1,hb1⟩
 have hB1:=Lib.hid hb1;obtain ⟨hc0,hc1,hf0,hf1,hs⟩:=Ax HH.out.2.1 hb1;clear hb1
 go_wp2_with fail
 refine (BC _ b y q _ (HIB.out.into (Ac HW.out hB1.out)) HY.out HQ.out (by omega)).mono ?_
 rintro e w2 ⟨B1,d1,rfl,H2,hb2⟩
 have hB2:=Lib.hid hb2;clear hb2 hc0 hc1 hf0 hf1 hs
 go_wp2_with fail
 refine (SJ _ _ x y _ (H1.out.into hB2.out) H2.out hla hlb).mono ?_
 rintro e w3 ⟨v3,rfl,hv3,hb3⟩
 have hB3:=Lib.hid (Ac (Ac hB1.out hB2.out) hb3);clear hb3 hB1 hB2
 go_wp2_with fail
 refine (Bb (p != q) v3 (x*y) _ hv3 (by have:=vB x y; omega)).mono ?_
 rintro e w4 ⟨v4,rfl,hv4,hb4⟩
 rw [HZ.out] at hv4;obtain ⟨b',A',k',c',rfl,H'⟩:=hv4.open_;have hb:=Ac hB3.out hb4;obtain ⟨hc0,hc1,hf0,hf1,hs⟩:=Ax HH.out.2.2 hb;have HE:=Lib.hid (Cu (x':=.bool b') (y':=.slice A' k' c') HH.out.2.2 hb H'.out HW.out (by omega));clear hb hb4
 go_wp2
 refine bodyPost_ret (v:=.agg #[.bool b',.slice A' k' c']) (by simp [results,Tryz.results79,go_sem,hc0,hc1]) rfl ⟨_,rfl,HE.out.1,HE.out.2⟩
set_option maxHeartbeats 1600000 in
theorem wZ(va vb:Value)(a b:Int)(w:World)(ha:Al w va a)(hb:Al w vb b)(hla:len a.natAbs≤1099511627776)(hlb:len b.natAbs≤1099511627776) :
  Calls Tryz.prog 134 #[va,vb] w (Be (a+b) w):=by
 obtain ⟨x,hx⟩:∃ n,a.natAbs=n:=⟨_,rfl⟩;obtain ⟨y,hy⟩:∃ n,b.natAbs=n:=⟨_,rfl⟩;obtain ⟨p,hp⟩:∃ s,decide (a<0)=s:=⟨_,rfl⟩;obtain ⟨q,hq⟩:∃ s,decide (b<0)=s:=⟨_,rfl⟩;have sa:=Cb a;have sb:=Cb b;rw [hx,hp] at sa;rw [hy,hq] at sb;rw [hx] at hla;rw [hy] at hlb;obtain ⟨A,c,rfl,HA⟩:=ha.parts_ hx hp;obtain ⟨B,d,rfl,HB⟩:=hb.parts_ hy hq;have HIA:=Lib.hid (Al.back HA.out hx hp);have HIB:=Lib.hid (Al.back HB.out hy hq);have HX:=Lib.hid hx;have HY:=Lib.hid hy;have HP:=Lib.hid hp;have HQ:=Lib.hid hq;have SA:=Lib.hid sa;have SB:=Lib.hid sb;clear hx hy hp hq ha hb HA HB sa sb
 cases p <;> cases q
 ·have HH:=Lib.hid (EW w (.cells #[.bool false,.slice A (len x) c] 34) (.cells #[.bool false,.slice B (len y) d] 34) (.cells #[.bool false,.slice none 0 0] 34))
  have HW:=Lib.hid (D8 w (.cells #[.bool false,.slice A (len x) c] 34) (.cells #[.bool false,.slice B (len y) d] 34) (.cells #[.bool false,.slice none 0 0] 34))
  go_enter Tryz.func134,Tryz.ntmps134
  go_wp2_with fail
  generalize ((w.alloc (.cells #[.bool false,.slice A (len x) c] 34)).alloc (.cells #[.bool false,.slice B (len y) d] 34)).alloc (.cells #[.bool false,.slice none 0 0] 34)=W at *;refine (BC _ a x false _ (HIA.out.into HW.out) HX.out HP.out (by omega)).mono ?_
  rintro e w1 ⟨A1,c1,rfl,H1,hb1⟩
  have hB1:=Lib.hid hb1;obtain ⟨hc0,hc1,hf0,hf1,hs⟩:=Ax HH.out.2.1 hb1;clear hb1
  go_wp2_with fail
  refine (BC _ b y false _ (HIB.out.into (Ac HW.out hB1.out)) HY.out HQ.out (by omega)).mono ?_
  rintro e w2 ⟨B1,d1,rfl,H2,hb2⟩
  have hB2:=Lib.hid (Ac hB1.out hb2);have H1':=Lib.hid (H1.out.into hb2);clear hb2 hc0 hc1 hf0 hf1 hs hB1 H1
  go_wp2_with fail
  refine (Lh _ _ x y _ H1'.out H2.out hla hlb).mono ?_
  rintro e w3 ⟨v3,rfl,hv3,hb3⟩
  have hB3:=Lib.hid (Ac hB2.out hb3);clear hb3 hB2
  go_wp2_with fail
  refine (Bb false v3 (x+y) _ hv3 (by have:=Fo x y; omega)).mono ?_
  rintro e w4 ⟨v4,rfl,hv4,hb4⟩
  rw [show BK false (x+y)=a+b from by have h1:=SA.out; have h2:=SB.out; simp only [BK] at h1 h2 ⊢; simp at h1 h2 ⊢; omega] at hv4;obtain ⟨b',A',k',c',rfl,H'⟩:=hv4.open_;have hb:=Ac hB3.out hb4;obtain ⟨hc0,hc1,hf0,hf1,hs⟩:=Ax HH.out.2.2 hb;have HE:=Lib.hid (Cu (x':=.bool b') (y':=.slice A' k' c') HH.out.2.2 hb H'.out HW.out (by omega));clear hb hb4
  go_wp2
  refine bodyPost_ret (v:=.agg #[.bool b',.slice A' k' c']) (by simp [results,Tryz.results134,go_sem,hc0,hc1]) rfl ⟨_,rfl,HE.out.1,HE.out.2⟩
 ·have HH:=Lib.hid (EW w (.cells #[.bool false,.slice A (len x) c] 34) (.cells #[.bool true,.slice B (len y) d] 34) (.cells #[.bool false,.slice none 0 0] 34))
  have HW:=Lib.hid (D8 w (.cells #[.bool false,.slice A (len x) c] 34) (.cells #[.bool true,.slice B (len y) d] 34) (.cells #[.bool false,.slice none 0 0] 34))
  go_enter Tryz.func134,Tryz.ntmps134
  go_wp2_with fail
  generalize ((w.alloc (.cells #[.bool false,.slice A (len x) c] 34)).alloc (.cells #[.bool true,.slice B (len y) d] 34)).alloc (.cells #[.bool false,.slice none 0 0] 34)=W at *;refine (BC _ a x false _ (HIA.out.into HW.out) HX.out HP.out (by omega)).mono ?_
  rintro e w1 ⟨A1,c1,rfl,H1,hb1⟩
  have hB1:=Lib.hid hb1;obtain ⟨hc0,hc1,hf0,hf1,hs⟩:=Ax HH.out.2.1 hb1;clear hb1
  go_wp2_with fail
  refine (BC _ b y true _ (HIB.out.into (Ac HW.out hB1.out)) HY.out HQ.out (by omega)).mono ?_
  rintro e w2 ⟨B1,d1,rfl,H2,hb2⟩
  have hB2:=Lib.hid (Ac hB1.out hb2);have H1':=Lib.hid (H1.out.into hb2);clear hb2 hc0 hc1 hf0 hf1 hs hB1 H1
  go_wp2_with fail
  refine (Fj _ _ _ _ x y _ H1'.out.mem.2.2 H2.out.mem.2.2 hla hlb).mono ?_
  rintro e w2' ⟨rfl,nd,rfl⟩
  have hbd:=BE w2 nd;have hB2':=Lib.hid (Ac hB2.out hbd);have H1:=Lib.hid (H1'.out.into hbd);have H2':=Lib.hid (H2.out.into hbd);clear hbd hB2 H1' H2
  rcases Nat.lt_or_ge x y with hlt | hge
  ·rw [Hi hlt]
   go_wp2_with fail
   refine (Ci _ _ y x _ H2'.out H1.out hlb (by omega)).mono ?_
   rintro e w3 ⟨v3,rfl,hv3,hb3⟩
   have hB3:=Lib.hid (Ac hB2'.out hb3);clear hb3 hB2'
   go_wp2_with fail
   refine (Bb true v3 (y - x) _ hv3 (by have:=AY (Nat.sub_le y x); omega)).mono ?_
   rintro e w4 ⟨v4,rfl,hv4,hb4⟩
   rw [show BK true (y - x)=a+b from by have h1:=SA.out; have h2:=SB.out; simp only [BK] at h1 h2 ⊢; simp at h1 h2 ⊢; omega] at hv4;obtain ⟨b',A',k',c',rfl,H'⟩:=hv4.open_;have hb:=Ac hB3.out hb4;obtain ⟨hc0,hc1,hf0,hf1,hs⟩:=Ax HH.out.2.2 hb;have HE:=Lib.hid (Cu (x':=.bool b') (y':=.slice A' k' c') HH.out.2.2 hb H'.out HW.out (by omega));clear hb hb4
   go_wp2
   refine bodyPost_ret (v:=.agg #[.bool b',.slice A' k' c']) (by simp [results,Tryz.results134,go_sem,hc0,hc1]) rfl ⟨_,rfl,HE.out.1,HE.out.2⟩
  ·obtain ⟨v,hv,hv0⟩:∃ v:Int,GC x y=v∧0≤v:=⟨_,rfl,by rcases Nat.lt_or_ge y x with h | h; rw [FB h]; omega; rw [Gc (by omega)]; omega⟩
   rw [hv];clear hv
   go_wp2_with fail
   refine (Ci _ _ x y _ H1.out H2'.out hla hge).mono ?_
   rintro e w3 ⟨v3,rfl,hv3,hb3⟩
   have hB3:=Lib.hid (Ac hB2'.out hb3);clear hb3 hB2'
   go_wp2_with fail
   refine (Bb false v3 (x - y) _ hv3 (by have:=AY (Nat.sub_le x y); omega)).mono ?_
   rintro e w4 ⟨v4,rfl,hv4,hb4⟩
   rw [show BK false (x - y)=a+b from by have h1:=SA.out; have h2:=SB.out; simp only [BK] at h1 h2 ⊢; simp at h1 h2 ⊢; omega] at hv4;obtain ⟨b',A',k',c',rfl,H'⟩:=hv4.open_;have hb:=Ac hB3.out hb4;obtain ⟨hc0,hc1,hf0,hf1,hs⟩:=Ax HH.out.2.2 hb;have HE:=Lib.hid (Cu (x':=.bool b') (y':=.slice A' k' c') HH.out.2.2 hb H'.out HW.out (by omega));clear hb hb4
   go_wp2
   refine bodyPost_ret (v:=.agg #[.bool b',.slice A' k' c']) (by simp [results,Tryz.results134,go_sem,hc0,hc1]) rfl ⟨_,rfl,HE.out.1,HE.out.2⟩
 ·have HH:=Lib.hid (EW w (.cells #[.bool true,.slice A (len x) c] 34) (.cells #[.bool false,.slice B (len y) d] 34) (.cells #[.bool false,.slice none 0 0] 34))
  have HW:=Lib.hid (D8 w (.cells #[.bool true,.slice A (len x) c] 34) (.cells #[.bool false,.slice B (len y) d] 34) (.cells #[.bool false,.slice none 0 0] 34))
  go_enter Tryz.func134,Tryz.ntmps134
  go_wp2_with fail
  generalize ((w.alloc (.cells #[.bool true,.slice A (len x) c] 34)).alloc (.cells #[.bool false,.slice B (len y) d] 34)).alloc (.cells #[.bool false,.slice none 0 0] 34)=W at *;refine (BC _ a x true _ (HIA.out.into HW.out) HX.out HP.out (by omega)).mono ?_
  rintro e w1 ⟨A1,c1,rfl,H1,hb1⟩
  have hB1:=Lib.hid hb1;obtain ⟨hc0,hc1,hf0,hf1,hs⟩:=Ax HH.out.2.1 hb1;clear hb1
  go_wp2_with fail
  refine (BC _ b y false _ (HIB.out.into (Ac HW.out hB1.out)) HY.out HQ.out (by omega)).mono ?_
  rintro e w2 ⟨B1,d1,rfl,H2,hb2⟩
  have hB2:=Lib.hid (Ac hB1.out hb2);have H1':=Lib.hid (H1.out.into hb2);clear hb2 hc0 hc1 hf0 hf1 hs hB1 H1
  go_wp2_with fail
  refine (Fj _ _ _ _ x y _ H1'.out.mem.2.2 H2.out.mem.2.2 hla hlb).mono ?_
  rintro e w2' ⟨rfl,nd,rfl⟩
  have hbd:=BE w2 nd;have hB2':=Lib.hid (Ac hB2.out hbd);have H1:=Lib.hid (H1'.out.into hbd);have H2':=Lib.hid (H2.out.into hbd);clear hbd hB2 H1' H2
  rcases Nat.lt_or_ge x y with hlt | hge
  ·rw [Hi hlt]
   go_wp2_with fail
   refine (Ci _ _ y x _ H2'.out H1.out hlb (by omega)).mono ?_
   rintro e w3 ⟨v3,rfl,hv3,hb3⟩
   have hB3:=Lib.hid (Ac hB2'.out hb3);clear hb3 hB2'
   go_wp2_with fail
   refine (Bb false v3 (y - x) _ hv3 (by have:=AY (Nat.sub_le y x); omega)).mono ?_
   rintro e w4 ⟨v4,rfl,hv4,hb4⟩
   rw [show BK false (y - x)=a+b from by have h1:=SA.out; have h2:=SB.out; simp only [BK] at h1 h2 ⊢; simp at h1 h2 ⊢; omega] at hv4;obtain ⟨b',A',k',c',rfl,H'⟩:=hv4.open_;have hb:=Ac hB3.out hb4;obtain ⟨hc0,hc1,hf0,hf1,hs⟩:=Ax HH.out.2.2 hb;have HE:=Lib.hid (Cu (x':=.bool b') (y':=.slice A' k' c') HH.out.2.2 hb H'.out HW.out (by omega));clear hb hb4
   go_wp2
   refine bodyPost_ret (v:=.agg #[.bool b',.slice A' k' c']) (by simp [results,Tryz.results134,go_sem,hc0,hc1]) rfl ⟨_,rfl,HE.out.1,HE.out.2⟩
  ·obtain ⟨v,hv,hv0⟩:∃ v:Int,GC x y=v∧0≤v:=⟨_,rfl,by rcases Nat.lt_or_ge y x with h | h; rw [FB h]; omega; rw [Gc (by omega)]; omega⟩
   rw [hv];clear hv
   go_wp2_with fail
   refine (Ci _ _ x y _ H1.out H2'.out hla hge).mono ?_
   rintro e w3 ⟨v3,rfl,hv3,hb3⟩
   have hB3:=Lib.hid (Ac hB2'.out hb3);clear hb3 hB2'
   go_wp2_with fail
   refine (Bb true v3 (x - y) _ hv3 (by have:=AY (Nat.sub_le x y); omega)).mono ?_
   rintro e w4 ⟨v4,rfl,hv4,hb4⟩
   rw [show BK true (x - y)=a+b from by have h1:=SA.out; have h2:=SB.out; simp only [BK] at h1 h2 ⊢; simp at h1 h2 ⊢; omega] at hv4;obtain ⟨b',A',k',c',rfl,H'⟩:=hv4.open_;have hb:=Ac hB3.out hb4;obtain ⟨hc0,hc1,hf0,hf1,hs⟩:=Ax HH.out.2.2 hb;have HE:=Lib.hid (Cu (x':=.bool b') (y':=.slice A' k' c') HH.out.2.2 hb H'.out HW.out (by omega));clear hb hb4
   go_wp2
   refine bodyPost_ret (v:=.agg #[.bool b',.slice A' k' c']) (by simp [results,Tryz.results134,go_sem,hc0,hc1]) rfl ⟨_,rfl,HE.out.1,HE.out.2⟩
 ·have HH:=Lib.hid (EW w (.cells #[.bool true,.slice A (len x) c] 34) (.cells #[.bool true,.slice B (len y) d] 34) (.cells #[.bool false,.slice none 0 0] 34))
  have HW:=Lib.hid (D8 w (.cells #[.bool true,.slice A (len x) c] 34) (.cells #[.bool true,.slice B (len y) d] 34) (.cells #[.bool false,.slice none 0 0] 34))
  go_enter Tryz.func134,Tryz.ntmps134
  go_wp2_with fail
  generalize ((w.alloc (.cells #[.bool true,.slice A (len x) c] 34)).alloc (.cells #[.bool true,.slice B (len y) d] 34)).alloc (.cells #[.bool false,.slice none 0 0] 34)=W at *;refine (BC _ a x true _ (HIA.out.into HW.out) HX.out HP.out (by omega)).mono ?_
  rintro e w1 ⟨A1,c1,rfl,H1,hb1⟩
  have hB1:=Lib.hid hb1;obtain ⟨hc0,hc1,hf0,hf1,hs⟩:=Ax HH.out.2.1 hb1;clear hb1
  go_wp2_with fail
  refine (BC _ b y true _ (HIB.out.into (Ac HW.out hB1.out)) HY.out HQ.out (by omega)).mono ?_
  rintro e w2 ⟨B1,d1,rfl,H2,hb2⟩
  have hB2:=Lib.hid (Ac hB1.out hb2);have H1':=Lib.hid (H1.out.into hb2);clear hb2 hc0 hc1 hf0 hf1 hs hB1 H1
  go_wp2_with fail
  refine (Lh _ _ x y _ H1'.out H2.out hla hlb).mono ?_
  rintro e w3 ⟨v3,rfl,hv3,hb3⟩
  have hB3:=Lib.hid (Ac hB2.out hb3);clear hb3 hB2
  go_wp2_with fail
  refine (Bb true v3 (x+y) _ hv3 (by have:=Fo x y; omega)).mono ?_
  rintro e w4 ⟨v4,rfl,hv4,hb4⟩
  rw [show BK true (x+y)=a+b from by have h1:=SA.out; have h2:=SB.out; simp only [BK] at h1 h2 ⊢; simp at h1 h2 ⊢; omega] at hv4;obtain ⟨b',A',k',c',rfl,H'⟩:=hv4.open_;have hb:=Ac hB3.out hb4;obtain ⟨hc0,hc1,hf0,hf1,hs⟩:=Ax HH.out.2.2 hb;have HE:=Lib.hid (Cu (x':=.bool b') (y':=.slice A' k' c') HH.out.2.2 hb H'.out HW.out (by omega));clear hb hb4
  go_wp2
  refine bodyPost_ret (v:=.agg #[.bool b',.slice A' k' c']) (by simp [results,Tryz.results134,go_sem,hc0,hc1]) rfl ⟨_,rfl,HE.out.1,HE.out.2⟩
end Go.Proofs.YtdopbgnkneeceaaGreat
