/- Walks: Of, Sign, Neg, Mul on integers. -/
import Derived.Test.YtgaehhapjnbieaaGreatqW3
set_option linter.unusedSectionVars false
set_option linter.unusedVariables false
set_option linter.unusedSimpArgs false
set_option maxRecDepth 100000
namespace Go.Proofs.YtgaehhapjnbieaaGreat
open Go.RowKit
theorem Vd(n:Nat)(hn:n≤9223372036854775808)(h1:0<n):IntKind.u64.wrap (-IntKind.u64.wrap (-(n:Int)))=(n:Int):=by
 rw [IntKind.wrap_u64,IntKind.wrap_u64]; omega
set_option maxHeartbeats 400000 in
theorem Aji(n:Nat)(w:World)(hn:n≤9223372036854775808)(h1:0<n) :
  Calls Tryz.prog 106 #[.int .i64 (-(n:Int))] w (Bx (Ce true n) w):=by
 have h0:decide (-(n:Int)<0)=true:=by simp; omega
 have hl:len n≤2:=FU (by omega)
 go_enter Tryz.func106,Tryz.ntmps106
 go_wp2_with fail
 rw [Vd n hn h1];refine (DO n _ (by omega)).mono ?_
 rintro e w1 ⟨v,rfl,hv,hb⟩
 go_wp2_with fail
 refine (Bs true v n _ hv (by omega)).mono ?_
 rintro e w2 ⟨v2,rfl,hv2,hb2⟩
 obtain ⟨b,A,k,c,rfl,H⟩:=hv2.open_;have hB:=Ab hb hb2;obtain ⟨hc0,hc1,hf0,hf1,hs⟩:=PT hB;have HE:=Lib.hid (DV (x':=.bool b) (y':=.slice A k c) hB H.out);clear hB
 go_wp2
 refine bodyPost_ret (v:=.agg #[.bool b,.slice A k c]) (by simp [results,Tryz.results106,go_sem,hc0,hc1]) rfl ⟨_,rfl,HE.out.1,HE.out.2⟩
theorem Ajt(z:Int)(w:World)(h0 : -9223372036854775808≤z)(h1:z≤9223372036854775807):Calls Tryz.prog 106 #[.int .i64 z] w (Bx z w):=by
 rcases Int.lt_or_le z 0 with h | h
 ·obtain ⟨n,rfl⟩:∃ n:Nat,z = -(n:Int):=⟨z.natAbs,by omega⟩
  exact Aji n w (by omega) (by omega)
 ·obtain ⟨n,rfl⟩:=Int.eq_ofNat_of_zero_le h
  exact nF n w (by omega)
set_option maxHeartbeats 400000 in
theorem uF(v:Value)(z:Int)(w:World)(h:Aw w v z)(hl:len z.natAbs≤1099511627776) :
    Calls Tryz.prog 112 #[v] w λe w'=>e = .returned (.int .i64 z.sign)∧Below w.heap.size w w':=by
  obtain ⟨n,hn⟩:∃ n,z.natAbs=n:=⟨_,rfl⟩
  obtain ⟨b,hb⟩:∃ b,decide (z<0)=b:=⟨_,rfl⟩
  obtain ⟨A,c,rfl,H⟩:=h.parts_ hn hb
  have HI:=Lib.hid (Aw.back H.out hn hb)
  rw [hn] at hl
  have HN:=Lib.hid hn
  have HB:=Lib.hid hb
  clear hn hb h
  cases b
  all_goals
    go_enter Tryz.func112,Tryz.ntmps112
    go_wp2_with fail
    refine (Bq _ z n _ _ (HI.out.into (Aj _ _)) HN.out HB.out (by omega)).mono ?_
    rintro e w1 ⟨A1,c1,rfl,H1,hb1⟩
    have HD:=Lib.hid (Ab (Aj _ _) hb1)
    clear hb1
  · rcases Nat.eq_zero_or_pos n with h0 | h0
    · have hz : z.sign = 0 := by have:=HN.out; have:z=0:=by omega
                                 rw [this]; rfl
      have HZ:=Lib.hid hz
      clear hz
      subst h0
      rw [Bi] at *
      go_wp2
      go_ret
      rw [HZ.out]
      exact ⟨rfl,HD.out⟩
    · have hz:z.sign=1:=Int.sign_eq_one_of_pos (by have:=HN.out; have:=of_decide_eq_false HB.out; omega)
      have HZ:=Lib.hid hz
      clear hz
      have hne:((len n:Int) == 0)=false:=by
        have:len n≠0:=λh=>by have:=Bh.1 h; omega
        simp; omega
      go_wp2
      go_ret
      rw [HZ.out]
      exact ⟨rfl,HD.out⟩
  · have hz:z.sign = -1:=Int.sign_eq_neg_one_of_neg (of_decide_eq_true HB.out)
    have HZ:=Lib.hid hz
    clear hz
    go_wp2
    go_ret
    rw [HZ.out]
    exact ⟨rfl,HD.out⟩
set_option maxHeartbeats 400000 in
theorem AdT(v:Value)(z:Int)(w:World)(h:Aw w v z)(hl:len z.natAbs≤1099511627776) :
  Calls Tryz.prog 123 #[v] w (Bx (-z) w):=by
 obtain ⟨n,hn⟩:∃ n,z.natAbs=n:=⟨_,rfl⟩;obtain ⟨b,hb⟩:∃ b,decide (z<0)=b:=⟨_,rfl⟩;obtain ⟨A,c,rfl,H⟩:=h.parts_ hn hb;have hz:Ce (!b) n = -z:=by
  subst hn hb
  by_cases h:z<0
  ·simp [Ce,h]; omega
  ·simp [Ce,h]; omega
 have HZ:=Lib.hid hz;rw [hn] at hl;clear hn hb h hz
 go_enter Tryz.func123,Tryz.ntmps123
 go_wp2_with fail
 refine (Bs (!b) _ n _ (H.out.into (Fc _ _ _)) (by omega)).mono ?_
 rintro e w2 ⟨v2,rfl,hv2,hb2⟩
 rw [HZ.out] at hv2;obtain ⟨b',A',k',c',rfl,H'⟩:=hv2.open_;have hg:=(ML w (.cells #[.bool b,.slice A (len n) c] 34) (.cells #[.bool false,.slice none 0 0] 34)).2;obtain ⟨hc0,hc1,hf0,hf1,hs⟩:=AG hg hb2;have HE:=Lib.hid (Dg (x':=.bool b') (y':=.slice A' k' c') hg hb2 H'.out (Fc _ _ _) (by omega));clear hg hb2
 go_wp2
 refine bodyPost_ret (v:=.agg #[.bool b',.slice A' k' c']) (by simp [results,Tryz.results123,go_sem,hc0,hc1]) rfl ⟨_,rfl,HE.out.1,HE.out.2⟩
theorem Acv(a b:Int):Ce (decide (a<0) != decide (b<0)) (a.natAbs*b.natAbs)=a*b:=by
 have h:∀(p q:Bool)(x y:Nat),Ce (p != q) (x*y)=Ce p x*Ce q y:=by
  intro p q x y
  cases p <;> cases q <;> simp [Ce,Int.neg_mul,Int.mul_neg]
 rw [h,CK,CK]
set_option maxHeartbeats 800000 in
theorem Ad2(va vb:Value)(a b:Int)(w:World)(ha:Aw w va a)(hb:Aw w vb b)(hla:len a.natAbs≤1099511627776)(hlb:len b.natAbs≤1099511627776) :
  Calls Tryz.prog 104 #[va,vb] w (Bx (a*b) w):=by
 obtain ⟨x,hx⟩:∃ n,a.natAbs=n:=⟨_,rfl⟩;obtain ⟨y,hy⟩:∃ n,b.natAbs=n:=⟨_,rfl⟩;obtain ⟨p,hp⟩:∃ s,decide (a<0)=s:=⟨_,rfl⟩;obtain ⟨q,hq⟩:∃ s,decide (b<0)=s:=⟨_,rfl⟩;have hz:=Acv a b;rw [hx,hy,hp,hq] at hz;rw [hx] at hla;rw [hy] at hlb;obtain ⟨A,c,rfl,HA⟩:=ha.parts_ hx hp;obtain ⟨B,d,rfl,HB⟩:=hb.parts_ hy hq;have HIA:=Lib.hid (Aw.back HA.out hx hp);have HIB:=Lib.hid (Aw.back HB.out hy hq);have HX:=Lib.hid hx;have HY:=Lib.hid hy;have HP:=Lib.hid hp;have HQ:=Lib.hid hq;have HZ:=Lib.hid hz;clear hx hy hp hq hz ha hb HA HB;have HH:=Lib.hid (Gj w (.cells #[.bool p,.slice A (len x) c] 34) (.cells #[.bool q,.slice B (len y) d] 34) (.cells #[.bool false,.slice none 0 0] 34));have HW:=Lib.hid (Fd w (.cells #[.bool p,.slice A (len x) c] 34) (.cells #[.bool q,.slice B (len y) d] 34) (.cells #[.bool false,.slice none 0 0] 34))
 go_enter Tryz.func104,Tryz.ntmps104
 go_wp2_with fail
 generalize ((w.alloc (.cells #[.bool p,.slice A (len x) c] 34)).alloc (.cells #[.bool q,.slice B (len y) d] 34)).alloc (.cells #[.bool false,.slice none 0 0] 34)=W at *;refine (Bq _ a x p _ (HIA.out.into HW.out) HX.out HP.out (by omega)).mono ?_
 rintro e w1 ⟨A1,c1,rfl,H1,hb1⟩
 have hB1:=Lib.hid hb1;obtain ⟨hc0,hc1,hf0,hf1,hs⟩:=AG HH.out.2.1 hb1;clear hb1
 go_wp2_with fail
 refine (Bq _ b y q _ (HIB.out.into (Ab HW.out hB1.out)) HY.out HQ.out (by omega)).mono ?_
 rintro e w2 ⟨B1,d1,rfl,H2,hb2⟩
 have hB2:=Lib.hid hb2;clear hb2 hc0 hc1 hf0 hf1 hs
 go_wp2_with fail
 refine (W9 _ _ x y _ (H1.out.into hB2.out) H2.out hla hlb).mono ?_
 rintro e w3 ⟨v3,rfl,hv3,hb3⟩
 have hB3:=Lib.hid (Ab (Ab hB1.out hB2.out) hb3);clear hb3 hB1 hB2
 go_wp2_with fail
 refine (Bs (p != q) v3 (x*y) _ hv3 (by have:=AfS x y; omega)).mono ?_
 rintro e w4 ⟨v4,rfl,hv4,hb4⟩
 rw [HZ.out] at hv4;obtain ⟨b',A',k',c',rfl,H'⟩:=hv4.open_;have hb:=Ab hB3.out hb4;obtain ⟨hc0,hc1,hf0,hf1,hs⟩:=AG HH.out.2.2 hb;have HE:=Lib.hid (Dg (x':=.bool b') (y':=.slice A' k' c') HH.out.2.2 hb H'.out HW.out (by omega));clear hb hb4
 go_wp2
 refine bodyPost_ret (v:=.agg #[.bool b',.slice A' k' c']) (by simp [results,Tryz.results104,go_sem,hc0,hc1]) rfl ⟨_,rfl,HE.out.1,HE.out.2⟩
set_option maxHeartbeats 1600000 in
theorem AdI(va vb:Value)(a b:Int)(w:World)(ha:Aw w va a)(hb:Aw w vb b)(hla:len a.natAbs≤1099511627776)(hlb:len b.natAbs≤1099511627776) :
  Calls Tryz.prog 135 #[va,vb] w (Bx (a+b) w):=by
 obtain ⟨x,hx⟩:∃ n,a.natAbs=n:=⟨_,rfl⟩;obtain ⟨y,hy⟩:∃ n,b.natAbs=n:=⟨_,rfl⟩;obtain ⟨p,hp⟩:∃ s,decide (a<0)=s:=⟨_,rfl⟩;obtain ⟨q,hq⟩:∃ s,decide (b<0)=s:=⟨_,rfl⟩;have sa:=CK a;have sb:=CK b;rw [hx,hp] at sa;rw [hy,hq] at sb;rw [hx] at hla;rw [hy] at hlb;obtain ⟨A,c,rfl,HA⟩:=ha.parts_ hx hp;obtain ⟨B,d,rfl,HB⟩:=hb.parts_ hy hq;have HIA:=Lib.hid (Aw.back HA.out hx hp);have HIB:=Lib.hid (Aw.back HB.out hy hq);have HX:=Lib.hid hx;have HY:=Lib.hid hy;have HP:=Lib.hid hp;have HQ:=Lib.hid hq;have SA:=Lib.hid sa;have SB:=Lib.hid sb;clear hx hy hp hq ha hb HA HB sa sb
 cases p <;> cases q
 ·have HH:=Lib.hid (Gj w (.cells #[.bool false,.slice A (len x) c] 34) (.cells #[.bool false,.slice B (len y) d] 34) (.cells #[.bool false,.slice none 0 0] 34))
  have HW:=Lib.hid (Fd w (.cells #[.bool false,.slice A (len x) c] 34) (.cells #[.bool false,.slice B (len y) d] 34) (.cells #[.bool false,.slice none 0 0] 34))
  go_enter Tryz.func135,Tryz.ntmps135
  go_wp2_with fail
  generalize ((w.alloc (.cells #[.bool false,.slice A (len x) c] 34)).alloc (.cells #[.bool false,.slice B (len y) d] 34)).alloc (.cells #[.bool false,.slice none 0 0] 34)=W at *;refine (Bq _ a x false _ (HIA.out.into HW.out) HX.out HP.out (by omega)).mono ?_
  rintro e w1 ⟨A1,c1,rfl,H1,hb1⟩
  have hB1:=Lib.hid hb1;obtain ⟨hc0,hc1,hf0,hf1,hs⟩:=AG HH.out.2.1 hb1;clear hb1
  go_wp2_with fail
  refine (Bq _ b y false _ (HIB.out.into (Ab HW.out hB1.out)) HY.out HQ.out (by omega)).mono ?_
  rintro e w2 ⟨B1,d1,rfl,H2,hb2⟩
  have hB2:=Lib.hid (Ab hB1.out hb2);have H1':=Lib.hid (H1.out.into hb2);clear hb2 hc0 hc1 hf0 hf1 hs hB1 H1
  go_wp2_with fail
  refine (NI _ _ x y _ H1'.out H2.out hla hlb).mono ?_
  rintro e w3 ⟨v3,rfl,hv3,hb3⟩
  have hB3:=Lib.hid (Ab hB2.out hb3);clear hb3 hB2
  go_wp2_with fail
  refine (Bs false v3 (x+y) _ hv3 (by have:=Gx x y; omega)).mono ?_
  rintro e w4 ⟨v4,rfl,hv4,hb4⟩
  rw [show Ce false (x+y)=a+b from by have h1:=SA.out; have h2:=SB.out; simp only [Ce] at h1 h2 ⊢; simp at h1 h2 ⊢; omega] at hv4;obtain ⟨b',A',k',c',rfl,H'⟩:=hv4.open_;have hb:=Ab hB3.out hb4;obtain ⟨hc0,hc1,hf0,hf1,hs⟩:=AG HH.out.2.2 hb;have HE:=Lib.hid (Dg (x':=.bool b') (y':=.slice A' k' c') HH.out.2.2 hb H'.out HW.out (by omega));clear hb hb4
  go_wp2
  refine bodyPost_ret (v:=.agg #[.bool b',.slice A' k' c']) (by simp [results,Tryz.results135,go_sem,hc0,hc1]) rfl ⟨_,rfl,HE.out.1,HE.out.2⟩
 ·have HH:=Lib.hid (Gj w (.cells #[.bool false,.slice A (len x) c] 34) (.cells #[.bool true,.slice B (len y) d] 34) (.cells #[.bool false,.slice none 0 0] 34))
  have HW:=Lib.hid (Fd w (.cells #[.bool false,.slice A (len x) c] 34) (.cells #[.bool true,.slice B (len y) d] 34) (.cells #[.bool false,.slice none 0 0] 34))
  go_enter Tryz.func135,Tryz.ntmps135
  go_wp2_with fail
  generalize ((w.alloc (.cells #[.bool false,.slice A (len x) c] 34)).alloc (.cells #[.bool true,.slice B (len y) d] 34)).alloc (.cells #[.bool false,.slice none 0 0] 34)=W at *;refine (Bq _ a x false _ (HIA.out.into HW.out) HX.out HP.out (by omega)).mono ?_
  rintro e w1 ⟨A1,c1,rfl,H1,hb1⟩
  have hB1:=Lib.hid hb1;obtain ⟨hc0,hc1,hf0,hf1,hs⟩:=AG HH.out.2.1 hb1;clear hb1
  go_wp2_with fail
  refine (Bq _ b y true _ (HIB.out.into (Ab HW.out hB1.out)) HY.out HQ.out (by omega)).mono ?_
  rintro e w2 ⟨B1,d1,rfl,H2,hb2⟩
  have hB2:=Lib.hid (Ab hB1.out hb2);have H1':=Lib.hid (H1.out.into hb2);clear hb2 hc0 hc1 hf0 hf1 hs hB1 H1
  go_wp2_with fail
  refine (Ek _ _ _ _ x y _ H1'.out.mem.2.2 H2.out.mem.2.2 hla hlb).mono ?_
  rintro e w2' ⟨rfl,nd,rfl⟩
  have hbd:=BP w2 nd;have hB2':=Lib.hid (Ab hB2.out hbd);have H1:=Lib.hid (H1'.out.into hbd);have H2':=Lib.hid (H2.out.into hbd);clear hbd hB2 H1' H2
  rcases Nat.lt_or_ge x y with hlt | hge
  ·rw [GF hlt]
   go_wp2_with fail
   refine (C4 _ _ y x _ H2'.out H1.out hlb (by omega)).mono ?_
   rintro e w3 ⟨v3,rfl,hv3,hb3⟩
   have hB3:=Lib.hid (Ab hB2'.out hb3);clear hb3 hB2'
   go_wp2_with fail
   refine (Bs true v3 (y - x) _ hv3 (by have:=Bm (Nat.sub_le y x); omega)).mono ?_
   rintro e w4 ⟨v4,rfl,hv4,hb4⟩
   rw [show Ce true (y - x)=a+b from by have h1:=SA.out; have h2:=SB.out; simp only [Ce] at h1 h2 ⊢; simp at h1 h2 ⊢; omega] at hv4;obtain ⟨b',A',k',c',rfl,H'⟩:=hv4.open_;have hb:=Ab hB3.out hb4;obtain ⟨hc0,hc1,hf0,hf1,hs⟩:=AG HH.out.2.2 hb;have HE:=Lib.hid (Dg (x':=.bool b') (y':=.slice A' k' c') HH.out.2.2 hb H'.out HW.out (by omega));clear hb hb4
   go_wp2
   refine bodyPost_ret (v:=.agg #[.bool b',.slice A' k' c']) (by simp [results,Tryz.results135,go_sem,hc0,hc1]) rfl ⟨_,rfl,HE.out.1,HE.out.2⟩
  ·obtain ⟨v,hv,hv0⟩:∃ v:Int,G5 x y=v∧0≤v:=⟨_,rfl,by rcases Nat.lt_or_ge y x with h | h; rw [Fk h]; omega; rw [FH (by omega)]; omega⟩
   rw [hv];clear hv
   go_wp2_with fail
   refine (C4 _ _ x y _ H1.out H2'.out hla hge).mono ?_
   rintro e w3 ⟨v3,rfl,hv3,hb3⟩
   have hB3:=Lib.hid (Ab hB2'.out hb3);clear hb3 hB2'
   go_wp2_with fail
   refine (Bs false v3 (x - y) _ hv3 (by have:=Bm (Nat.sub_le x y); omega)).mono ?_
   rintro e w4 ⟨v4,rfl,hv4,hb4⟩
   rw [show Ce false (x - y)=a+b from by have h1:=SA.out; have h2:=SB.out; simp only [Ce] at h1 h2 ⊢; simp at h1 h2 ⊢; omega] at hv4;obtain ⟨b',A',k',c',rfl,H'⟩:=hv4.open_;have hb:=Ab hB3.out hb4;obtain ⟨hc0,hc1,hf0,hf1,hs⟩:=AG HH.out.2.2 hb;have HE:=Lib.hid (Dg (x':=.bool b') (y':=.slice A' k' c') HH.out.2.2 hb H'.out HW.out (by omega));clear hb hb4
   go_wp2
   refine bodyPost_ret (v:=.agg #[.bool b',.slice A' k' c']) (by simp [results,Tryz.results135,go_sem,hc0,hc1]) rfl ⟨_,rfl,HE.out.1,HE.out.2⟩
 ·have HH:=Lib.hid (Gj w (.cells #[.bool true,.slice A (len x) c] 34) (.cells #[.bool false,.slice B (len y) d] 34) (.cells #[.bool false,.slice none 0 0] 34))
  have HW:=Lib.hid (Fd w (.cells #[.bool true,.slice A (len x) c] 34) (.cells #[.bool false,.slice B (len y) d] 34) (.cells #[.bool false,.slice none 0 0] 34))
  go_enter Tryz.func135,Tryz.ntmps135
  go_wp2_with fail
  generalize ((w.alloc (.cells #[.bool true,.slice A (len x) c] 34)).alloc (.cells #[.bool false,.slice B (len y) d] 34)).alloc (.cells #[.bool false,.slice none 0 0] 34)=W at *;refine (Bq _ a x true _ (HIA.out.into HW.out) HX.out HP.out (by omega)).mono ?_
  rintro e w1 ⟨A1,c1,rfl,H1,hb1⟩
  have hB1:=Lib.hid hb1;obtain ⟨hc0,hc1,hf0,hf1,hs⟩:=AG HH.out.2.1 hb1;clear hb1
  go_wp2_with fail
  refine (Bq _ b y false _ (HIB.out.into (Ab HW.out hB1.out)) HY.out HQ.out (by omega)).mono ?_
  rintro e w2 ⟨B1,d1,rfl,H2,hb2⟩
  have hB2:=Lib.hid (Ab hB1.out hb2);have H1':=Lib.hid (H1.out.into hb2);clear hb2 hc0 hc1 hf0 hf1 hs hB1 H1
  go_wp2_with fail
  refine (Ek _ _ _ _ x y _ H1'.out.mem.2.2 H2.out.mem.2.2 hla hlb).mono ?_
  rintro e w2' ⟨rfl,nd,rfl⟩
  have hbd:=BP w2 nd;have hB2':=Lib.hid (Ab hB2.out hbd);have H1:=Lib.hid (H1'.out.into hbd);have H2':=Lib.hid (H2.out.into hbd);clear hbd hB2 H1' H2
  rcases Nat.lt_or_ge x y with hlt | hge
  ·rw [GF hlt]
   go_wp2_with fail
   refine (C4 _ _ y x _ H2'.out H1.out hlb (by omega)).mono ?_
   rintro e w3 ⟨v3,rfl,hv3,hb3⟩
   have hB3:=Lib.hid (Ab hB2'.out hb3);clear hb3 hB2'
   go_wp2_with fail
   refine (Bs false v3 (y - x) _ hv3 (by have:=Bm (Nat.sub_le y x); omega)).mono ?_
   rintro e w4 ⟨v4,rfl,hv4,hb4⟩
   rw [show Ce false (y - x)=a+b from by have h1:=SA.out; have h2:=SB.out; simp only [Ce] at h1 h2 ⊢; simp at h1 h2 ⊢; omega] at hv4;obtain ⟨b',A',k',c',rfl,H'⟩:=hv4.open_;have hb:=Ab hB3.out hb4;obtain ⟨hc0,hc1,hf0,hf1,hs⟩:=AG HH.out.2.2 hb;have HE:=Lib.hid (Dg (x':=.bool b') (y':=.slice A' k' c') HH.out.2.2 hb H'.out HW.out (by omega));clear hb hb4
   go_wp2
   refine bodyPost_ret (v:=.agg #[.bool b',.slice A' k' c']) (by simp [results,Tryz.results135,go_sem,hc0,hc1]) rfl ⟨_,rfl,HE.out.1,HE.out.2⟩
  ·obtain ⟨v,hv,hv0⟩:∃ v:Int,G5 x y=v∧0≤v:=⟨_,rfl,by rcases Nat.lt_or_ge y x with h | h; rw [Fk h]; omega; rw [FH (by omega)]; omega⟩
   rw [hv];clear hv
   go_wp2_with fail
   refine (C4 _ _ x y _ H1.out H2'.out hla hge).mono ?_
   rintro e w3 ⟨v3,rfl,hv3,hb3⟩
   have hB3:=Lib.hid (Ab hB2'.out hb3);clear hb3 hB2'
   go_wp2_with fail
   refine (Bs true v3 (x - y) _ hv3 (by have:=Bm (Nat.sub_le x y); omega)).mono ?_
   rintro e w4 ⟨v4,rfl,hv4,hb4⟩
   rw [show Ce true (x - y)=a+b from by have h1:=SA.out; have h2:=SB.out; simp only [Ce] at h1 h2 ⊢; simp at h1 h2 ⊢; omega] at hv4;obtain ⟨b',A',k',c',rfl,H'⟩:=hv4.open_;have hb:=Ab hB3.out hb4;obtain ⟨hc0,hc1,hf0,hf1,hs⟩:=AG HH.out.2.2 hb;have HE:=Lib.hid (Dg (x':=.bool b') (y':=.slice A' k' c') HH.out.2.2 hb H'.out HW.out (by omega));clear hb hb4
   go_wp2
   refine bodyPost_ret (v:=.agg #[.bool b',.slice A' k' c']) (by simp [results,Tryz.results135,go_sem,hc0,hc1]) rfl ⟨_,rfl,HE.out.1,HE.out.2⟩
 ·have HH:=Lib.hid (Gj w (.cells #[.bool true,.slice A (len x) c] 34) (.cells #[.bool true,.slice B (len y) d] 34) (.cells #[.bool false,.slice none 0 0] 34))
  have HW:=Lib.hid (Fd w (.cells #[.bool true,.slice A (len x) c] 34) (.cells #[.bool true,.slice B (len y) d] 34) (.cells #[.bool false,.slice none 0 0] 34))
  go_enter Tryz.func135,Tryz.ntmps135
  go_wp2_with fail
  generalize ((w.alloc (.cells #[.bool true,.slice A (len x) c] 34)).alloc (.cells #[.bool true,.slice B (len y) d] 34)).alloc (.cells #[.bool false,.slice none 0 0] 34)=W at *;refine (Bq _ a x true _ (HIA.out.into HW.out) HX.out HP.out (by omega)).mono ?_
  rintro e w1 ⟨A1,c1,rfl,H1,hb1⟩
  have hB1:=Lib.hid hb1;obtain ⟨hc0,hc1,hf0,hf1,hs⟩:=AG HH.out.2.1 hb1;clear hb1
  go_wp2_with fail
  refine (Bq _ b y true _ (HIB.out.into (Ab HW.out hB1.out)) HY.out HQ.out (by omega)).mono ?_
  rintro e w2 ⟨B1,d1,rfl,H2,hb2⟩
  have hB2:=Lib.hid (Ab hB1.out hb2);have H1':=Lib.hid (H1.out.into hb2);clear hb2 hc0 hc1 hf0 hf1 hs hB1 H1
  go_wp2_with fail
  refine (NI _ _ x y _ H1'.out H2.out hla hlb).mono ?_
  rintro e w3 ⟨v3,rfl,hv3,hb3⟩
  have hB3:=Lib.hid (Ab hB2.out hb3);clear hb3 hB2
  go_wp2_with fail
  refine (Bs true v3 (x+y) _ hv3 (by have:=Gx x y; omega)).mono ?_
  rintro e w4 ⟨v4,rfl,hv4,hb4⟩
  rw [show Ce true (x+y)=a+b from by have h1:=SA.out; have h2:=SB.out; simp only [Ce] at h1 h2 ⊢; simp at h1 h2 ⊢; omega] at hv4;obtain ⟨b',A',k',c',rfl,H'⟩:=hv4.open_;have hb:=Ab hB3.out hb4;obtain ⟨hc0,hc1,hf0,hf1,hs⟩:=AG HH.out.2.2 hb;have HE:=Lib.hid (Dg (x':=.bool b') (y':=.slice A' k' c') HH.out.2.2 hb H'.out HW.out (by omega));clear hb hb4
  go_wp2
  refine bodyPost_ret (v:=.agg #[.bool b',.slice A' k' c']) (by simp [results,Tryz.results135,go_sem,hc0,hc1]) rfl ⟨_,rfl,HE.out.1,HE.out.2⟩
def Hd(a b:Int):Int:=if a<b then -1 else if a=b then 0 else 1
theorem Sn{a b:Int}(h:a<b):Hd a b = -1:=by simp [Hd,h]
theorem jY{a b:Int}(h:a=b):Hd a b=0:=by simp [Hd,h]
theorem UI{a b:Int}(h:b<a):Hd a b=1:=by unfold Hd; rw [if_neg (by omega),if_neg (by omega)]
theorem Abz(x y:Nat):Hd (x:Int) (y:Int)=G5 x y:=by
 rcases Nat.lt_trichotomy x y with h | h | h
 ·rw [GF h,Sn (by omega)]
 ·rw [FH h,jY (by omega)]
 ·rw [Fk h,UI (by omega)]
theorem Abl(x y:Nat):Hd (-(x:Int)) (-(y:Int))=G5 y x:=by
 rcases Nat.lt_trichotomy x y with h | h | h
 ·rw [Fk h,UI (by omega)]
 ·rw [FH h.symm,jY (by omega)]
 ·rw [GF h,Sn (by omega)]
set_option maxHeartbeats 1600000 in
theorem AdW(va vb:Value)(a b:Int)(w:World)(ha:Aw w va a)(hb:Aw w vb b)(hla:len a.natAbs≤1099511627776)(hlb:len b.natAbs≤1099511627776) :
  Calls Tryz.prog 110 #[va,vb] w λe w'=>e = .returned (.int .i64 (Hd a b))∧Below w.heap.size w w':=by
 obtain ⟨x,hx⟩:∃ n,a.natAbs=n:=⟨_,rfl⟩;obtain ⟨y,hy⟩:∃ n,b.natAbs=n:=⟨_,rfl⟩;obtain ⟨p,hp⟩:∃ s,decide (a<0)=s:=⟨_,rfl⟩;obtain ⟨q,hq⟩:∃ s,decide (b<0)=s:=⟨_,rfl⟩;have sa:=CK a;have sb:=CK b;rw [hx,hp] at sa;rw [hy,hq] at sb;rw [hx] at hla;rw [hy] at hlb;obtain ⟨A,c,rfl,HA⟩:=ha.parts_ hx hp;obtain ⟨B,d,rfl,HB⟩:=hb.parts_ hy hq;have HIA:=Lib.hid (Aw.back HA.out hx hp);have HIB:=Lib.hid (Aw.back HB.out hy hq);have HX:=Lib.hid hx;have HY:=Lib.hid hy;have HP:=Lib.hid hp;have HQ:=Lib.hid hq;have SA:=Lib.hid sa;have SB:=Lib.hid sb;clear hx hy hp hq ha hb HA HB sa sb
 cases p <;> cases q
 ·have HH:=Lib.hid (ML w (.cells #[.bool false,.slice A (len x) c] 34) (.cells #[.bool false,.slice B (len y) d] 34))
  have HW:=Lib.hid (Fc w (.cells #[.bool false,.slice A (len x) c] 34) (.cells #[.bool false,.slice B (len y) d] 34))
  go_enter Tryz.func110,Tryz.ntmps110
  go_wp2_with fail
  generalize (w.alloc (.cells #[.bool false,.slice A (len x) c] 34)).alloc (.cells #[.bool false,.slice B (len y) d] 34)=W at *;refine (Bq _ a x false _ (HIA.out.into HW.out) HX.out HP.out (by omega)).mono ?_
  rintro e w1 ⟨A1,c1,rfl,H1,hb1⟩
  have hB1:=Lib.hid hb1;obtain ⟨hc0,hc1,hf0,hf1,hs⟩:=AG HH.out.2 hb1;clear hb1
  go_wp2_with fail
  refine (Bq _ b y false _ (HIB.out.into (Ab HW.out hB1.out)) HY.out HQ.out (by omega)).mono ?_
  rintro e w2 ⟨B1,d1,rfl,H2,hb2⟩
  have hB2:=Lib.hid (Ab hB1.out hb2);have H1':=Lib.hid (H1.out.into hb2);clear hb2 hc0 hc1 hf0 hf1 hs hB1 H1;have HC:Hid (Hd a b=G5 x y):=by
   have h1:=SA.out;have h2:=SB.out;rw [← h1,← h2];exact Abz x y
  go_wp2_with fail
  refine (Ek _ _ _ _ x y _ H1'.out.mem.2.2 H2.out.mem.2.2 hla hlb).mono ?_
  rintro e w2' ⟨rfl,nd,rfl⟩
  have HD:=Lib.hid (Ab HW.out (Ab hB2.out (BP w2 nd)));rw [← HC.out]
  go_wp2
  go_ret
  exact ⟨rfl,HD.out⟩
 ·have HH:=Lib.hid (ML w (.cells #[.bool false,.slice A (len x) c] 34) (.cells #[.bool true,.slice B (len y) d] 34))
  have HW:=Lib.hid (Fc w (.cells #[.bool false,.slice A (len x) c] 34) (.cells #[.bool true,.slice B (len y) d] 34))
  go_enter Tryz.func110,Tryz.ntmps110
  go_wp2_with fail
  generalize (w.alloc (.cells #[.bool false,.slice A (len x) c] 34)).alloc (.cells #[.bool true,.slice B (len y) d] 34)=W at *;refine (Bq _ a x false _ (HIA.out.into HW.out) HX.out HP.out (by omega)).mono ?_
  rintro e w1 ⟨A1,c1,rfl,H1,hb1⟩
  have hB1:=Lib.hid hb1;obtain ⟨hc0,hc1,hf0,hf1,hs⟩:=AG HH.out.2 hb1;clear hb1
  go_wp2_with fail
  refine (Bq _ b y true _ (HIB.out.into (Ab HW.out hB1.out)) HY.out HQ.out (by omega)).mono ?_
  rintro e w2 ⟨B1,d1,rfl,H2,hb2⟩
  have hB2:=Lib.hid (Ab hB1.out hb2);have H1':=Lib.hid (H1.out.into hb2);clear hb2 hc0 hc1 hf0 hf1 hs hB1 H1;have HC:Hid (Hd a b=1):=UI (by have:=of_decide_eq_false HP.out; have:=of_decide_eq_true HQ.out; omega);have HD:=Lib.hid (Ab HW.out hB2.out)
  go_wp2
  go_ret
  rw [HC.out];exact ⟨rfl,HD.out⟩
 ·have HH:=Lib.hid (ML w (.cells #[.bool true,.slice A (len x) c] 34) (.cells #[.bool false,.slice B (len y) d] 34))
  have HW:=Lib.hid (Fc w (.cells #[.bool true,.slice A (len x) c] 34) (.cells #[.bool false,.slice B (len y) d] 34))
  go_enter Tryz.func110,Tryz.ntmps110
  go_wp2_with fail
  generalize (w.alloc (.cells #[.bool true,.slice A (len x) c] 34)).alloc (.cells #[.bool false,.slice B (len y) d] 34)=W at *;refine (Bq _ a x true _ (HIA.out.into HW.out) HX.out HP.out (by omega)).mono ?_
  rintro e w1 ⟨A1,c1,rfl,H1,hb1⟩
  have hB1:=Lib.hid hb1;obtain ⟨hc0,hc1,hf0,hf1,hs⟩:=AG HH.out.2 hb1;clear hb1
  go_wp2_with fail
  refine (Bq _ b y false _ (HIB.out.into (Ab HW.out hB1.out)) HY.out HQ.out (by omega)).mono ?_
  rintro e w2 ⟨B1,d1,rfl,H2,hb2⟩
  have hB2:=Lib.hid (Ab hB1.out hb2);have H1':=Lib.hid (H1.out.into hb2);clear hb2 hc0 hc1 hf0 hf1 hs hB1 H1;have HC:Hid (Hd a b = -1):=Sn (by have:=of_decide_eq_true HP.out; have:=of_decide_eq_false HQ.out; omega);have HD:=Lib.hid (Ab HW.out hB2.out)
  go_wp2
  go_ret
  rw [HC.out];exact ⟨rfl,HD.out⟩
 ·have HH:=Lib.hid (ML w (.cells #[.bool true,.slice A (len x) c] 34) (.cells #[.bool true,.slice B (len y) d] 34))
  have HW:=Lib.hid (Fc w (.cells #[.bool true,.slice A (len x) c] 34) (.cells #[.bool true,.slice B (len y) d] 34))
  go_enter Tryz.func110,Tryz.ntmps110
  go_wp2_with fail
  generalize (w.alloc (.cells #[.bool true,.slice A (len x) c] 34)).alloc (.cells #[.bool true,.slice B (len y) d] 34)=W at *;refine (Bq _ a x true _ (HIA.out.into HW.out) HX.out HP.out (by omega)).mono ?_
  rintro e w1 ⟨A1,c1,rfl,H1,hb1⟩
  have hB1:=Lib.hid hb1;obtain ⟨hc0,hc1,hf0,hf1,hs⟩:=AG HH.out.2 hb1;clear hb1
  go_wp2_with fail
  refine (Bq _ b y true _ (HIB.out.into (Ab HW.out hB1.out)) HY.out HQ.out (by omega)).mono ?_
  rintro e w2 ⟨B1,d1,rfl,H2,hb2⟩
  have hB2:=Lib.hid (Ab hB1.out hb2);have H1':=Lib.hid (H1.out.into hb2);clear hb2 hc0 hc1 hf0 hf1 hs hB1 H1;have HC:Hid (Hd a b=G5 y x):=by
   have h1:=SA.out;have h2:=SB.out;rw [← h1,← h2];exact Abl x y
  go_wp2_with fail
  refine (Ek _ _ _ _ y x _ H2.out.mem.2.2 H1'.out.mem.2.2 hlb hla).mono ?_
  rintro e w2' ⟨rfl,nd,rfl⟩
  have HD:=Lib.hid (Ab HW.out (Ab hB2.out (BP w2 nd)));rw [← HC.out]
  go_wp2
  go_ret
  exact ⟨rfl,HD.out⟩
end Go.Proofs.YtgaehhapjnbieaaGreat
