/- Walks: Of, Sign, Neg, Mul on integers. -/
import Derived.Test.YtgaehhapjnbieaaGreatqW3
import Derived.Test.YtgaehhapjnbieaaGreatqW2
set_option linter.unusedSectionVars false
set_option linter.unusedVariables false
set_option linter.unusedSimpArgs false
namespace Go.Proofs.YtgaehhapjnbieaaGreat
open Go.RowKit
theorem wrap_neg (n:Nat) (hn:n≤9223372036854775808) (h1:0<n):IntKind.u64.wrap (-IntKind.u64.wrap (-(n:Int)))=(n:Int):=by
 rw [IntKind.wrap_u64,IntKind.wrap_u64]; omega
set_option maxHeartbeats 400000 in
theorem Of_neg (n:Nat) (w:World) (hn:n≤9223372036854775808) (h1:0<n) :
  Calls Tryz.prog 106 #[.int .i64 (-(n:Int))] w (GivesInt (sgn true n) w):=by
 have h0:decide (-(n:Int)<0)=true:=by simp; omega
 have hl:len n≤2:=len_le_two (by omega)
 go_enter Tryz.func106,Tryz.ntmps106
 go_wp2_with fail
 rw [wrap_neg n hn h1]
 refine (fromWord_any n _ (by omega)).mono ?_
 rintro e w1 ⟨v,rfl,hv,hb⟩
 go_wp2_with fail
 refine (build_any true v n _ hv (by omega)).mono ?_
 rintro e w2 ⟨v2,rfl,hv2,hb2⟩
 obtain ⟨b,A,k,c,rfl,H⟩:=hv2.open_
 have hB:=step_below hb hb2
 obtain ⟨hc0,hc1,hf0,hf1,hs⟩:=box2 hB
 have HE:=Lib.hid (box2_end (x':=.bool b) (y':=.slice A k c) hB H.out)
 clear hB
 go_wp2
 refine bodyPost_ret (v:=.agg #[.bool b,.slice A k c]) (by simp [results,Tryz.results106,go_sem,hc0,hc1]) rfl ⟨_,rfl,HE.out.1,HE.out.2⟩
theorem Of_any (z:Int) (w:World) (h0 : -9223372036854775808≤z) (h1:z≤9223372036854775807):Calls Tryz.prog 106 #[.int .i64 z] w (GivesInt z w):=by
 rcases Int.lt_or_le z 0 with h | h
 ·obtain ⟨n,rfl⟩:∃ n:Nat,z = -(n:Int):=⟨z.natAbs,by omega⟩
  exact Of_neg n w (by omega) (by omega)
 ·obtain ⟨n,rfl⟩:=Int.eq_ofNat_of_zero_le h
  exact Of_nonneg n w (by omega)
set_option maxHeartbeats 400000 in
theorem Sign_any (v : Value) (z : Int) (w : World) (h : IntAt w v z) (hl : len z.natAbs ≤ 1099511627776) :
    Calls Tryz.prog 112 #[v] w fun e w' => e = .returned (.int .i64 z.sign) ∧ Below w.heap.size w w' := by
  obtain ⟨n, hn⟩ : ∃ n, z.natAbs = n := ⟨_, rfl⟩
  obtain ⟨b, hb⟩ : ∃ b, decide (z < 0) = b := ⟨_, rfl⟩
  obtain ⟨A, c, rfl, H⟩ := h.parts_ hn hb
  have HI := Lib.hid (IntAt.back H.out hn hb)
  rw [hn] at hl
  have HN := Lib.hid hn
  have HB := Lib.hid hb
  clear hn hb h
  cases b
  all_goals
    go_enter Tryz.func112, Tryz.ntmps112
    go_wp2_with fail
    refine (parts_is _ z n _ _ (HI.out.into (below_alloc _ _)) HN.out HB.out (by omega)).mono ?_
    rintro e w1 ⟨A1, c1, rfl, H1, hb1⟩
    have HD := Lib.hid (step_below (below_alloc _ _) hb1)
    clear hb1
  · rcases Nat.eq_zero_or_pos n with h0 | h0
    · have hz : z.sign = 0 := by have := HN.out; have : z = 0 := by omega
                                 rw [this]; rfl
      have HZ := Lib.hid hz
      clear hz
      subst h0
      rw [len_zero] at *
      go_wp2
      go_ret
      rw [HZ.out]
      exact ⟨rfl, HD.out⟩
    · have hz : z.sign = 1 := Int.sign_eq_one_of_pos (by have := HN.out; have := of_decide_eq_false HB.out; omega)
      have HZ := Lib.hid hz
      clear hz
      have hne : ((len n : Int) == 0) = false := by
        have : len n ≠ 0 := fun h => by have := len_eq_zero.1 h; omega
        simp; omega
      go_wp2
      go_ret
      rw [HZ.out]
      exact ⟨rfl, HD.out⟩
  · have hz : z.sign = -1 := Int.sign_eq_neg_one_of_neg (of_decide_eq_true HB.out)
    have HZ := Lib.hid hz
    clear hz
    go_wp2
    go_ret
    rw [HZ.out]
    exact ⟨rfl, HD.out⟩
set_option maxHeartbeats 400000 in
theorem Neg_any (v:Value) (z:Int) (w:World) (h:IntAt w v z) (hl:len z.natAbs≤1099511627776) :
  Calls Tryz.prog 123 #[v] w (GivesInt (-z) w):=by
 obtain ⟨n,hn⟩:∃ n,z.natAbs=n:=⟨_,rfl⟩
 obtain ⟨b,hb⟩:∃ b,decide (z<0)=b:=⟨_,rfl⟩
 obtain ⟨A,c,rfl,H⟩:=h.parts_ hn hb
 have hz:sgn (!b) n = -z:=by
  subst hn hb
  by_cases h:z<0
  ·simp [sgn,h]; omega
  ·simp [sgn,h]; omega
 have HZ:=Lib.hid hz
 rw [hn] at hl
 clear hn hb h hz
 go_enter Tryz.func123,Tryz.ntmps123
 go_wp2_with fail
 refine (build_any (!b) _ n _ (H.out.into (below2 _ _ _)) (by omega)).mono ?_
 rintro e w2 ⟨v2,rfl,hv2,hb2⟩
 rw [HZ.out] at hv2
 obtain ⟨b',A',k',c',rfl,H'⟩:=hv2.open_
 have hg:=(heap2 w (.cells #[.bool b,.slice A (len n) c] 34) (.cells #[.bool false,.slice none 0 0] 34)).2
 obtain ⟨hc0,hc1,hf0,hf1,hs⟩:=box_in hg hb2
 have HE:=Lib.hid (box_end (x':=.bool b') (y':=.slice A' k' c') hg hb2 H'.out (below2 _ _ _) (by omega))
 clear hg hb2
 go_wp2
 refine bodyPost_ret (v:=.agg #[.bool b',.slice A' k' c']) (by simp [results,Tryz.results123,go_sem,hc0,hc1]) rfl ⟨_,rfl,HE.out.1,HE.out.2⟩
theorem sgn_mul (a b:Int):sgn (decide (a<0) != decide (b<0)) (a.natAbs*b.natAbs)=a*b:=by
 have h:∀ (p q:Bool) (x y:Nat),sgn (p != q) (x*y)=sgn p x*sgn q y:=by
  intro p q x y
  cases p <;> cases q <;> simp [sgn,Int.neg_mul,Int.mul_neg]
 rw [h,sgn_of,sgn_of]
set_option maxHeartbeats 800000 in
theorem Mul_any (va vb:Value) (a b:Int) (w:World) (ha:IntAt w va a) (hb:IntAt w vb b) (hla:len a.natAbs≤1099511627776) (hlb:len b.natAbs≤1099511627776) :
  Calls Tryz.prog 104 #[va,vb] w (GivesInt (a*b) w):=by
 obtain ⟨x,hx⟩:∃ n,a.natAbs=n:=⟨_,rfl⟩
 obtain ⟨y,hy⟩:∃ n,b.natAbs=n:=⟨_,rfl⟩
 obtain ⟨p,hp⟩:∃ s,decide (a<0)=s:=⟨_,rfl⟩
 obtain ⟨q,hq⟩:∃ s,decide (b<0)=s:=⟨_,rfl⟩
 have hz:=sgn_mul a b
 rw [hx,hy,hp,hq] at hz
 rw [hx] at hla
 rw [hy] at hlb
 obtain ⟨A,c,rfl,HA⟩:=ha.parts_ hx hp
 obtain ⟨B,d,rfl,HB⟩:=hb.parts_ hy hq
 have HIA:=Lib.hid (IntAt.back HA.out hx hp)
 have HIB:=Lib.hid (IntAt.back HB.out hy hq)
 have HX:=Lib.hid hx
 have HY:=Lib.hid hy
 have HP:=Lib.hid hp
 have HQ:=Lib.hid hq
 have HZ:=Lib.hid hz
 clear hx hy hp hq hz ha hb HA HB
 have HH:=Lib.hid (heap3 w (.cells #[.bool p,.slice A (len x) c] 34) (.cells #[.bool q,.slice B (len y) d] 34) (.cells #[.bool false,.slice none 0 0] 34))
 have HW:=Lib.hid (below3 w (.cells #[.bool p,.slice A (len x) c] 34) (.cells #[.bool q,.slice B (len y) d] 34) (.cells #[.bool false,.slice none 0 0] 34))
 go_enter Tryz.func104,Tryz.ntmps104
 go_wp2_with fail
 generalize ((w.alloc (.cells #[.bool p,.slice A (len x) c] 34)).alloc (.cells #[.bool q,.slice B (len y) d] 34)).alloc (.cells #[.bool false,.slice none 0 0] 34)=W at *
 refine (parts_is _ a x p _ (HIA.out.into HW.out) HX.out HP.out (by omega)).mono ?_
 rintro e w1 ⟨A1,c1,rfl,H1,hb1⟩
 have hB1:=Lib.hid hb1
 obtain ⟨hc0,hc1,hf0,hf1,hs⟩:=box_in HH.out.2.1 hb1
 clear hb1
 go_wp2_with fail
 refine (parts_is _ b y q _ (HIB.out.into (step_below HW.out hB1.out)) HY.out HQ.out (by omega)).mono ?_
 rintro e w2 ⟨B1,d1,rfl,H2,hb2⟩
 have hB2:=Lib.hid hb2
 clear hb2 hc0 hc1 hf0 hf1 hs
 go_wp2_with fail
 refine (product_any _ _ x y _ (H1.out.into hB2.out) H2.out hla hlb).mono ?_
 rintro e w3 ⟨v3,rfl,hv3,hb3⟩
 have hB3:=Lib.hid (step_below (step_below hB1.out hB2.out) hb3)
 clear hb3 hB1 hB2
 go_wp2_with fail
 refine (build_any (p != q) v3 (x*y) _ hv3 (by have:=len_mul x y; omega)).mono ?_
 rintro e w4 ⟨v4,rfl,hv4,hb4⟩
 rw [HZ.out] at hv4
 obtain ⟨b',A',k',c',rfl,H'⟩:=hv4.open_
 have hb:=step_below hB3.out hb4
 obtain ⟨hc0,hc1,hf0,hf1,hs⟩:=box_in HH.out.2.2 hb
 have HE:=Lib.hid (box_end (x':=.bool b') (y':=.slice A' k' c') HH.out.2.2 hb H'.out HW.out (by omega))
 clear hb hb4
 go_wp2
 refine bodyPost_ret (v:=.agg #[.bool b',.slice A' k' c']) (by simp [results,Tryz.results104,go_sem,hc0,hc1]) rfl ⟨_,rfl,HE.out.1,HE.out.2⟩
end Go.Proofs.YtgaehhapjnbieaaGreat
namespace Go.Proofs.YtgaehhapjnbieaaGreat
open Go.RowKit
set_option maxHeartbeats 1600000 in
theorem Add_any (va vb:Value) (a b:Int) (w:World) (ha:IntAt w va a) (hb:IntAt w vb b) (hla:len a.natAbs≤1099511627776) (hlb:len b.natAbs≤1099511627776) :
  Calls Tryz.prog 135 #[va,vb] w (GivesInt (a+b) w):=by
 obtain ⟨x,hx⟩:∃ n,a.natAbs=n:=⟨_,rfl⟩
 obtain ⟨y,hy⟩:∃ n,b.natAbs=n:=⟨_,rfl⟩
 obtain ⟨p,hp⟩:∃ s,decide (a<0)=s:=⟨_,rfl⟩
 obtain ⟨q,hq⟩:∃ s,decide (b<0)=s:=⟨_,rfl⟩
 have sa:=sgn_of a
 have sb:=sgn_of b
 rw [hx,hp] at sa
 rw [hy,hq] at sb
 rw [hx] at hla
 rw [hy] at hlb
 obtain ⟨A,c,rfl,HA⟩:=ha.parts_ hx hp
 obtain ⟨B,d,rfl,HB⟩:=hb.parts_ hy hq
 have HIA:=Lib.hid (IntAt.back HA.out hx hp)
 have HIB:=Lib.hid (IntAt.back HB.out hy hq)
 have HX:=Lib.hid hx
 have HY:=Lib.hid hy
 have HP:=Lib.hid hp
 have HQ:=Lib.hid hq
 have SA:=Lib.hid sa
 have SB:=Lib.hid sb
 clear hx hy hp hq ha hb HA HB sa sb
 cases p <;> cases q
 ·have HH:=Lib.hid (heap3 w (.cells #[.bool false,.slice A (len x) c] 34) (.cells #[.bool false,.slice B (len y) d] 34) (.cells #[.bool false,.slice none 0 0] 34))
  have HW:=Lib.hid (below3 w (.cells #[.bool false,.slice A (len x) c] 34) (.cells #[.bool false,.slice B (len y) d] 34) (.cells #[.bool false,.slice none 0 0] 34))
  go_enter Tryz.func135,Tryz.ntmps135
  go_wp2_with fail
  generalize ((w.alloc (.cells #[.bool false,.slice A (len x) c] 34)).alloc (.cells #[.bool false,.slice B (len y) d] 34)).alloc (.cells #[.bool false,.slice none 0 0] 34)=W at *
  refine (parts_is _ a x false _ (HIA.out.into HW.out) HX.out HP.out (by omega)).mono ?_
  rintro e w1 ⟨A1,c1,rfl,H1,hb1⟩
  have hB1:=Lib.hid hb1
  obtain ⟨hc0,hc1,hf0,hf1,hs⟩:=box_in HH.out.2.1 hb1
  clear hb1
  go_wp2_with fail
  refine (parts_is _ b y false _ (HIB.out.into (step_below HW.out hB1.out)) HY.out HQ.out (by omega)).mono ?_
  rintro e w2 ⟨B1,d1,rfl,H2,hb2⟩
  have hB2:=Lib.hid (step_below hB1.out hb2)
  have H1':=Lib.hid (H1.out.into hb2)
  clear hb2 hc0 hc1 hf0 hf1 hs hB1 H1
  go_wp2_with fail
  refine (sum_any _ _ x y _ H1'.out H2.out hla hlb).mono ?_
  rintro e w3 ⟨v3,rfl,hv3,hb3⟩
  have hB3:=Lib.hid (step_below hB2.out hb3)
  clear hb3 hB2
  go_wp2_with fail
  refine (build_any false v3 (x+y) _ hv3 (by have:=len_add x y; omega)).mono ?_
  rintro e w4 ⟨v4,rfl,hv4,hb4⟩
  rw [show sgn false (x+y)=a+b from by have h1:=SA.out; have h2:=SB.out; simp only [sgn] at h1 h2 ⊢; simp at h1 h2 ⊢; omega] at hv4
  obtain ⟨b',A',k',c',rfl,H'⟩:=hv4.open_
  have hb:=step_below hB3.out hb4
  obtain ⟨hc0,hc1,hf0,hf1,hs⟩:=box_in HH.out.2.2 hb
  have HE:=Lib.hid (box_end (x':=.bool b') (y':=.slice A' k' c') HH.out.2.2 hb H'.out HW.out (by omega))
  clear hb hb4
  go_wp2
  refine bodyPost_ret (v:=.agg #[.bool b',.slice A' k' c']) (by simp [results,Tryz.results135,go_sem,hc0,hc1]) rfl ⟨_,rfl,HE.out.1,HE.out.2⟩
 ·have HH:=Lib.hid (heap3 w (.cells #[.bool false,.slice A (len x) c] 34) (.cells #[.bool true,.slice B (len y) d] 34) (.cells #[.bool false,.slice none 0 0] 34))
  have HW:=Lib.hid (below3 w (.cells #[.bool false,.slice A (len x) c] 34) (.cells #[.bool true,.slice B (len y) d] 34) (.cells #[.bool false,.slice none 0 0] 34))
  go_enter Tryz.func135,Tryz.ntmps135
  go_wp2_with fail
  generalize ((w.alloc (.cells #[.bool false,.slice A (len x) c] 34)).alloc (.cells #[.bool true,.slice B (len y) d] 34)).alloc (.cells #[.bool false,.slice none 0 0] 34)=W at *
  refine (parts_is _ a x false _ (HIA.out.into HW.out) HX.out HP.out (by omega)).mono ?_
  rintro e w1 ⟨A1,c1,rfl,H1,hb1⟩
  have hB1:=Lib.hid hb1
  obtain ⟨hc0,hc1,hf0,hf1,hs⟩:=box_in HH.out.2.1 hb1
  clear hb1
  go_wp2_with fail
  refine (parts_is _ b y true _ (HIB.out.into (step_below HW.out hB1.out)) HY.out HQ.out (by omega)).mono ?_
  rintro e w2 ⟨B1,d1,rfl,H2,hb2⟩
  have hB2:=Lib.hid (step_below hB1.out hb2)
  have H1':=Lib.hid (H1.out.into hb2)
  clear hb2 hc0 hc1 hf0 hf1 hs hB1 H1
  go_wp2_with fail
  refine (compare_any _ _ _ _ x y _ H1'.out.mem.2.2 H2.out.mem.2.2 hla hlb).mono ?_
  rintro e w2' ⟨rfl,nd,rfl⟩
  have hbd:=below_drewN w2 nd
  have hB2':=Lib.hid (step_below hB2.out hbd)
  have H1:=Lib.hid (H1'.out.into hbd)
  have H2':=Lib.hid (H2.out.into hbd)
  clear hbd hB2 H1' H2
  rcases Nat.lt_or_ge x y with hlt | hge
  ·rw [cmpN_lt hlt]
   go_wp2_with fail
   refine (difference_any _ _ y x _ H2'.out H1.out hlb (by omega)).mono ?_
   rintro e w3 ⟨v3,rfl,hv3,hb3⟩
   have hB3:=Lib.hid (step_below hB2'.out hb3)
   clear hb3 hB2'
   go_wp2_with fail
   refine (build_any true v3 (y - x) _ hv3 (by have:=len_mono (Nat.sub_le y x); omega)).mono ?_
   rintro e w4 ⟨v4,rfl,hv4,hb4⟩
   rw [show sgn true (y - x)=a+b from by have h1:=SA.out; have h2:=SB.out; simp only [sgn] at h1 h2 ⊢; simp at h1 h2 ⊢; omega] at hv4
   obtain ⟨b',A',k',c',rfl,H'⟩:=hv4.open_
   have hb:=step_below hB3.out hb4
   obtain ⟨hc0,hc1,hf0,hf1,hs⟩:=box_in HH.out.2.2 hb
   have HE:=Lib.hid (box_end (x':=.bool b') (y':=.slice A' k' c') HH.out.2.2 hb H'.out HW.out (by omega))
   clear hb hb4
   go_wp2
   refine bodyPost_ret (v:=.agg #[.bool b',.slice A' k' c']) (by simp [results,Tryz.results135,go_sem,hc0,hc1]) rfl ⟨_,rfl,HE.out.1,HE.out.2⟩
  ·obtain ⟨v,hv,hv0⟩:∃ v:Int,cmpN x y=v∧0≤v:=⟨_,rfl,by rcases Nat.lt_or_ge y x with h | h; rw [cmpN_gt h]; omega; rw [cmpN_eq (by omega)]; omega⟩
   rw [hv]
   clear hv
   go_wp2_with fail
   refine (difference_any _ _ x y _ H1.out H2'.out hla hge).mono ?_
   rintro e w3 ⟨v3,rfl,hv3,hb3⟩
   have hB3:=Lib.hid (step_below hB2'.out hb3)
   clear hb3 hB2'
   go_wp2_with fail
   refine (build_any false v3 (x - y) _ hv3 (by have:=len_mono (Nat.sub_le x y); omega)).mono ?_
   rintro e w4 ⟨v4,rfl,hv4,hb4⟩
   rw [show sgn false (x - y)=a+b from by have h1:=SA.out; have h2:=SB.out; simp only [sgn] at h1 h2 ⊢; simp at h1 h2 ⊢; omega] at hv4
   obtain ⟨b',A',k',c',rfl,H'⟩:=hv4.open_
   have hb:=step_below hB3.out hb4
   obtain ⟨hc0,hc1,hf0,hf1,hs⟩:=box_in HH.out.2.2 hb
   have HE:=Lib.hid (box_end (x':=.bool b') (y':=.slice A' k' c') HH.out.2.2 hb H'.out HW.out (by omega))
   clear hb hb4
   go_wp2
   refine bodyPost_ret (v:=.agg #[.bool b',.slice A' k' c']) (by simp [results,Tryz.results135,go_sem,hc0,hc1]) rfl ⟨_,rfl,HE.out.1,HE.out.2⟩
 ·have HH:=Lib.hid (heap3 w (.cells #[.bool true,.slice A (len x) c] 34) (.cells #[.bool false,.slice B (len y) d] 34) (.cells #[.bool false,.slice none 0 0] 34))
  have HW:=Lib.hid (below3 w (.cells #[.bool true,.slice A (len x) c] 34) (.cells #[.bool false,.slice B (len y) d] 34) (.cells #[.bool false,.slice none 0 0] 34))
  go_enter Tryz.func135,Tryz.ntmps135
  go_wp2_with fail
  generalize ((w.alloc (.cells #[.bool true,.slice A (len x) c] 34)).alloc (.cells #[.bool false,.slice B (len y) d] 34)).alloc (.cells #[.bool false,.slice none 0 0] 34)=W at *
  refine (parts_is _ a x true _ (HIA.out.into HW.out) HX.out HP.out (by omega)).mono ?_
  rintro e w1 ⟨A1,c1,rfl,H1,hb1⟩
  have hB1:=Lib.hid hb1
  obtain ⟨hc0,hc1,hf0,hf1,hs⟩:=box_in HH.out.2.1 hb1
  clear hb1
  go_wp2_with fail
  refine (parts_is _ b y false _ (HIB.out.into (step_below HW.out hB1.out)) HY.out HQ.out (by omega)).mono ?_
  rintro e w2 ⟨B1,d1,rfl,H2,hb2⟩
  have hB2:=Lib.hid (step_below hB1.out hb2)
  have H1':=Lib.hid (H1.out.into hb2)
  clear hb2 hc0 hc1 hf0 hf1 hs hB1 H1
  go_wp2_with fail
  refine (compare_any _ _ _ _ x y _ H1'.out.mem.2.2 H2.out.mem.2.2 hla hlb).mono ?_
  rintro e w2' ⟨rfl,nd,rfl⟩
  have hbd:=below_drewN w2 nd
  have hB2':=Lib.hid (step_below hB2.out hbd)
  have H1:=Lib.hid (H1'.out.into hbd)
  have H2':=Lib.hid (H2.out.into hbd)
  clear hbd hB2 H1' H2
  rcases Nat.lt_or_ge x y with hlt | hge
  ·rw [cmpN_lt hlt]
   go_wp2_with fail
   refine (difference_any _ _ y x _ H2'.out H1.out hlb (by omega)).mono ?_
   rintro e w3 ⟨v3,rfl,hv3,hb3⟩
   have hB3:=Lib.hid (step_below hB2'.out hb3)
   clear hb3 hB2'
   go_wp2_with fail
   refine (build_any false v3 (y - x) _ hv3 (by have:=len_mono (Nat.sub_le y x); omega)).mono ?_
   rintro e w4 ⟨v4,rfl,hv4,hb4⟩
   rw [show sgn false (y - x)=a+b from by have h1:=SA.out; have h2:=SB.out; simp only [sgn] at h1 h2 ⊢; simp at h1 h2 ⊢; omega] at hv4
   obtain ⟨b',A',k',c',rfl,H'⟩:=hv4.open_
   have hb:=step_below hB3.out hb4
   obtain ⟨hc0,hc1,hf0,hf1,hs⟩:=box_in HH.out.2.2 hb
   have HE:=Lib.hid (box_end (x':=.bool b') (y':=.slice A' k' c') HH.out.2.2 hb H'.out HW.out (by omega))
   clear hb hb4
   go_wp2
   refine bodyPost_ret (v:=.agg #[.bool b',.slice A' k' c']) (by simp [results,Tryz.results135,go_sem,hc0,hc1]) rfl ⟨_,rfl,HE.out.1,HE.out.2⟩
  ·obtain ⟨v,hv,hv0⟩:∃ v:Int,cmpN x y=v∧0≤v:=⟨_,rfl,by rcases Nat.lt_or_ge y x with h | h; rw [cmpN_gt h]; omega; rw [cmpN_eq (by omega)]; omega⟩
   rw [hv]
   clear hv
   go_wp2_with fail
   refine (difference_any _ _ x y _ H1.out H2'.out hla hge).mono ?_
   rintro e w3 ⟨v3,rfl,hv3,hb3⟩
   have hB3:=Lib.hid (step_below hB2'.out hb3)
   clear hb3 hB2'
   go_wp2_with fail
   refine (build_any true v3 (x - y) _ hv3 (by have:=len_mono (Nat.sub_le x y); omega)).mono ?_
   rintro e w4 ⟨v4,rfl,hv4,hb4⟩
   rw [show sgn true (x - y)=a+b from by have h1:=SA.out; have h2:=SB.out; simp only [sgn] at h1 h2 ⊢; simp at h1 h2 ⊢; omega] at hv4
   obtain ⟨b',A',k',c',rfl,H'⟩:=hv4.open_
   have hb:=step_below hB3.out hb4
   obtain ⟨hc0,hc1,hf0,hf1,hs⟩:=box_in HH.out.2.2 hb
   have HE:=Lib.hid (box_end (x':=.bool b') (y':=.slice A' k' c') HH.out.2.2 hb H'.out HW.out (by omega))
   clear hb hb4
   go_wp2
   refine bodyPost_ret (v:=.agg #[.bool b',.slice A' k' c']) (by simp [results,Tryz.results135,go_sem,hc0,hc1]) rfl ⟨_,rfl,HE.out.1,HE.out.2⟩
 ·have HH:=Lib.hid (heap3 w (.cells #[.bool true,.slice A (len x) c] 34) (.cells #[.bool true,.slice B (len y) d] 34) (.cells #[.bool false,.slice none 0 0] 34))
  have HW:=Lib.hid (below3 w (.cells #[.bool true,.slice A (len x) c] 34) (.cells #[.bool true,.slice B (len y) d] 34) (.cells #[.bool false,.slice none 0 0] 34))
  go_enter Tryz.func135,Tryz.ntmps135
  go_wp2_with fail
  generalize ((w.alloc (.cells #[.bool true,.slice A (len x) c] 34)).alloc (.cells #[.bool true,.slice B (len y) d] 34)).alloc (.cells #[.bool false,.slice none 0 0] 34)=W at *
  refine (parts_is _ a x true _ (HIA.out.into HW.out) HX.out HP.out (by omega)).mono ?_
  rintro e w1 ⟨A1,c1,rfl,H1,hb1⟩
  have hB1:=Lib.hid hb1
  obtain ⟨hc0,hc1,hf0,hf1,hs⟩:=box_in HH.out.2.1 hb1
  clear hb1
  go_wp2_with fail
  refine (parts_is _ b y true _ (HIB.out.into (step_below HW.out hB1.out)) HY.out HQ.out (by omega)).mono ?_
  rintro e w2 ⟨B1,d1,rfl,H2,hb2⟩
  have hB2:=Lib.hid (step_below hB1.out hb2)
  have H1':=Lib.hid (H1.out.into hb2)
  clear hb2 hc0 hc1 hf0 hf1 hs hB1 H1
  go_wp2_with fail
  refine (sum_any _ _ x y _ H1'.out H2.out hla hlb).mono ?_
  rintro e w3 ⟨v3,rfl,hv3,hb3⟩
  have hB3:=Lib.hid (step_below hB2.out hb3)
  clear hb3 hB2
  go_wp2_with fail
  refine (build_any true v3 (x+y) _ hv3 (by have:=len_add x y; omega)).mono ?_
  rintro e w4 ⟨v4,rfl,hv4,hb4⟩
  rw [show sgn true (x+y)=a+b from by have h1:=SA.out; have h2:=SB.out; simp only [sgn] at h1 h2 ⊢; simp at h1 h2 ⊢; omega] at hv4
  obtain ⟨b',A',k',c',rfl,H'⟩:=hv4.open_
  have hb:=step_below hB3.out hb4
  obtain ⟨hc0,hc1,hf0,hf1,hs⟩:=box_in HH.out.2.2 hb
  have HE:=Lib.hid (box_end (x':=.bool b') (y':=.slice A' k' c') HH.out.2.2 hb H'.out HW.out (by omega))
  clear hb hb4
  go_wp2
  refine bodyPost_ret (v:=.agg #[.bool b',.slice A' k' c']) (by simp [results,Tryz.results135,go_sem,hc0,hc1]) rfl ⟨_,rfl,HE.out.1,HE.out.2⟩
def cmpI (a b:Int):Int:=if a<b then -1 else if a=b then 0 else 1
theorem cmpI_lt {a b:Int} (h:a<b):cmpI a b = -1:=by simp [cmpI,h]
theorem cmpI_eq {a b:Int} (h:a=b):cmpI a b=0:=by simp [cmpI,h]
theorem cmpI_gt {a b:Int} (h:b<a):cmpI a b=1:=by unfold cmpI; rw [if_neg (by omega),if_neg (by omega)]
theorem cmpI_nat (x y:Nat):cmpI (x:Int) (y:Int)=cmpN x y:=by
 rcases Nat.lt_trichotomy x y with h | h | h
 ·rw [cmpN_lt h,cmpI_lt (by omega)]
 ·rw [cmpN_eq h,cmpI_eq (by omega)]
 ·rw [cmpN_gt h,cmpI_gt (by omega)]
theorem cmpI_neg (x y:Nat):cmpI (-(x:Int)) (-(y:Int))=cmpN y x:=by
 rcases Nat.lt_trichotomy x y with h | h | h
 ·rw [cmpN_gt h,cmpI_gt (by omega)]
 ·rw [cmpN_eq h.symm,cmpI_eq (by omega)]
 ·rw [cmpN_lt h,cmpI_lt (by omega)]
set_option maxHeartbeats 1600000 in
theorem Cmp_any (va vb:Value) (a b:Int) (w:World) (ha:IntAt w va a) (hb:IntAt w vb b) (hla:len a.natAbs≤1099511627776) (hlb:len b.natAbs≤1099511627776) :
  Calls Tryz.prog 110 #[va,vb] w fun e w'=>e = .returned (.int .i64 (cmpI a b))∧Below w.heap.size w w':=by
 obtain ⟨x,hx⟩:∃ n,a.natAbs=n:=⟨_,rfl⟩
 obtain ⟨y,hy⟩:∃ n,b.natAbs=n:=⟨_,rfl⟩
 obtain ⟨p,hp⟩:∃ s,decide (a<0)=s:=⟨_,rfl⟩
 obtain ⟨q,hq⟩:∃ s,decide (b<0)=s:=⟨_,rfl⟩
 have sa:=sgn_of a
 have sb:=sgn_of b
 rw [hx,hp] at sa
 rw [hy,hq] at sb
 rw [hx] at hla
 rw [hy] at hlb
 obtain ⟨A,c,rfl,HA⟩:=ha.parts_ hx hp
 obtain ⟨B,d,rfl,HB⟩:=hb.parts_ hy hq
 have HIA:=Lib.hid (IntAt.back HA.out hx hp)
 have HIB:=Lib.hid (IntAt.back HB.out hy hq)
 have HX:=Lib.hid hx
 have HY:=Lib.hid hy
 have HP:=Lib.hid hp
 have HQ:=Lib.hid hq
 have SA:=Lib.hid sa
 have SB:=Lib.hid sb
 clear hx hy hp hq ha hb HA HB sa sb
 cases p <;> cases q
 ·have HH:=Lib.hid (heap2 w (.cells #[.bool false,.slice A (len x) c] 34) (.cells #[.bool false,.slice B (len y) d] 34))
  have HW:=Lib.hid (below2 w (.cells #[.bool false,.slice A (len x) c] 34) (.cells #[.bool false,.slice B (len y) d] 34))
  go_enter Tryz.func110,Tryz.ntmps110
  go_wp2_with fail
  generalize (w.alloc (.cells #[.bool false,.slice A (len x) c] 34)).alloc (.cells #[.bool false,.slice B (len y) d] 34)=W at *
  refine (parts_is _ a x false _ (HIA.out.into HW.out) HX.out HP.out (by omega)).mono ?_
  rintro e w1 ⟨A1,c1,rfl,H1,hb1⟩
  have hB1:=Lib.hid hb1
  obtain ⟨hc0,hc1,hf0,hf1,hs⟩:=box_in HH.out.2 hb1
  clear hb1
  go_wp2_with fail
  refine (parts_is _ b y false _ (HIB.out.into (step_below HW.out hB1.out)) HY.out HQ.out (by omega)).mono ?_
  rintro e w2 ⟨B1,d1,rfl,H2,hb2⟩
  have hB2:=Lib.hid (step_below hB1.out hb2)
  have H1':=Lib.hid (H1.out.into hb2)
  clear hb2 hc0 hc1 hf0 hf1 hs hB1 H1
  have HC:Hid (cmpI a b=cmpN x y):=by
   have h1:=SA.out
   have h2:=SB.out
   rw [← h1,← h2]
   exact cmpI_nat x y
  go_wp2_with fail
  refine (compare_any _ _ _ _ x y _ H1'.out.mem.2.2 H2.out.mem.2.2 hla hlb).mono ?_
  rintro e w2' ⟨rfl,nd,rfl⟩
  have HD:=Lib.hid (step_below HW.out (step_below hB2.out (below_drewN w2 nd)))
  rw [← HC.out]
  go_wp2
  go_ret
  exact ⟨rfl,HD.out⟩
 ·have HH:=Lib.hid (heap2 w (.cells #[.bool false,.slice A (len x) c] 34) (.cells #[.bool true,.slice B (len y) d] 34))
  have HW:=Lib.hid (below2 w (.cells #[.bool false,.slice A (len x) c] 34) (.cells #[.bool true,.slice B (len y) d] 34))
  go_enter Tryz.func110,Tryz.ntmps110
  go_wp2_with fail
  generalize (w.alloc (.cells #[.bool false,.slice A (len x) c] 34)).alloc (.cells #[.bool true,.slice B (len y) d] 34)=W at *
  refine (parts_is _ a x false _ (HIA.out.into HW.out) HX.out HP.out (by omega)).mono ?_
  rintro e w1 ⟨A1,c1,rfl,H1,hb1⟩
  have hB1:=Lib.hid hb1
  obtain ⟨hc0,hc1,hf0,hf1,hs⟩:=box_in HH.out.2 hb1
  clear hb1
  go_wp2_with fail
  refine (parts_is _ b y true _ (HIB.out.into (step_below HW.out hB1.out)) HY.out HQ.out (by omega)).mono ?_
  rintro e w2 ⟨B1,d1,rfl,H2,hb2⟩
  have hB2:=Lib.hid (step_below hB1.out hb2)
  have H1':=Lib.hid (H1.out.into hb2)
  clear hb2 hc0 hc1 hf0 hf1 hs hB1 H1
  have HC:Hid (cmpI a b=1):=cmpI_gt (by have:=of_decide_eq_false HP.out; have:=of_decide_eq_true HQ.out; omega)
  have HD:=Lib.hid (step_below HW.out hB2.out)
  go_wp2
  go_ret
  rw [HC.out]
  exact ⟨rfl,HD.out⟩
 ·have HH:=Lib.hid (heap2 w (.cells #[.bool true,.slice A (len x) c] 34) (.cells #[.bool false,.slice B (len y) d] 34))
  have HW:=Lib.hid (below2 w (.cells #[.bool true,.slice A (len x) c] 34) (.cells #[.bool false,.slice B (len y) d] 34))
  go_enter Tryz.func110,Tryz.ntmps110
  go_wp2_with fail
  generalize (w.alloc (.cells #[.bool true,.slice A (len x) c] 34)).alloc (.cells #[.bool false,.slice B (len y) d] 34)=W at *
  refine (parts_is _ a x true _ (HIA.out.into HW.out) HX.out HP.out (by omega)).mono ?_
  rintro e w1 ⟨A1,c1,rfl,H1,hb1⟩
  have hB1:=Lib.hid hb1
  obtain ⟨hc0,hc1,hf0,hf1,hs⟩:=box_in HH.out.2 hb1
  clear hb1
  go_wp2_with fail
  refine (parts_is _ b y false _ (HIB.out.into (step_below HW.out hB1.out)) HY.out HQ.out (by omega)).mono ?_
  rintro e w2 ⟨B1,d1,rfl,H2,hb2⟩
  have hB2:=Lib.hid (step_below hB1.out hb2)
  have H1':=Lib.hid (H1.out.into hb2)
  clear hb2 hc0 hc1 hf0 hf1 hs hB1 H1
  have HC:Hid (cmpI a b = -1):=cmpI_lt (by have:=of_decide_eq_true HP.out; have:=of_decide_eq_false HQ.out; omega)
  have HD:=Lib.hid (step_below HW.out hB2.out)
  go_wp2
  go_ret
  rw [HC.out]
  exact ⟨rfl,HD.out⟩
 ·have HH:=Lib.hid (heap2 w (.cells #[.bool true,.slice A (len x) c] 34) (.cells #[.bool true,.slice B (len y) d] 34))
  have HW:=Lib.hid (below2 w (.cells #[.bool true,.slice A (len x) c] 34) (.cells #[.bool true,.slice B (len y) d] 34))
  go_enter Tryz.func110,Tryz.ntmps110
  go_wp2_with fail
  generalize (w.alloc (.cells #[.bool true,.slice A (len x) c] 34)).alloc (.cells #[.bool true,.slice B (len y) d] 34)=W at *
  refine (parts_is _ a x true _ (HIA.out.into HW.out) HX.out HP.out (by omega)).mono ?_
  rintro e w1 ⟨A1,c1,rfl,H1,hb1⟩
  have hB1:=Lib.hid hb1
  obtain ⟨hc0,hc1,hf0,hf1,hs⟩:=box_in HH.out.2 hb1
  clear hb1
  go_wp2_with fail
  refine (parts_is _ b y true _ (HIB.out.into (step_below HW.out hB1.out)) HY.out HQ.out (by omega)).mono ?_
  rintro e w2 ⟨B1,d1,rfl,H2,hb2⟩
  have hB2:=Lib.hid (step_below hB1.out hb2)
  have H1':=Lib.hid (H1.out.into hb2)
  clear hb2 hc0 hc1 hf0 hf1 hs hB1 H1
  have HC:Hid (cmpI a b=cmpN y x):=by
   have h1:=SA.out
   have h2:=SB.out
   rw [← h1,← h2]
   exact cmpI_neg x y
  go_wp2_with fail
  refine (compare_any _ _ _ _ y x _ H2.out.mem.2.2 H1'.out.mem.2.2 hlb hla).mono ?_
  rintro e w2' ⟨rfl,nd,rfl⟩
  have HD:=Lib.hid (step_below HW.out (step_below hB2.out (below_drewN w2 nd)))
  rw [← HC.out]
  go_wp2
  go_ret
  exact ⟨rfl,HD.out⟩
end Go.Proofs.YtgaehhapjnbieaaGreat
