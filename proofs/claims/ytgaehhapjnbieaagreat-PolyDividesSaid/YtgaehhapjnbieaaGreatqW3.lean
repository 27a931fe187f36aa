/- Walks: build, parts, toWord, and the small functions on integers. -/
import Derived.Test.YtgaehhapjnbieaaGreatqW2
import Derived.Test.YtgaehhapjnbieaaGreatqMem
set_option linter.unusedSectionVars false
set_option linter.unusedVariables false
set_option linter.unusedSimpArgs false
namespace Go.Proofs.YtgaehhapjnbieaaGreat
open Go.RowKit
set_option maxHeartbeats 400000 in
theorem build_raw (neg:Bool) (A:Option Addr) (n c:Nat) (ms:List Nat) (w:World) (hn:ms.length=n) (hm:Mem w w.heap.size A ms) (hl:n≤4398046511104) (hc:n≤c) (h32:L32 ms) :
  Calls Tryz.prog 126 #[.bool neg,.slice A n c] w (GivesInt (sgn neg (val ms)) w):=by
 obtain ⟨l1,l2,_⟩:=limbs_val h32
 have HN:=Lib.hid hn
 have HL:=Lib.hid l1
 clear hn l1
 by_cases h0:val ms=0
 ·have e0:len (val ms)=0:=by rw [h0,len_zero]
  have HE:=Lib.hid e0
  have H0:=Lib.hid h0
  clear e0 h0
  go_enter Tryz.func126,Tryz.ntmps126
  go_wp2_with fail
  refine (trim_k A n c ms _ HN.out (hm.into (below_alloc _ _)) hl hc h32).mono ?_
  rintro e w' ⟨rfl,rfl⟩
  rw [HE.out]
  go_wp2
  refine bodyPost_ret (v:=.agg #[.bool false,.slice none 0 0]) (by simp [results,Tryz.results126,go_sem]) rfl ⟨_,rfl,?_,?_⟩
  ·rw [H0.out,sgn_zero]; exact IntAt.zero _ _ _
  ·first | exact below_alloc _ _ | exact (below_alloc _ _).setCell (by simp) _
 ·have e0:((len (val ms):Int) == 0)=false:=by
   have:len (val ms)≠0:=fun h=>h0 (len_eq_zero.1 h)
   simp; omega
  go_enter Tryz.func126,Tryz.ntmps126
  go_wp2_with fail
  refine (trim_k A n c ms _ HN.out (hm.into (below_alloc _ _)) hl hc h32).mono ?_
  rintro e w' ⟨rfl,rfl⟩
  go_wp2
  refine bodyPost_ret (v:=.agg #[.bool neg,.slice A (len (val ms)) c]) (by simp [results,Tryz.results126,go_sem]) rfl ⟨_,rfl,?_,?_⟩
  ·refine IntAt.mk ⟨A,c,rfl,by have:=HN.out; omega,?_⟩ (fun h=>absurd h h0)
   rw [HL.out]
   exact (hm.into (below_alloc _ _)).take _
  ·first | exact below_alloc _ _ | exact (below_alloc _ _).setCell (by simp) _
theorem build_any (neg:Bool) (v:Value) (x:Nat) (w:World) (h:NatAt w v x) (hl:len x≤4398046511104) :
  Calls Tryz.prog 126 #[.bool neg,v] w (GivesInt (sgn neg x) w):=by
 obtain ⟨A,c,rfl,hc,hm⟩:=h
 have:=build_raw neg A (len x) c (limbs x) w rfl hm hl hc (limbs_32 x)
 rwa [val_limbs] at this
def GivesParts (z:Int) (w:World) (e:Ending) (w':World):Prop:=∃ A c,e = .returned (.tuple #[.bool (decide (z<0)),.slice A (len z.natAbs) c])∧len z.natAbs≤c∧Mem w' w'.heap.size A (limbs z.natAbs)∧Below w.heap.size w w'
set_option maxHeartbeats 400000 in
theorem parts_any (v:Value) (z:Int) (w:World) (h:IntAt w v z) (hl:len z.natAbs≤4398046511104) :
  Calls Tryz.prog 125 #[v] w (GivesParts z w):=by
 obtain ⟨s,rfl,A,c,rfl,hc,hm⟩:=h
 by_cases hz:z<0
 ·have hd:decide (z<0)=true:=by simpa using hz
  have hp:decide (0<len z.natAbs)=true:=by
   have:len z.natAbs≠0:=fun h=>by have:=len_eq_zero.1 h; omega
   simp; omega
  have HD:=Lib.hid hd
  clear hd
  rw [HD.out]
  go_enter Tryz.func125,Tryz.ntmps125
  go_wp2_with fail
  refine (trim_nat A c _ _ (hm.into (below_alloc _ _)) hl hc).mono ?_
  rintro e w' ⟨rfl,rfl⟩
  go_wp2
  go_ret2
  refine ⟨A,c,by rw [HD.out]; rfl,hc,hm.into (below_alloc _ _),below_alloc _ _⟩
 ·have hd:decide (z<0)=false:=by simpa using hz
  have HD:=Lib.hid hd
  clear hd
  rw [HD.out]
  go_enter Tryz.func125,Tryz.ntmps125
  go_wp2_with fail
  refine (trim_nat A c _ _ (hm.into (below_alloc _ _)) hl hc).mono ?_
  rintro e w' ⟨rfl,rfl⟩
  go_wp2
  go_ret2
  refine ⟨A,c,by rw [HD.out]; rfl,hc,hm.into (below_alloc _ _),below_alloc _ _⟩
theorem parts_is (v:Value) (z:Int) (n:Nat) (b:Bool) (w:World) (h:IntAt w v z) (hn:z.natAbs=n) (hb:decide (z<0)=b) (hl:len n≤4398046511104) :
  Calls Tryz.prog 125 #[v] w fun e w'=>∃ A c,e = .returned (.tuple #[.bool b,.slice A (len n) c])∧Hid (NatAt w' (.slice A (len n) c) n)∧Below w.heap.size w w':=by
 subst hn hb
 exact (parts_any v z w h hl).mono fun e w' ⟨A,c,he,hc,hm,hb⟩=>⟨A,c,he,⟨A,c,rfl,hc,hm⟩,hb⟩
end Go.Proofs.YtgaehhapjnbieaaGreat
namespace Go.Proofs.YtgaehhapjnbieaaGreat
open Go.RowKit
theorem val2 (ms:List Nat) (h:ms.length≤2):val ms=ms.getD 0 0+4294967296*ms.getD 1 0:=by
 match ms,h with
 | [],_=>rfl
 | [a],_=>simp [val]
 | [a,b],_=>simp [val]
theorem shl_or (a b:Nat) (hb:b<4294967296):(a*4294967296) ||| b=a*4294967296+b:=by
 have:=Nat.two_pow_add_eq_or_of_lt (i:=32) (b:=b) (by simpa using hb) a
 have e:(2:Nat) ^ 32=4294967296:=by decide
 rw [e] at this
 rw [Nat.mul_comm,← this]
theorem ofInt_u64 (a:Nat) (ha:a<18446744073709551616):(BitVec.ofInt 64 (a:Int)).toNat=a:=by
 rw [BitVec.ofInt_natCast,BitVec.toNat_ofNat]; exact Nat.mod_eq_of_lt (by omega)
theorem u64_or_nat (a b:Nat) (ha:a<18446744073709551616) (hb:b<18446744073709551616):bits .or .u64 (a:Int) (b:Int)=((a ||| b:Nat):Int):=by
 have hx:a ||| b<2 ^ 64:=Nat.or_lt_two_pow (by omega) (by omega)
 show IntKind.u64.wrap ((BitVec.ofInt 64 (a:Int) ||| BitVec.ofInt 64 (b:Int)).toNat:Int)=_
 rw [BitVec.toNat_or,ofInt_u64 a ha,ofInt_u64 b hb,IntKind.wrap_u64]
 omega
theorem wrap_u64_nat (a:Nat) (h:a<18446744073709551616):IntKind.u64.wrap (a:Int)=(a:Int):=by rw [IntKind.wrap_u64]; omega
theorem word_of (p q:Nat) (hp:p<4294967296) (hq:q<4294967296):bits .or .u64 (IntKind.u64.wrap (IntKind.u64.wrap (p:Int)*4294967296)) (IntKind.u64.wrap (q:Int))=((q+4294967296*p:Nat):Int):=by
 rw [wrap_u64_nat p (by omega),wrap_u64_nat q (by omega)]
 have e:(p:Int)*4294967296=((p*4294967296:Nat):Int):=by omega
 rw [e,wrap_u64_nat _ (by omega),u64_or_nat _ _ (by omega) (by omega),shl_or _ _ hq]
 omega
set_option maxHeartbeats 400000 in
theorem toWord_any (A:Option Addr) (c x:Nat) (w:World) (hm:Mem w w.heap.size A (limbs x)) (hx:x<18446744073709551616) :
  Calls Tryz.prog 143 #[.slice A (len x) c] w fun e w'=>e = .returned (.int .u64 x)∧w=w':=by
 have hl:len x≤2:=len_le_two hx
 have hv:=val2 (limbs x) hl
 rw [val_limbs] at hv
 have b0:=(limbs_32 x).at_ 0
 have b1:=(limbs_32 x).at_ 1
 obtain ⟨p,hp⟩:∃ p,(limbs x).getD 0 0=p:=⟨_,rfl⟩
 obtain ⟨q,hq⟩:∃ p,(limbs x).getD 1 0=p:=⟨_,rfl⟩
 rw [hp] at b0 hv
 rw [hq] at b1 hv
 have HV:=Lib.hid hv
 have HP:=Lib.hid hp
 have HQ:=Lib.hid hq
 have hw:=Lib.hid (word_of q p b1 b0)
 clear hv hp hq
 go_enter Tryz.func143,Tryz.ntmps143
 go_wp2_with fail
 refine (limb_is A (len x) c (limbs x) 1 q w rfl hm (by omega) (by omega) (by omega) HQ.out).mono ?_
 rintro e w' ⟨rfl,rfl⟩
 go_wp2_with fail
 refine (limb_is A (len x) c (limbs x) 0 p w rfl hm (by omega) (by omega) (by omega) HP.out).mono ?_
 rintro e w' ⟨rfl,rfl⟩
 go_wp2
 go_ret
 have:=hw.out
 rw [wrap_u64_nat p (by omega),wrap_u64_nat q (by omega),show (q:Int)*4294967296=((q*4294967296:Nat):Int) from by omega,wrap_u64_nat _ (by omega)] at this
 simp only [Int.natCast_mul] at this
 rw [HV.out,← this]
 exact ⟨rfl,rfl⟩
set_option maxHeartbeats 400000 in
theorem Of_nonneg (n:Nat) (w:World) (hn:n<9223372036854775808) :
  Calls Tryz.prog 106 #[.int .i64 n] w (GivesInt n w):=by
 have h0:decide ((n:Int)<0)=false:=by simp
 have hl:len n≤2:=len_le_two (by omega)
 go_enter Tryz.func106,Tryz.ntmps106
 go_wp2_with fail
 refine (fromWord_any n _ (by omega)).mono ?_
 rintro e w1 ⟨v,rfl,hv,hb⟩
 go_wp2_with fail
 refine (build_any false v n _ hv (by omega)).mono ?_
 rintro e w2 ⟨v2,rfl,hv2,hb2⟩
 obtain ⟨b,A,k,c,rfl,H⟩:=hv2.open_
 have hB:=step_below hb hb2
 obtain ⟨hc0,hc1,hf0,hf1,hs⟩:=box2 hB
 have HE:=Lib.hid (box2_end (x':=.bool b) (y':=.slice A k c) hB H.out)
 clear hB
 go_wp2
 refine bodyPost_ret (v:=.agg #[.bool b,.slice A k c]) (by simp [results,Tryz.results106,go_sem,hc0,hc1]) rfl ⟨_,rfl,HE.out.1,HE.out.2⟩
end Go.Proofs.YtgaehhapjnbieaaGreat
