/- Walks: build, parts, toWord, and the small functions on integers. -/
import Derived.Test.YtdopbgnkneeceaaGreatqW2
set_option linter.unusedSectionVars false
set_option linter.unusedVariables false
set_option linter.unusedSimpArgs false
set_option maxRecDepth 100000
namespace Go.Proofs.YtdopbgnkneeceaaGreat
open Go.RowKit
set_option maxHeartbeats 400000 in
theorem ZL(neg:Bool)(A:Option Addr)(n c:Nat)(ms:List Nat)(w:World)(hn:ms.length=n)(hm:CQ w w.heap.size A ms)(hl:n≤4398046511104)(hc:n≤c)(h32:Bx ms) :
  Calls Tryz.prog 102 #[.bool neg,.slice A n c] w (Be (BK neg (val ms)) w):=by
 obtain ⟨l1,l2,_⟩:=DY h32;have HN:=Lib.hid hn;have HL:=Lib.hid l1;clear hn l1
 by_cases h0:val ms=0
 ·have e0:len (val ms)=0:=by rw [h0,AX]
  have HE:=Lib.hid e0;have H0:=Lib.hid h0;clear e0 h0
  go_enter Tryz.func102,Tryz.ntmps102
  go_wp2_with fail
  refine (Dg A n c ms _ HN.out (hm.into (Ai _ _)) hl hc h32).mono ?_
  rintro e w' ⟨rfl,rfl⟩
  rw [HE.out]
  go_wp2
  refine bodyPost_ret (v:=.agg #[.bool false,.slice none 0 0]) (by simp [results,Tryz.results102,go_sem]) rfl ⟨_,rfl,?_,?_⟩
  ·rw [H0.out,S9]; exact Al.zero _ _ _
  ·first | exact Ai _ _ | exact (Ai _ _).setCell (by simp) _
 ·have e0:((len (val ms):Int) == 0)=false:=by
   have:len (val ms)≠0:=λh=>h0 (AZ.1 h)
   simp; omega
  go_enter Tryz.func102,Tryz.ntmps102
  go_wp2_with fail
  refine (Dg A n c ms _ HN.out (hm.into (Ai _ _)) hl hc h32).mono ?_
  rintro e w' ⟨rfl,rfl⟩
  go_wp2
  refine bodyPost_ret (v:=.agg #[.bool neg,.slice A (len (val ms)) c]) (by simp [results,Tryz.results102,go_sem]) rfl ⟨_,rfl,?_,?_⟩
  ·refine Al.mk ⟨A,c,rfl,by have:=HN.out; omega,?_⟩ (λh=>absurd h h0)
   rw [HL.out];exact (hm.into (Ai _ _)).take _
  ·first | exact Ai _ _ | exact (Ai _ _).setCell (by simp) _
theorem Bb(neg:Bool)(v:Value)(x:Nat)(w:World)(h:AB w v x)(hl:len x≤4398046511104) :
  Calls Tryz.prog 102 #[.bool neg,v] w (Be (BK neg x) w):=by
 obtain ⟨A,c,rfl,hc,hm⟩:=h;have:=ZL neg A (len x) c (Ae x) w rfl hm hl hc (As x);rwa [Ao] at this
def WH(z:Int)(w:World)(e:Ending)(w':World):Prop:=∃ A c,e = .returned (.tuple #[.bool (decide (z<0)),.slice A (len z.natAbs) c])∧len z.natAbs≤c∧CQ w' w'.heap.size A (Ae z.natAbs)∧Below w.heap.size w w'
set_option maxHeartbeats 400000 in
theorem dA(v:Value)(z:Int)(w:World)(h:Al w v z)(hl:len z.natAbs≤4398046511104) :
  Calls Tryz.prog 104 #[v] w (WH z w):=by
 obtain ⟨s,rfl,A,c,rfl,hc,hm⟩:=h
 by_cases hz:z<0
 ·have hd:decide (z<0)=true:=by simpa using hz
  have hp:decide (0<len z.natAbs)=true:=by
   have:len z.natAbs≠0:=λh=>by have:=AZ.1 h; omega
   simp; omega
  have HD:=Lib.hid hd;clear hd;rw [HD.out]
  go_enter Tryz.func104,Tryz.ntmps104
  go_wp2_with fail
  refine (Sj A c _ _ (hm.into (Ai _ _)) hl hc).mono ?_
  rintro e w' ⟨rfl,rfl⟩
  go_wp2
  go_ret2
  refine ⟨A,c,by rw [HD.out]; rfl,hc,hm.into (Ai _ _),Ai _ _⟩
 ·have hd:decide (z<0)=false:=by simpa using hz
  have HD:=Lib.hid hd;clear hd;rw [HD.out]
  go_enter Tryz.func104,Tryz.ntmps104
  go_wp2_with fail
  refine (Sj A c _ _ (hm.into (Ai _ _)) hl hc).mono ?_
  rintro e w' ⟨rfl,rfl⟩
  go_wp2
  go_ret2
  refine ⟨A,c,by rw [HD.out]; rfl,hc,hm.into (Ai _ _),Ai _ _⟩
theorem BC(v:Value)(z:Int)(n:Nat)(b:Bool)(w:World)(h:Al w v z)(hn:z.natAbs=n)(hb:decide (z<0)=b)(hl:len n≤4398046511104) :
  Calls Tryz.prog 104 #[v] w λe w'=>∃ A c,e = .returned (.tuple #[.bool b,.slice A (len n) c])∧Hid (AB w' (.slice A (len n) c) n)∧Below w.heap.size w w':=by
 subst hn hb;exact (dA v z w h hl).mono λe w' ⟨A,c,he,hc,hm,hb⟩=>⟨A,c,he,⟨A,c,rfl,hc,hm⟩,hb⟩
theorem AjW(ms:List Nat)(h:ms.length≤2):val ms=ms.getD 0 0+4294967296*ms.getD 1 0:=by
 match ms,h with
 | [],_=>rfl
 | [a],_=>simp [val]
 | [a,b],_=>simp [val]
theorem rL(a b:Nat)(hb:b<4294967296):(a*4294967296) ||| b=a*4294967296+b:=by
 have:=Nat.two_pow_add_eq_or_of_lt (i:=32) (b:=b) (by simpa using hb) a;have e:(2:Nat) ^ 32=4294967296:=by decide
 rw [e] at this;rw [Nat.mul_comm,← this]
theorem OO(a:Nat)(ha:a<18446744073709551616):(BitVec.ofInt 64 (a:Int)).toNat=a:=by
 rw [BitVec.ofInt_natCast,BitVec.toNat_ofNat]; exact Nat.mod_eq_of_lt (by omega)
theorem Gt(a b:Nat)(ha:a<18446744073709551616)(hb:b<18446744073709551616):bits .or .u64 (a:Int) (b:Int)=((a ||| b:Nat):Int):=by
 have hx:a ||| b<2 ^ 64:=Nat.or_lt_two_pow (by omega) (by omega)
 show IntKind.u64.wrap ((BitVec.ofInt 64 (a:Int) ||| BitVec.ofInt 64 (b:Int)).toNat:Int)=_;rw [BitVec.toNat_or,OO a ha,OO b hb,IntKind.wrap_u64];omega
theorem Bo(a:Nat)(h:a<18446744073709551616):IntKind.u64.wrap (a:Int)=(a:Int):=by rw [IntKind.wrap_u64]; omega
theorem Aar(p q:Nat)(hp:p<4294967296)(hq:q<4294967296):bits .or .u64 (IntKind.u64.wrap (IntKind.u64.wrap (p:Int)*4294967296)) (IntKind.u64.wrap (q:Int))=((q+4294967296*p:Nat):Int):=by
 rw [Bo p (by omega),Bo q (by omega)];have e:(p:Int)*4294967296=((p*4294967296:Nat):Int):=by omega
 rw [e,Bo _ (by omega),Gt _ _ (by omega) (by omega),rL _ _ hq];omega
set_option maxHeartbeats 400000 in
theorem IU(A:Option Addr)(c x:Nat)(w:World)(hm:CQ w w.heap.size A (Ae x))(hx:x<18446744073709551616) :
  Calls Tryz.prog 129 #[.slice A (len x) c] w λe w'=>e = .returned (.int .u64 x)∧w=w':=by
 have hl:len x≤2:=EL hx;have hv:=AjW (Ae x) hl;rw [Ao] at hv;have b0:=(As x).at_ 0;have b1:=(As x).at_ 1;obtain ⟨p,hp⟩:∃ p,(Ae x).getD 0 0=p:=⟨_,rfl⟩;obtain ⟨q,hq⟩:∃ p,(Ae x).getD 1 0=p:=⟨_,rfl⟩;rw [hp] at b0 hv;rw [hq] at b1 hv;have HV:=Lib.hid hv;have HP:=Lib.hid hp;have HQ:=Lib.hid hq;have hw:=Lib.hid (Aar q p b1 b0);clear hv hp hq
 go_enter Tryz.func129,Tryz.ntmps129
 go_wp2_with fail
 refine (D_ A (len x) c (Ae x) 1 q w rfl hm (by omega) (by omega) (by omega) HQ.out).mono ?_
 rintro e w' ⟨rfl,rfl⟩
 go_wp2_with fail
 refine (D_ A (len x) c (Ae x) 0 p w rfl hm (by omega) (by omega) (by omega) HP.out).mono ?_
 rintro e w' ⟨rfl,rfl⟩
 go_wp2
 go_ret
 have:=hw.out;rw [Bo p (by omega),Bo q (by omega),show (q:Int)*4294967296=((q*4294967296:Nat):Int) from by omega,Bo _ (by omega)] at this;simp only [Int.natCast_mul] at this;rw [HV.out,← this];exact ⟨rfl,rfl⟩
set_option maxHeartbeats 400000 in
theorem cE(n:Nat)(w:World)(hn:n<9223372036854775808) :
  Calls Tryz.prog 77 #[.int .i64 n] w (Be n w):=by
 have h0:decide ((n:Int)<0)=false:=by simp
 have hl:len n≤2:=EL (by omega)
 go_enter Tryz.func77,Tryz.ntmps77
 go_wp2_with fail
 refine (CV n _ (by omega)).mono ?_
 rintro e w1 ⟨v,rfl,hv,hb⟩
 go_wp2_with fail
 refine (Bb false v n _ hv (by omega)).mono ?_
 rintro e w2 ⟨v2,rfl,hv2,hb2⟩
 obtain ⟨b,A,k,c,rfl,H⟩:=hv2.open_;have hB:=Ac hb hb2;obtain ⟨hc0,hc1,hf0,hf1,hs⟩:=NC hB;have HE:=Lib.hid (C5 (x':=.bool b) (y':=.slice A k c) hB H.out);clear hB
 go_wp2
 refine bodyPost_ret (v:=.agg #[.bool b,.slice A k c]) (by simp [results,Tryz.results77,go_sem,hc0,hc1]) rfl ⟨_,rfl,HE.out.1,HE.out.2⟩
end Go.Proofs.YtdopbgnkneeceaaGreat
