/- Layer 5: the reference's Made: its contract. -/
import Derived.Test.YtegaedfdddapnaaGreatqN19a
import Derived.Test.YtegaedfdddapnaaGreatqN19b
import Derived.Test.YtegaedfdddapnaaGreatqN19c
import Derived.Test.YtegaedfdddapnaaGreatqN19d
import Derived.Test.YtegaedfdddapnaaGreatqN19e
set_option linter.unusedSectionVars false
set_option linter.unusedVariables false
set_option linter.unusedSimpArgs false
set_option maxRecDepth 100000
namespace Go.Proofs.YtegaedfdddapnaaGreat
open Go.RowKit
theorem He{R C a n L:Nat}(h:Vh R C a n=true)(h1:a≤L)(h2:L<a+n):YZ R C L=true:=by
 have:=List.all_eq_true.1 h (L - a) (List.mem_range.2 (by omega));rwa [show a+(L - a)=L by omega] at this
theorem EU{R c n C L:Nat}(h:Rw R c n=true)(h1:c≤C)(h2:C<c+n)(hL:L≤R*C):YZ R C L=true:=by
 have:=List.all_eq_true.1 h (C - c) (List.mem_range.2 (by omega));rw [show c+(C - c)=C by omega] at this;exact He this (Nat.zero_le _) (by omega)
theorem nU{R C L:Nat}(hR:R<5)(hC:C<6)(hL:L≤R*C):YZ R C L=true:=by
 match R,hR with
 | 0,_=>exact EU AiE (Nat.zero_le _) hC hL
 | 1,_=>exact EU AiS (Nat.zero_le _) hC hL
 | 2,_=>exact EU AiN (Nat.zero_le _) hC hL
 | 3,_ =>
  by_cases h:C<4
  ·exact EU Agb (Nat.zero_le _) h hL
  ·by_cases h:C<5
   ·exact EU AeL (by omega) h hL
   ·exact EU Ag3 (by omega) (by omega) hL
 | 4,_ =>
  by_cases h:C<3
  ·exact EU AfB (Nat.zero_le _) h hL
  ·by_cases h:C<4
   ·exact EU Ahg (by omega) (by omega) hL
   ·by_cases h4:C=4
    ·subst h4
     by_cases h:L<9
     ·exact He Ahr (Nat.zero_le _) h
     ·exact He AfZ (by omega) (by omega)
    ·have h5:C=5:=by omega
     subst h5
     by_cases h:L<7
     ·exact He Aha (Nat.zero_le _) h
     ·by_cases h:L<14
      ·exact He Agy (by omega) h
      ·exact He AfR (by omega) (by omega)
noncomputable def Rl(R C L:Nat):CE:=match Aer R C L with
 | some (.tup [a,_],U)=>(zU U a).getD (.lit 0)
 | _=>.lit 0
noncomputable def LZ(zr zc:Int)(l:List Rat):List (List Rat):=mD (Dm zr zc l) (Rl (zr.toNat % 5) (zc.toNat % 6) (min l.length ((zr.toNat % 5)*(zc.toNat % 6))))
theorem OL{R C L:Nat}{a:AV}{c:Int}{U:HP}{m:CE}(h1:Aer R C L=some (.tup [a,.val (.int .i64 c)],U))(h2:zU U a=some m):Rl R C L=m:=by
 unfold Rl;rw [h1];show (zU U a).getD (.lit 0)=m;rw [h2];rfl
theorem jZ{zr zc:Int}{l:List Rat}(hl:∀ q∈l,-32768≤q.num∧q.num≤32767):wG (zc.toNat % 6) (LZ zr zc l)∧(LZ zr zc l).length=zr.toNat % 5:=by
 unfold LZ;have hrun:=nU (R:=zr.toNat % 5) (C:=zc.toNat % 6) (L:=min l.length ((zr.toNat % 5)*(zc.toNat % 6))) (by omega) (by omega) (Nat.min_le_right _ _);generalize zr.toNat % 5=R at hrun;generalize zc.toNat % 6=C at hrun;generalize min l.length (R*C)=L at hrun;unfold YZ at hrun;split at hrun
 ·rename_i a c U hw
  split at hrun
  ·rename_i m hk
   rw [Bool.and_eq_true] at hrun;obtain ⟨i1,i2⟩:=KQ (V:=Dm zr zc l) (λe _=>(Aax hl e).1) hrun.1;rw [OL hw hk];exact ⟨i2,i1⟩
  ·cases hrun
 ·cases hrun
theorem AbC{zr zc:Int}{l:List Rat}(h1:0≤zr∧zr≤255)(h2:0≤zc∧zc≤255)(hl:∀ q∈l,-32768≤q.num∧q.num≤32767)(hlen:l.length≤1000000000000000){M:Nat→Prop}{w:World}{v:Value}(hm0:∀ b,M b→b<w.heap.size)(hv:@CH (Ab (Dm zr zc l)) BP M w Aaj [v]) :
  Calls Tryz.prog 11 #[v] w λe w'=>∃ u:Value,e = .returned (.tuple #[u,.int .i64 (zc.toNat % 6:Nat)])∧(XP.mat (LZ zr zc l)).p M w' [u]∧Below w.heap.size w w':=by
 have hm:LZ zr zc l=mD (Dm zr zc l) (Rl (zr.toNat % 5) (zc.toNat % 6) (min l.length ((zr.toNat % 5)*(zc.toNat % 6)))):=rfl;have er:zr.tmod 5=((zr.toNat % 5:Nat):Int):=by
  obtain ⟨n,rfl⟩:=Int.eq_ofNat_of_zero_le h1.1;rfl
 have ec:zc.tmod 6=((zc.toNat % 6:Nat):Int):=by
  obtain ⟨n,rfl⟩:=Int.eq_ofNat_of_zero_le h2.1;rfl
 generalize hR:zr.toNat % 5=R at er hm;generalize hC:zc.toNat % 6=C at ec hm;have hR5:R<5:=by omega
 have hC6:C<6:=by omega
 have hrun:=nU (L:=min l.length (R*C)) hR5 hC6 (Nat.min_le_right _ _);generalize hL:min l.length (R*C)=L at hrun hm;have hF:Bq (Dm zr zc l) (Adu R C L):=by
  refine ⟨rfl,zR h1 h2 hl hlen,λx hx=>?_,λx hx=>(by cases hx),λx hx=>(by cases hx),λx hx=>(by cases hx),λx hx=>(by cases hx),λx hx=>(by cases hx),λx hx=>(by cases hx)⟩;have z0:(Dm zr zc l).z 0=0:=rfl;have za:(Dm zr zc l).z 11=(R:Int):=er;have zb:(Dm zr zc l).z 12=(C:Int):=ec;have zl:(Dm zr zc l).z 13=(l.length:Int):=rfl
  rcases List.mem_append.1 hx with hx | hx
  ·simp only [List.mem_cons,List.not_mem_nil,or_false] at hx
   rcases hx with rfl | rfl | rfl | rfl | rfl
   ·dsimp only; omega
   ·dsimp only; omega
   ·dsimp only; omega
   ·dsimp only; omega
   ·dsimp only; omega
  ·split at hx
   ·rw [List.mem_singleton] at hx
    subst hx;dsimp only;omega
   ·cases hx
 have hPE:∀ e∈[pMd],@PE.ok (Ab (Dm zr zc l)) e:=λe he=>by
  rw [List.mem_singleton] at he;subst he;refine AdI (zR h1 h2 hl hlen) λe he=>?_
  obtain ⟨d1,d2⟩:=Aax (zr:=zr) (zc:=zc) hl e;have:=Qv hl e;have a:=O_ (p:=(l.getD e 0).num / 256) (by omega) (by omega);rw [AaC he,AaG he];exact ⟨by omega,rfl,d2⟩
 have hT:@Fo (Ab (Dm zr zc l)) (AfW R C L):=@Fo.mk (Ab _) _ (EC hF hPE) (Acn hF Acj) (@DU (Ab _));unfold YZ at hrun;split at hrun
 ·rename_i a c U hw
  split at hrun
  ·rename_i m hk
   rw [Bool.and_eq_true] at hrun;have hc:=of_decide_eq_true hrun.2;rw [OL hw hk] at hm;refine Calls.mono (wL (vs:=[v]) hT hw hm0 hv) λe w' ⟨u,ρ',M',e1,e2,e3,e4⟩=>?_
   obtain ⟨vs,rfl,va,r1,q1,k1,vb,r2,q2,k2,k5⟩:=e2;have k5:_=[]:=k5;subst k5;subst q2;have q1:vs = #[va,vb]:=Array.toList_inj.1 q1;subst q1;have k2:vb = .int .i64 c:=k2;have k1:=OJ (M:=M) hF hm0 e3 hk k1;have k1:@Rp (Ab (Dm zr zc l)) BP M w' (aM m) [va]:=k1;unfold Rp at k1;refine ⟨va,?_,by rw [hm]; exact k1.2,e4⟩;rw [e1,k2,hc]
  ·cases hrun
 ·cases hrun
end Go.Proofs.YtegaedfdddapnaaGreat
