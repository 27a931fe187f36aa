/- MatrixEchelon: row operations do not change the reduced row echelon form, which has the described shape and is its own form. No condition. -/
import Derived.Test.YtdopbgnkneeceaaGreatqU5
set_option linter.unusedSectionVars false
set_option linter.unusedVariables false
set_option linter.unusedSimpArgs false
set_option maxRecDepth 100000
namespace Go.Proofs.YtdopbgnkneeceaaGreat
open Go.RowKit
def Abw(v:Value)(z3 z4 z5 z6:Int):Prop:=v = .agg #[.int .u8 z3,.int .u8 z4,.int .u8 z5,.int .i8 z6]∧(0≤z3∧z3≤255)∧(0≤z4∧z4≤255)∧(0≤z5∧z5≤255)∧(-128≤z6∧z6≤127)
def Cw(zr zc z3 z4 z5 z6:Int)(l:List Rat)(m m':List (List Rat))(C:Nat):VL:=⟨λk=>match k with
 | 1=>zr
 | 2=>zc
 | 3=>z3
 | 4=>z4
 | 5=>z5
 | 6=>z6
 | 20=>(m.length:Int)
 | 21=>(m'.length:Int)
 | _=>0,λk=>if k<30 then m.getD k [] else if k<50 then m'.getD (k - 30) [] else if k<60 then l else (BO m C).getD (k - 60) [],λ_=>0,λ_=>[]⟩
section
variable {zr zc z3 z4 z5 z6 : Int} {l : List Rat} {m m' : List (List Rat)} {C : Nat}
theorem Abe:lD (Cw zr zc z3 z4 z5 z6 l m m' C) (.v 50)=l:=by simp [lD,Cw]
theorem TB{k:Nat}:lD (Cw zr zc z3 z4 z5 z6 l m m' C) (.v (60+k))=(BO m C).getD k []:=by
 simp only [lD,Cw];rw [if_neg (by omega),if_neg (by omega),if_neg (by omega),show 60+k - 60=k by omega]
theorem nQ(hR:m.length≤9):mD (Cw zr zc z3 z4 z5 z6 l m m' C) TA=m:=by
 unfold TA;simp only [mD];show (List.range ((m.length:Int)).toNat).map _=_;apply List.ext_getElem
 ·simp
 ·intro i h1 h2
  simp only [List.getElem_map,List.getElem_range];show (if 0+i<30 then m.getD (0+i) [] else _)=_;rw [if_pos (by omega),Nat.zero_add,List.getD_eq_getElem?_getD,List.getElem?_eq_getElem h2];rfl
theorem Abz(hR:m'.length≤9):mD (Cw zr zc z3 z4 z5 z6 l m m' C) ZB=m':=by
 unfold ZB;simp only [mD];show (List.range ((m'.length:Int)).toNat).map _=_;apply List.ext_getElem
 ·simp
 ·intro i h1 h2
  simp only [List.getElem_map,List.getElem_range];show (if 30+i<30 then _ else if 30+i<50 then m'.getD (30+i - 30) [] else _)=_;rw [if_neg (by omega),if_pos (by omega),show 30+i - 30=i by omega,List.getD_eq_getElem?_getD,List.getElem?_eq_getElem h2];rfl
theorem Zy:mD (Cw zr zc z3 z4 z5 z6 l m m' C) (KE (JN (A9 m C)))=BO m C:=Aiq λ_ _=>TB
theorem AgI{k i:Nat}:qD (Cw zr zc z3 z4 z5 z6 l m m' C) (Ej k i)=(lD (Cw zr zc z3 z4 z5 z6 l m m' C) (.v k)).getD i 0:=by
 have:zD (Cw zr zc z3 z4 z5 z6 l m m' C) (.i 0 (i:Int))=(i:Int):=by
  show (0:Int)+(i:Int)=_;omega
 simp only [Ej,qD];rw [this];rfl
theorem ZC(h1:0≤zr∧zr≤255)(h2:0≤zc∧zc≤255)(hl:∀ q∈l,-32768≤q.num∧q.num≤32767)(hlen:l.length≤1000000000000000)(hm:m=Ns zr zc l)(hC:C=zc.toNat % 6)(hR:m.length≤9):@PE.ok (Ab (Cw zr zc z3 z4 z5 z6 l m m' C)) (Pg C):=by
 intro xs r e;refine ⟨λ_ _=>by simp [Pg,go_sem],λρ M w vs hm0 hv=>?_⟩;unfold Pg at e;dsimp only at e;split at e
 ·split at e
  ·rename_i hs
   cases e
   have hs:=C6 hs;subst hs;obtain ⟨va,_,rfl,k1,k5⟩:=hv;have k5:_=[]:=k5;subst k5;obtain ⟨cs,rfl,hc⟩:=k1;have hlf:Ry (Ab (Cw zr zc z3 z4 z5 z6 l m m' C)) (Ab (DQ zr zc l)) yN [.ext 1 false (.ap 66 (.i 1 0) (.lit 0)),.ext 1 false (.ap 66 (.i 2 0) (.lit 0)),.ext 1 false (.ap 68 (.v 0) (.lit 0))]:=by
    refine CY ?_ (CY ?_ (CY ?_ I0))
    ·intro ρ ρ' M w cs r
     unfold Rp at r ⊢;exact r
    ·intro ρ ρ' M w cs r
     unfold Rp at r ⊢;exact r
    ·intro ρ ρ' M w cs r
     unfold Rp at r ⊢;refine ⟨r.1,?_⟩;have r2:(XP.i16s (lD (Cw zr zc z3 z4 z5 z6 l m m' C) (.v 50))).p M w cs:=r.2;have e2:lD (DQ zr zc l) (.v 0)=l:=by simp [lD,DQ]
     show (XP.i16s (lD (DQ zr zc l) (.v 0))).p M w cs;rw [e2,← Abe (zr:=zr) (zc:=zc) (z3:=z3) (z4:=z4) (z5:=z5) (z6:=z6) (l:=l) (m:=m) (m':=m') (C:=C)];exact r2
   refine Calls.mono (Adg h1 h2 hl hlen hm0 ⟨_,_,rfl,⟨cs,rfl,hlf ρ BQ M w _ hc⟩,rfl⟩) λe w' ⟨u,e1,e2,e3⟩=>⟨_,e1,?_,e3⟩
   refine ⟨_,rfl,u,_,rfl,JR ?_,_,_,rfl,?_,rfl⟩
   ·rw [nQ hR,hm]
    exact e2
   ·rw [hC]
    exact rfl
  ·cases e
 ·cases e
theorem Lk{V:VL}{ρ:Bg}{M:Nat→Prop}{w:World}{c d:CE}{v:Value}(h:@Bz (Ab V) ρ M w (.ext 1 false (.ap 64 c d)) v):(XP.mat (mD V c)).p M w [v]:=by
 have h:@Rp (Ab V) ρ M w (.ext 1 false (.ap 64 c d)) [v]:=h;unfold Rp at h;exact h.2
theorem qP(h:FG C m)(h6 : -128≤z6∧z6≤127):CL C (T6 m C z3 z4 z5 z6)∧(T6 m C z3 z4 z5 z6).length≤m.length+1∧Sp m.length (fM m) (T6 m C z3 z4 z5 z6).length (fM (T6 m C z3 z4 z5 z6))∧Sp (T6 m C z3 z4 z5 z6).length (fM (T6 m C z3 z4 z5 z6)) m.length (fM m):=by
 unfold T6;split
 ·exact ⟨h.ok,by omega,Sp.refl,Sp.refl⟩
 ·rename_i h0
  obtain ⟨s1,s2⟩:=Aiy (w:=z3.toNat % 4) h (Nat.mod_lt z4.toNat (by omega)) (Nat.mod_lt z5.toNat (by omega)) (n:=((z6:Int):Rat)) rfl;refine ⟨Aht h (y:=z6) rfl (by unfold Sm; omega) _,?_,s1,s2⟩;rw [AcT];split <;> omega
theorem xJ(h:FG C m)(hR:m.length≤4)(hC:C≤5)(h3:0≤z3∧z3≤255)(h4:0≤z4∧z4≤255)(h5:0≤z5∧z5≤255)(h6 : -128≤z6∧z6≤127)(hm':m'=T6 m C z3 z4 z5 z6)(hl:m'.length≤9):@PE.ok (Ab (Cw zr zc z3 z4 z5 z6 l m m' C)) wF:=by
 intro xs r e;refine ⟨λ_ _=>by simp [wF,go_sem],λρ M w vs hm0 hv=>?_⟩;unfold wF at e;dsimp only at e;split at e
 ·split at e
  ·rename_i hs
   rw [Bool.and_eq_true] at hs
   cases e
   have e1:=CE.beq_eq hs.1;have e2:=C6 hs.2;subst e1;subst e2;obtain ⟨va,_,rfl,k1,vb,_,rfl,k2,k5⟩:=hv;have k5:_=[]:=k5;subst k5;have k1:=Lk k1;rw [nQ (by omega)] at k1;obtain ⟨cs,rfl,hc⟩:=k2;have hvb:(Value.agg cs) = .agg #[.int .u8 z3,.int .u8 z4,.int .u8 z5,.int .i8 z6]:=by
    unfold VB AQ at hc;obtain ⟨x,y,q1,r1,hc⟩:=hc;unfold AQ at hc;obtain ⟨x2,y2,rfl,r2,hc⟩:=hc;unfold AQ at hc;obtain ⟨x3,y3,rfl,r3,hc⟩:=hc;unfold AQ at hc;obtain ⟨x4,y4,rfl,r4,hc⟩:=hc;unfold AQ at hc;subst hc;unfold Rp at r1 r2 r3 r4;have r1:x=[.int .u8 (z3+0)]:=r1.2;have r2:x2=[.int .u8 (z4+0)]:=r2.2;have r3:x3=[.int .u8 (z5+0)]:=r3.2;have r4:x4=[.int .i8 (z6+0)]:=r4.2.1;subst r1;subst r2;subst r3;subst r4
    congr 1
    apply Array.ext';rw [q1];simp
   refine Calls.mono (qZ h hR hC h3 h4 h5 h6 hm0 k1 hvb) λe w' ⟨u,e1,e2,e3⟩=>⟨u,e1,@Bz.rv (Ab (Cw zr zc z3 z4 z5 z6 l m m' C)) ρ M w' _ _ (JR ?_),e3⟩
   rw [Abz hl,hm'];exact e2
  ·cases e
 ·cases e
theorem vC(h:FG C m)(hR:m.length≤4)(hC:C≤5)(h6 : -128≤z6∧z6≤127)(hm':m'=T6 m C z3 z4 z5 z6):@PE.ok (Ab (Cw zr zc z3 z4 z5 z6 l m m' C)) (yH (MR m C)):=by
 have ht4:A9 m C≤4:=by have:=(Ed h.ok (by omega)).1; omega
 obtain ⟨c1,c2,c3,c4⟩:=qP (m:=m) (C:=C) (z3:=z3) (z4:=z4) (z5:=z5) h h6;rw [← hm'] at c1 c2 c3 c4;obtain ⟨a1,a2,a3⟩:=Oh h.ok c1 (by omega) c3 c4;obtain ⟨b1,b2,b3⟩:=cD h hC ht4;intro xs r e;refine ⟨λ_ _=>by simp [yH,go_sem],λρ M w vs hm0 hv=>?_⟩;unfold yH at e;dsimp only at e;split at e
 ·split at e
  ·rename_i mm hs
   cases e
   obtain ⟨va,_,rfl,k1,k5⟩:=hv;have k5:_=[]:=k5;subst k5;have k1:=Lk k1;have fin:Calls Tryz.prog 12 #[va] w λe w'=>∃ u1 u2,e = .returned (.tuple #[u1,u2])∧(XP.mat (BO m C)).p M w' [u1]∧(XP.ixs ((MR m C).map λp:Nat=>(p:Int))).p M w' [u2]∧Below w.heap.size w w':=by
    rw [Bool.or_eq_true,Bool.or_eq_true] at hs
    rcases hs with (hs | hs) | hs
    ·rw [CE.beq_eq hs,nQ (by omega)] at k1
     exact ML h.ok (by omega) hC ht4 hm0 k1
    ·rw [CE.beq_eq hs,Abz (by omega)] at k1
     have:=ML c1 (by omega) hC (by omega) hm0 k1;rw [← a2,← a3] at this;exact this
    ·rw [CE.beq_eq hs,Ee,Zy] at k1
     have:=ML (XU h hC ht4) (by rw [BU]; omega) hC (by omega) hm0 k1;rw [b2,b3] at this;exact this
   refine Calls.mono fin λe w' ⟨u1,u2,e1,e2,e3,e4⟩=>⟨_,e1,⟨_,rfl,u1,_,rfl,JR ?_,u2,_,rfl,uB e3,rfl⟩,e4⟩
   rw [Ee,Zy];exact e2
  ·cases e
 ·cases e
theorem yK(h:FG C m)(hR:m.length≤4)(hC:C≤5):@PE.ok (Ab (Cw zr zc z3 z4 z5 z6 l m m' C)) (wE (MR m C).length):=by
 have ht4:A9 m C≤4:=by have:=(Ed h.ok (by omega)).1; omega
 intro xs r e;refine ⟨λ_ _=>by simp [wE,go_sem],λρ M w vs hm0 hv=>?_⟩;unfold wE at e;dsimp only at e;split at e
 ·split at e
  ·rename_i a b hs
   rw [Bool.and_eq_true] at hs
   cases e
   obtain ⟨va,_,rfl,k1,vb,_,rfl,k2,k5⟩:=hv;have k5:_=[]:=k5;subst k5;have k1:=Lk k1;have k2:=Lk k2;rw [CE.beq_eq hs.1,Ee,Zy] at k1;rw [CE.beq_eq hs.2,Ee,Zy] at k2;refine Calls.mono (Ah6 (by rw [BU]; exact ht4) hC (λk hk=>?_) (λk hk=>?_) hm0 k1 k2) λe w' ⟨e1,e3⟩=>⟨_,e1,rfl,e3⟩
   ·rw [BU] at hk
    rw [Cz hk,F8 h.ok (by omega) hk]
   ·rw [BU] at hk
    rw [Cz hk];exact XE h.ok (by omega) (by omega) ht4 hk
  ·cases e
 ·cases e
theorem vT(h:FG C m)(hC:C≤5):@PE.ok (Ab (Cw zr zc z3 z4 z5 z6 l m m' C)) (vK (MR m C)):=by
 obtain ⟨hr,_,_,hp⟩:=EZ h.ok (by omega:C≤6);intro xs r e;refine ⟨λ_ _=>by simp [vK,go_sem],λρ M w vs hm0 hv=>?_⟩;unfold vK at e;dsimp only at e;split at e
 ·split at e
  ·rename_i k p d hs
   rw [Bool.and_eq_true,Bool.and_eq_true] at hs
   cases e
   have s1:=Nat.le_of_ble_eq_true hs.1.1;have s2:k - 60<(MR m C).length:=Nat.le_of_ble_eq_true hs.1.2;have s3:=Nat.eq_of_beq_eq_true hs.2;obtain ⟨i,rfl⟩:∃ i,k=60+i:=⟨k - 60,by omega⟩;rw [show 60+i - 60=i by omega] at s2 s3;rw [Ee] at s2;obtain ⟨va,_,rfl,k1,k5⟩:=hv;have k5:_=[]:=k5;subst k5;have k1:=C3 k1;have hpv:p=U7 m C i:=by
    rw [← s3];unfold MR;rw [List.getD_eq_getElem?_getD,List.getElem?_map,List.getElem?_range s2];rfl
   have e1:lD (Cw zr zc z3 z4 z5 z6 l m m' C) (.ap 20 (.v (60+i)) (.ap 1 (.v 0) (.lit (.ofNat p))))=(IZ m C i).take p:=by
    have e0:lD (Cw zr zc z3 z4 z5 z6 l m m' C) (.ap 20 (.v (60+i)) (.ap 1 (.v 0) (.lit (.ofNat p))))=(lD (Cw zr zc z3 z4 z5 z6 l m m' C) (.v (60+i))).take (zD (Cw zr zc z3 z4 z5 z6 l m m' C) (.i 0 (p:Int))).toNat:=by simp only [lD]; rfl
    have ez:zD (Cw zr zc z3 z4 z5 z6 l m m' C) (.i 0 (p:Int))=(p:Int):=by
     show (0:Int)+(p:Int)=_;omega
    rw [e0,ez,TB,Cz s2];rfl
   rw [e1] at k1;have hpc:=hp i s2;refine Calls.mono (AcC (λx hx=>?_) (by rw [List.length_take,F8 h.ok (by omega) s2]; omega) hm0 k1) λe w' ⟨e1,e3⟩=>⟨_,e1,rfl,e3⟩
   obtain ⟨j,hj,rfl⟩:=List.getElem_of_mem hx;have hj2:j<p:=by
    rw [List.length_take] at hj;omega
   have hj3:j<(IZ m C i).length:=by
    rw [List.length_take] at hj;omega
   rw [List.getElem_take];have:=hr.low i j s2 (by omega);unfold fM at this;rw [Cz s2,List.getD_eq_getElem?_getD,List.getElem?_eq_getElem hj3] at this;exact this
  ·cases e
 ·cases e
theorem Ahx(h1:0≤zr∧zr≤255)(h2:0≤zc∧zc≤255)(h3:0≤z3∧z3≤255)(h4:0≤z4∧z4≤255)(h5:0≤z5∧z5≤255)(h6 : -128≤z6∧z6≤127)(h:FG C m)(hR:m.length≤4)(hR':m'.length≤9)(hC:C≤5):Bi (Cw zr zc z3 z4 z5 z6 l m m' C) (Ae8 C (MR m C)):=by
 have ht4:A9 m C≤4:=by have:=(Ed h.ok (by omega)).1; omega
 obtain ⟨hr,_,_,hp⟩:=EZ h.ok (by omega:C≤6);refine ⟨rfl,λk=>?_,λx hx=>(by cases hx),λx hx=>?_,λx hx=>?_,λx hx=>?_,λx hx=>(by cases hx),λx hx=>(by cases hx),λx hx=>(by cases hx)⟩
 ·simp only [Cw]
  split <;> omega
 ·obtain ⟨k,hk,rfl⟩:=List.mem_map.1 hx
  have hk:=List.mem_range.1 hk;rw [Ee] at hk;dsimp only;rw [TB,Cz hk,F8 h.ok (by omega) hk];show (C:Int)=0+C;omega
 ·obtain ⟨k,hk,rfl⟩:=List.mem_map.1 hx
  have hk:=List.mem_range.1 hk;rw [Ee] at hk;intro y hy;dsimp only at hy;rw [TB,Cz hk] at hy;exact XE h.ok (by omega) (by omega) ht4 hk y hy
 ·obtain ⟨k,hk,hx⟩:=List.mem_flatMap.1 hx
  have hk:=List.mem_range.1 hk;obtain ⟨i,hi,rfl⟩:=List.mem_map.1 hx;have hi:=List.mem_range.1 hi;rw [Ee] at hk hi;dsimp only;refine decide_eq_true ?_;have e:∀ p q,qD (Cw zr zc z3 z4 z5 z6 l m m' C) (.ap 32 p q)=qD (Cw zr zc z3 z4 z5 z6 l m m' C) p - qD (Cw zr zc z3 z4 z5 z6 l m m' C) q:=λp q=>by simp only [qD]
  have q1:∀ V:VL,qD V q1C=1:=λV=>by simp only [q1C,qD]; decide
  have q0:∀ V:VL,qD V q0C=0:=λV=>by simp only [q0C,qD]; decide
  have ep:(MR m C).getD i 0=U7 m C i:=by
   unfold MR;rw [List.getD_eq_getElem?_getD,List.getElem?_map,List.getElem?_range hi];rfl
  rw [e,AgI,TB,ep];show fM (BO m C) k (U7 m C i) - _=0
  by_cases hik:i=k
  ·subst hik
   rw [if_pos rfl,q1,hr.one i hi]
   grind
  ·rw [if_neg hik,q0,hr.zero k i hk hi λq=>hik q.symm]
   grind
end
theorem AdC{W:World}{v v1:Value}{zr zc z3 z4 z5 z6:Int}{l:List Rat}(h:Abh W v zr zc l)(hc:Abw v1 z3 z4 z5 z6):Calls Tryz.prog 7 #[v,v1] W (Aj (Am (.bool true)) W):=by
 obtain ⟨s,rfl,hs,hlen,h1,h2⟩:=h;obtain ⟨rfl,h3,h4,h5,h6⟩:=hc;have hl:∀ q∈l,-32768≤q.num∧q.num≤32767:=by
  obtain ⟨_,_,_,_,h,_⟩:=hs;exact h
 obtain ⟨hE,hmR⟩:=iN (zr:=zr) (zc:=zc) hl;generalize hm:Ns zr zc l=m at hE hmR;generalize hC:zc.toNat % 6=C at hE;have hR4:m.length≤4:=by omega
 have hC5:C≤5:=by omega
 have hO:=hE.ok;have hle:=(Ed hO (by omega)).1;generalize hm':T6 m C z3 z4 z5 z6=m';obtain ⟨_,c2,_,_⟩:=qP (m:=m) (C:=C) (z3:=z3) (z4:=z4) (z5:=z5) hE h6;rw [hm'] at c2;have hF:=Ahx (zr:=zr) (zc:=zc) (z3:=z3) (z4:=z4) (z5:=z5) (z6:=z6) (l:=l) (m:=m) (m':=m') (C:=C) h1 h2 h3 h4 h5 h6 hE hR4 (by omega) hC5;have hrun:=Gm (Agl hC5 (AaG hO hC5 (n:=4) (by omega)));have z:∀ j,zD (Cw zr zc z3 z4 z5 z6 l m m' C) (.i j 0)=(Cw zr zc z3 z4 z5 z6 l m m' C).z j:=λj=>by simp [zD]
 have hv:@CH (Ab (Cw zr zc z3 z4 z5 z6 l m m' C)) BQ (λ_=>False) W [.agg yN,.agg VB] [.agg #[.int .u8 zr,.int .u8 zc,s],.agg #[.int .u8 z3,.int .u8 z4,.int .u8 z5,.int .i8 z6]]:=by
  letI:=Ab (Cw zr zc z3 z4 z5 z6 l m m' C)
  refine ⟨_,_,rfl,⟨_,rfl,?_⟩,_,_,rfl,⟨_,rfl,?_⟩,rfl⟩
  ·refine AQ.app (l:=[_]) (cs:=[_]) (AQ.one ?_) (AQ.app (l:=[_]) (cs:=[_]) (AQ.one ?_) (AQ.one ?_))
   ·unfold Rp
    refine ⟨rfl,?_⟩;show (XP.ik .u8 (zD (Cw zr zc z3 z4 z5 z6 l m m' C) (.i 1 0))).p _ W _;rw [z];exact rfl
   ·unfold Rp
    refine ⟨rfl,?_⟩;show (XP.ik .u8 (zD (Cw zr zc z3 z4 z5 z6 l m m' C) (.i 2 0))).p _ W _;rw [z];exact rfl
   ·unfold Rp
    refine ⟨rfl,?_⟩;show (XP.i16s (lD (Cw zr zc z3 z4 z5 z6 l m m' C) (.v 50))).p _ W _;rw [Abe];exact hs
  ·refine AQ.app (l:=[_]) (cs:=[_]) (AQ.one ?_) (AQ.app (l:=[_]) (cs:=[_]) (AQ.one ?_) (AQ.app (l:=[_]) (cs:=[_]) (AQ.one ?_) (AQ.one ?_)))
   ·unfold Rp
    refine ⟨rfl,?_⟩;show (XP.ik .u8 (zD (Cw zr zc z3 z4 z5 z6 l m m' C) (.i 3 0))).p _ W _;rw [z];exact rfl
   ·unfold Rp
    refine ⟨rfl,?_⟩;show (XP.ik .u8 (zD (Cw zr zc z3 z4 z5 z6 l m m' C) (.i 4 0))).p _ W _;rw [z];exact rfl
   ·unfold Rp
    refine ⟨rfl,?_⟩;show (XP.ik .u8 (zD (Cw zr zc z3 z4 z5 z6 l m m' C) (.i 5 0))).p _ W _;rw [z];exact rfl
   ·unfold Rp
    refine ⟨rfl,?_⟩;show (XP.i8 (zD (Cw zr zc z3 z4 z5 z6 l m m' C) (.i 6 0))).p _ W _;rw [z];exact ⟨rfl,h6.1,h6.2⟩
 refine Calls.mono (J4 (M:=λ_=>False) (w:=W) (vs:=[.agg #[.int .u8 zr,.int .u8 zc,s],.agg #[.int .u8 z3,.int .u8 z4,.int .u8 z5,.int .i8 z6]]) hF (λe he=>?_) hrun (λ_ h=>h.elim) hv) λe w' ⟨u,e1,e2,e3⟩=>⟨u,e1,e2,e3⟩
 simp only [Aix,List.mem_cons,List.not_mem_nil,or_false] at he
 rcases he with rfl | rfl | rfl | rfl | rfl | rfl | rfl
 ·exact xC
 ·exact ZC h1 h2 hl hlen hm.symm hC.symm (by omega)
 ·exact vC hE hR4 hC5 h6 hm'.symm
 ·exact xJ hE hR4 hC5 h3 h4 h5 h6 hm'.symm (by omega)
 ·exact yK hE hR4 hC5
 ·exact vT hE hC5
 ·exact Og hF
section
open Go.ChangeShapes Go.WideShapes Go.ChangeAt Go.RowKit Go.Joins
theorem tB:Tryz.prog.cellsOf 60=4:=by kernel_rfl
theorem rN:Tryz.prog.cellsOf 58=1:=by kernel_rfl
theorem qG{H:Type}{enc:TypeId × Value→H}{W:World}{base:Nat}{v:Value}{d:DataW H}{p:List MemPlace}
  (hval:Value.okWide Tryz.prog W .any base 60 v) (h:DataW.Trod enc Tryz.prog W 0 (λ_=>true) true 60 v d p) :
  ∃ z3 z4 z5 z6,Abw v z3 z4 z5 z6:=by
 obtain ⟨cs,rfl,hsz⟩:=okWide_struct Tryz.underlying60 hval;rw [tB] at hsz;obtain ⟨l⟩:=cs
 match l,hsz with
 | [c0,c1,c2,c3],_ =>
  obtain ⟨fuel,hf⟩:=h;obtain ⟨y0,y1,y2,y3,n,hx,_,h0,h1,h2,h3⟩:=trod_struct4 Tryz.underlying60 hf;have k0:DataW.trod enc Tryz.prog W 0 (λ_=>true) true n 5 [c0]=some y0:=by simpa [Value.cells,Gb] using h0
  have k1:DataW.trod enc Tryz.prog W 0 (λ_=>true) true n 5 [c1]=some y1:=by simpa [Value.cells,Gb] using h1
  have k2:DataW.trod enc Tryz.prog W 0 (λ_=>true) true n 5 [c2]=some y2:=by simpa [Value.cells,Gb] using h2
  have k3:DataW.trod enc Tryz.prog W 0 (λ_=>true) true n 58 [c3]=some y3:=by simpa [Value.cells,Gb,rN] using h3
  obtain ⟨z0,q0,_,w0⟩:=DataW.trod_int Tryz.underlying5 k0;obtain ⟨z1,q1,_,w1⟩:=DataW.trod_int Tryz.underlying5 k1;obtain ⟨z2,q2,_,w2⟩:=DataW.trod_int Tryz.underlying5 k2;obtain ⟨z3,q3,_,w3⟩:=DataW.trod_int Tryz.underlying58 k3;have q0:=(List.cons.inj q0).1;have q1:=(List.cons.inj q1).1;have q2:=(List.cons.inj q2).1;have q3:=(List.cons.inj q3).1;subst q0;subst q1;subst q2;subst q3;exact ⟨z0,z1,z2,z3,rfl,bounds_u8 w0,bounds_u8 w1,bounds_u8 w2,bounds_i8 w3⟩
theorem GR(os:Os)(started:os.Started)(H:Type)(enc:TypeId × Value→H) :
  ReturnsInHanded {} Tryz.checked os 7 .any (Rows.matrixEchelonSpec.pre6 enc Tryz.prog Tryz.f7 [] false)
   (Rows.matrixEchelonSpec.post enc Tryz.prog Tryz.f7 false true false false):=by
 refine returnsInHanded_of_change_sized (C:=Tryz.checked) Akm started (by kernel_rfl) Tryz.func7 ?_ ?_
 ·obtain ⟨w,t,i,a1,a2,a3,a4,⟨⟨p1,_⟩,p2⟩,a6⟩:=ChangeSpec.witness_at (enc:=enc) (C:=Tryz.checked) (os:=os) (f:=7) (fn:=Tryz.f7) (s:=Rows.matrixEchelonSpec) (conds:=[]) (apart:=false) (X:=λ_ _=>True) false (World.holding Tryz.prog os ⟨#[],#[],[]⟩) #[.agg #[.int .u8 0,.int .u8 0,.slice none 0 0],.agg #[.int .u8 0,.int .u8 0,.int .u8 0,.int .i8 0]] 8 rfl (by kernel_rfl) (by kernel_rfl) (by kernel_rfl) (by kernel_rfl) (by kernel_rfl) True.intro
  exact ⟨w,t,i,a1,a2,a3,a4,⟨p1,p2⟩,a6⟩
 intro W base args ds gs before hval0 hW _ hsz0 _;have hval:∀(j:Nat) t v,Tryz.f7.params[j]? = some t→args[j]? = some v→Value.okWide Tryz.prog W .any base t v:=hval0;have hsz:(DataW.weightsEach Tryz.prog (Tryz.f7.params.toList ++ Rows.matrixEchelonSpec.plain.varTypes Tryz.prog) (ds ++ gs)).all (· ≤ reachBytes)=true:=hsz0;have hW':=hW;obtain ⟨p,q,hA0,hV0,rfl,hfz,hnd⟩:=hW;have hA:DataW.TrodAll enc Tryz.prog W 0 (λ_=>true) true Tryz.f7.params.toList args.toList ds p:=hA0;have hV:DataW.TrodVars enc Tryz.prog W (λ_=>true) [] gs q:=hV0;rw [Tryz.params7] at hA hval hsz;obtain ⟨rfl,rfl⟩:=trodVars_none hV;obtain ⟨v0,v1,d0,d1,p0,p1,rfl,rfl,rfl,h0,h1⟩:=trodAll_two hA;have h0k:=h0;have h1k:=h1;have hw0:∀ n∈d0.weights Tryz.prog 24,n≤reachBytes:=λn hn =>
  of_decide_eq_true (List.all_eq_true.1 hsz _ (DataW.weights_mem_each (j:=0) (t:=24) rfl rfl n hn))
 have hlt0:∀ x∈p0,x.block<W.heap.size:=λx hx=>hW'.lt x (by simp [hx])
 have hlt1:∀ x∈p1,x.block<W.heap.size:=λx hx=>hW'.lt x (by simp [hx])
 obtain ⟨A0,B0,C0,K0⟩:=cF (hval 0 24 v0 rfl rfl) h0 hw0;obtain ⟨z3,z4,z5,z6,K1⟩:=qG (hval 1 60 v1 rfl rfl) h1;clear hA0 hV0 hval0 hsz0;refine (AdC K0 K1).mono λe W' hpost=>?_
 obtain ⟨u,he,hu,hb⟩:=hpost;have hu:u = .bool true:=hu;subst hu;subst he;have e1:Rows.matrixEchelonSpec.fn H ([d0,d1] ++ []) = { results:=[.lit (.bool true)],args:=[d0,d1] }:=by simp [Rows.matrixEchelonSpec]
 refine ⟨_,rfl,mX hW' hb ?_ ?_ ?_⟩
 ·rw [e1]; exact trodAll_mk1 (shut_bool Tryz.underlying4 true)
 ·rw [e1]
  have:=trodAll_mk2 (Below.trod Td (by kernel_rfl) (of_decide_eq_true (by kernel_rfl)) h0k hb hlt0) (Below.trod Td (by kernel_rfl) (of_decide_eq_true (by kernel_rfl)) h1k hb hlt1);simpa using this
 ·rw [e1]; rfl
theorem matrixEchelon_holds:Rows.MatrixEchelonSaid:=
 OpenClaim.holds_of_wide 7 Tryz.f7 rfl rfl rfl rfl rfl rfl rfl ⟨rfl,rfl,rfl,rfl,rfl⟩ rfl rfl rfl rfl rfl (by kernel_rfl) Tryz.func7 (by kernel_rfl)
  (of_decide_eq_true (by kernel_rfl)) (by unfold Func.isWrapper; rw [if_neg (of_decide_eq_false (by kernel_rfl))]; exact ⟨rfl,rfl⟩)
  (λos started H enc _=>GR os started H enc)
end
end Go.Proofs.YtdopbgnkneeceaaGreat
