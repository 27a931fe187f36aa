/- Layer 5: the number of pivots is the rank: the mathematics. -/
import Derived.Test.YtdopbgnkneeceaaGreatqN4
set_option linter.unusedSectionVars false
set_option linter.unusedVariables false
set_option linter.unusedSimpArgs false
set_option maxRecDepth 100000
namespace Go.Proofs.YtdopbgnkneeceaaGreat
open Go.RowKit
def fM(m:List (List Rat)):Nat→Nat→Rat:=λi j=>(m.getD i []).getD j 0
def fL(L:List Ln):Nat→Nat→Rat:=λi j=>(Ca L i).2.getD j 0
theorem Yq{f:Rat→Rat}(h0:f 0=0)(l:List Rat)(j:Nat):(l.map f).getD j 0=f (l.getD j 0):=by
 rw [List.getD_eq_getElem?_getD,List.getD_eq_getElem?_getD,List.getElem?_map]
 cases l[j]? with
 | none=>exact h0.symm
 | some x=>rfl
theorem Nj(l:List Rat)(j:Nat):(Ck l).getD j 0=l.getD j 0 / DX l:=Yq (f:=λx=>x / DX l) (by rw [Rat.div_def,Rat.zero_mul]) l j
theorem Fq{l:List Rat}{j:Nat}(h:l.length≤j):l.getD j 0=0:=by
 rw [List.getD_eq_getElem?_getD,List.getElem?_eq_none h];rfl
theorem vF{c d:Rat}{l p:List Rat}(he:p.length=l.length)(j:Nat):(R5 c l d p).getD j 0=c*l.getD j 0 - d*p.getD j 0:=by
 by_cases hj:j<l.length
 ·unfold R5
  rw [List.getD_eq_getElem?_getD,List.getElem?_map,List.getElem?_range hj];rfl
 ·rw [Fq (by rw [Ow]; omega),Fq (by omega),Fq (by omega)]
  grind
theorem kP{c:Rat}{l p:List Rat}{col s:Nat}(hl:Du s l)(hp:Du s p)(hs:1≤s)(hz:p.getD col 0≠0)(he:p.length=l.length):∃ a b:Rat,a≠0∧(∀ j,(Er c l p col).2.getD j 0=a*l.getD j 0+b*p.getD j 0)∧(Er c l p col).2.getD col 0=0:=by
 unfold Er;split
 ·rename_i h
  exact ⟨1,0,by decide,λj=>by grind,h⟩
 ·rename_i h
  obtain ⟨s1,s2⟩:=Mh hl hp hz;have hfr:=(Ld hl hp s1 s2).frac (by omega);generalize hf:l.getD col 0 / p.getD col 0=f at s1 s2 hfr;generalize hr:R5 ((f.den:Int):Rat) l (f.num:Rat) p=r at hfr;have hu:DX r≠0:=Qr hfr _;have hd:=JM f;have hm:=Kt f;have key:∀ j,(Ck r).getD j 0=(((f.den:Int):Rat)*l.getD j 0 - (f.num:Rat)*p.getD j 0) / DX r:=λj=>by
   rw [Nj,← hr,vF he,hr]
  refine ⟨((f.den:Int):Rat) / DX r,-(f.num:Rat) / DX r,?_,λj=>?_,?_⟩
  ·intro e
   apply hd
   grind
  ·show (Ck (R5 ((f.den:Int):Rat) l (f.num:Rat) p)).getD j 0=_
   rw [hr,key]
   grind
  ·show (Ck (R5 ((f.den:Int):Rat) l (f.num:Rat) p)).getD col 0=_
   rw [hr,key,← hm,← hf]
   grind
section
variable {L : List Ln} {C s B n t : Nat}
theorem aH{g:List Nat × List Ln}(h:Nd L.length C s B n g)(hs1:1≤s)(ha:B_ g.2 g.1.length n<g.2.length):Piv g.1.length L.length (B_ g.2 g.1.length n) n (fL g.2) (fL (Fg g.2 g.1.length (B_ g.2 g.1.length n) n)):=by
 obtain ⟨p1,p2,p3,p4⟩:=DJ (L:=g.2) (t:=g.1.length) (col:=n) (by rw [h.len]; exact h.tR);have hlen:=h.len;have hz:=p4 ha;have at_:∀ k,k<L.length→fL (Fg g.2 g.1.length (B_ g.2 g.1.length n) n) k=λj=>(if k=g.1.length then Ca g.2 (B_ g.2 g.1.length n) else if k=B_ g.2 g.1.length n then (-(Ca g.2 g.1.length).1,(Ca g.2 g.1.length).2) else if B_ g.2 g.1.length n<k then Er (Ca g.2 k).1 (Ca g.2 k).2 (Ca g.2 (B_ g.2 g.1.length n)).2 n else Ca g.2 k).2.getD j 0:=λk hk=>by
  funext j
  unfold fL;rw [Js (by omega)]
 refine ⟨p1,by omega,hz,λk h1 h2=>p3 k h1 h2,λk hk=>?_,?_,λk h1 h2=>?_,λk h1 h2=>?_⟩
 ·rw [at_ k (by omega)]
  funext j
  rw [if_neg (by omega),if_neg (by omega),if_neg (by omega)];rfl
 ·refine ⟨1,by decide,λj=>?_⟩
  rw [at_ _ (by omega)];dsimp only;rw [if_pos rfl,Rat.one_mul];rfl
 ·refine ⟨1,by decide,λj=>?_⟩
  rw [at_ k (by omega)];dsimp only;rw [if_neg (by omega),Rat.one_mul]
  by_cases e:k=B_ g.2 g.1.length n
  ·rw [if_pos e,if_pos e]
   rfl
  ·rw [if_neg e,if_neg e,if_neg (by omega)]
   rfl
 ·have hk:=h.ln k h2
  have hA:=h.ln _ (by omega:B_ g.2 g.1.length n<L.length);obtain ⟨a,b,h3,h4,h5⟩:=kP (c:=(Ca g.2 k).1) hk.ints hA.ints (VT hs1 n) hz (by rw [hA.len,hk.len]);refine ⟨a,b,h3,λj=>?_,?_⟩
  ·rw [at_ k (by omega)]
   dsimp only;rw [if_neg (by omega),if_neg (by omega),if_pos h1];exact h4 j
  ·rw [at_ k (by omega)]
   dsimp only;rw [if_neg (by omega),if_neg (by omega),if_pos h1];exact h5
theorem QT{M:Nat→Nat→Rat}(hs:s≤300)(hs1:1≤s)(hL:∀ k,k<L.length→IY C s B (Ca L k))(h1:Sp L.length M L.length (fL L))(h2:Sp L.length (fL L) L.length M):∀ n,n≤6→YZ M L.length (Bm L n).1.length n (fL (Bm L n).2) (λi=>(Bm L n).1.getD i 0)
 | 0,_=>⟨Nat.zero_le _,λi h=>absurd h (Nat.not_lt_zero i),λi k _ h=>absurd h (Nat.not_lt_zero k),λi h=>absurd h (Nat.not_lt_zero i),λi k h=>absurd h (Nat.not_lt_zero i),λk j _ _ h=>absurd h (Nat.not_lt_zero j),λi j h=>absurd h (Nat.not_lt_zero i),h1,h2⟩
 | n+1,hn=>by
  have ih:=QT hs hs1 hL h1 h2 n (by omega);have ok:=IW hs hs1 hL n (by omega);have hlen:=ok.len;obtain ⟨p1,p2,p3,p4⟩:=DJ (L:=(Bm L n).2) (t:=(Bm L n).1.length) (col:=n) (by rw [ok.len]; exact ok.tR);rw [Jw];split
  ·rename_i ha
   have:=ih.pivot (p':=λi=>((Bm L n).1 ++ [n]).getD i 0) (aH ok hs1 ha) (by simp) λi hi=>by
    rw [List.getD_eq_getElem?_getD,List.getElem?_append_left hi,← List.getD_eq_getElem?_getD]
   simpa using this
  ·rename_i ha
   exact ih.skip λk h1 h2=>p3 k h1 (by omega)
end
theorem Y3{m:List (List Rat)}{C:Nat}(h:Eo C m):Sp m.length (fM m) m.length (fL (BP m))∧Sp m.length (fL (BP m)) m.length (fM m):=by
 have at_:∀ i,i<m.length→∃ u:Rat,u≠0∧∀ j,fL (BP m) i j=fM m i j / u:=λi hi=>by
  obtain ⟨_,D,s,h2,_,_⟩:=h.row hi;refine ⟨DX (m.getD i []),Qr h2 _,λj=>?_⟩;unfold fL fM;rw [Jh hi];exact Nj _ _
 refine ⟨λi hi=>?_,λi hi=>?_⟩
 ·obtain ⟨u,h1,h2⟩:=at_ i hi
  refine ((In.row (R:=fL (BP m)) hi).smul u).congr λj=>?_
  rw [h2]
  grind
 ·obtain ⟨u,h1,h2⟩:=at_ i hi
  refine ((In.row (R:=fM m) hi).smul (1 / u)).congr λj=>?_
  rw [h2]
  grind
theorem Iz{m:List (List Rat)}{C:Nat}(h:Eo C m)(hC:C≤6):∃ F p,pL (Cd m C) F p∧Sp m.length (fM m) (Cd m C) F∧Sp (Cd m C) F m.length (fM m)∧Cd m C≤m.length∧Cd m C≤C:=by
 have hlen:(BP m).length=m.length:=by simp [BP]
 obtain ⟨s1,s2⟩:=Y3 h;have hL:∀ k,k<(BP m).length→IY C 300 300 (Ca (BP m) k):=λk hk=>h.ln (by omega)
 rw [← hlen] at s1 s2;have he:=QT (L:=BP m) (by decide) (by decide) hL s1 s2 C hC;have ok:=IW (L0:=BP m) (by decide) (by decide) hL C hC;rw [hlen] at he ok s1 s2;obtain ⟨F,hF,hr,hs⟩:=Wi he;refine ⟨F,_,hr,?_,?_,he.tr,tD he⟩
 ·refine (Sp.cut he.to he.tr λk h1 h2 j=>?_).trans hs
  by_cases hj:j<C
  ·exact he.zero k j h1 h2 hj
  ·exact Fq (by rw [(ok.ln k h2).len]; omega)
 ·exact (RF hF).trans λi hi=>he.fro i (Nat.lt_of_lt_of_le hi he.tr)
theorem qN{m m':List (List Rat)}{C:Nat}(h:Eo C m)(h':Eo m.length m')(hl:m'.length=C)(hC:C≤6)(hR:m.length≤6)(hT:∀ i j,i<m.length→j<C→fM m' j i=fM m i j):Cd m' m.length=Cd m C:=by
 obtain ⟨F,p,r1,s1,s2,_,_⟩:=Iz h hC;obtain ⟨F',p',r1',s1',s2',_,_⟩:=Iz h' hR;rw [hl] at s1' s2';have z:∀{m:List (List Rat)}{C i j:Nat},Eo C m→i<m.length→C≤j→fM m i j=0:=λh hi hj=>Fq (by rw [(h.row hi).1]; exact hj)
 have a1:=bE hT (λi j hi hj=>z h' (by omega) hj) s1 r1' s2';have a2:=bE (M:=fM m') (M':=fM m) (r:=C) (c:=m.length) (λi j hi hj=>(hT j i hj hi).symm) (λi j hi hj=>z h hi hj) s1' r1 s2;omega
def maO(U:HP):Nat→List AV→Option CE
 | 0,_=>some (.lit 0)
 | k+1,.sl o 0 n c :: l=>match jZ U .L (.sl o 0 n c),maO U k l with
  | some (.ext 1 false (.ap 51 e (.lit 0))),some m=>some (.ap 81 e m)
  | _,_=>none
 | _+1,_=>none
def uB(U:HP):AV→Option CE
 | .sl o 0 n _=>match lk U o with
  | some b=>if b.bl.isNone then maO U n b.cs else none
  | none=>none
 | _=>none
section
variable {V : VL} {F : Fa} {ρ : Bg} {M M' : Nat → Prop} {w w0 : World}
theorem Ni(hF:Bu V F)(hm0:∀ b,M b→b<w0.heap.size){U:HP}(hR:@RH (Ae V) ρ M' (Dl B4 w0 (lk [])) w (CT (lk []) U)):∀{k:Nat}{l:List AV}{m:CE}{cs:List Value},maO U k l=some m → @AU (Ae V) ρ M' w l cs→(mD V m).length=k∧∃ xs ys,cs=xs ++ ys∧DQ M w (mD V m) xs
 | 0,_,_,cs,h,_=>by
  unfold maO at h
  cases h
  exact ⟨by simp [mD],[],cs,rfl,by simp [mD,DQ]⟩
 | k+1,[],_,_,h,_=>by
  unfold maO at h
  cases h
 | k+1,a :: l,m,cs,h,hv=>by
  unfold maO at h;split at h
  ·rename_i hh; cases hh
  ·rename_i k2 o n c l' hk hh
   cases hk
   cases hh
   split at h
   ·rename_i e m' h1 h2
    cases h
    unfold AU at hv;obtain ⟨x,y,rfl,r1,r2⟩:=hv;have r1:=slF (M:=M) hF hm0 hR h1 r1;obtain ⟨i1,xs,ys,rfl,i2⟩:=Ni hF hm0 hR h2 r2;unfold Rp at r1;obtain ⟨r0,r1⟩:=r1;obtain ⟨v,rfl⟩:=List.length_eq_one_iff.1 r0;have e:mD V (.ap 81 e m')=lD V e :: mD V m':=by simp only [mD]
    rw [e];exact ⟨by rw [List.length_cons,i1],v :: xs,ys,rfl,v,xs,rfl,r1,i2⟩
   ·cases h
  ·cases h
theorem Oc(hF:Bu V F)(hm0:∀ b,M b→b<w0.heap.size){U:HP}(hR:@RH (Ae V) ρ M' (Dl B4 w0 (lk [])) w (CT (lk []) U)){a:AV}{m:CE}{v:Value}(h:uB U a=some m)(hv:@Bz (Ae V) ρ M' w a v):@Bz (Ae V) B4 M w (aM m) v:=by
 unfold uB at h;split at h
 ·rename_i o n cap
  split at h
  ·rename_i b hb
   split at h
   ·rename_i hbl
    have hbl:=Option.isNone_iff_eq_none.1 hbl;have hv:@Rp (Ae V) ρ M' w (.sl o 0 n cap) [v]:=hv;unfold Rp at hv;obtain ⟨g,c,kk,q1,q2,q3,_⟩:=hv;have hU:CT (lk []) U o=some b:=by
     letI:=Ae V
     rw [← CN,List.append_nil];exact hb
    obtain ⟨hobj,_⟩:=id hR;obtain ⟨g2,c2,arr,cs,k1,k2,k3,k4,k5,k6,k7,k8⟩:=hobj o b hU;rw [q1] at k1;have hg:g=g2:=congrArg Prod.fst (Option.some.inj k1);subst hg;have hge:w0.heap.size≤g:=by
     rcases k3 with h1 | ⟨_,_,_,h1,_⟩
     ·exact h1
     ·cases h1
    have nM:¬ M g:=λhm=>by
     have:=hm0 g hm;omega
    have hcells:=@Bn.rps (Ae V) _ _ _ _ _ k6 hbl;obtain ⟨tl,he,_⟩:=k7;have hra:=(letI:=Ae V; Ec k4 he);have hsz:=AI k4;obtain ⟨i1,xs,ys,e1,i2⟩:=Ni (M:=M) hF hm0 hR h hcells;have hq2:v = .slice (some ⟨g,0,none⟩) n kk:=(List.cons.inj q2).1;refine NZ ⟨some ⟨g,0,none⟩,kk,by rw [hq2,i1],by rw [i1]; exact q3,λ_=>⟨g,0,xs,rfl,nM,hsz,λj x hj=>hra j x (by
     rw [e1];have:=(List.getElem?_eq_some_iff.1 hj).1;rw [List.getElem?_append_left this];exact hj),i2⟩⟩
   ·cases h
  ·cases h
 ·cases h
theorem AaA{L:List PE}{C:Bx}{f m:Nat}{xs:List AV}{a:AV}{U:HP}(hF:Bu V F)(hL:∀ e∈L,@PE.ok (Ae V) e)(hC:@Ch (Ae V) C)(hr:Cz AO (EA (Yw F L C) AO m) f xs [] 16 0=some (a,U)){vs:List Value}(hm0:∀ b,M b→b<w.heap.size)(hv:@CH (Ae V) B4 M w xs vs) :
  Calls Tryz.prog f vs.toArray w λe w'=>∃ u ρ' M',e = .returned u ∧ @RV (Ae V) ρ' M' w' a u ∧ @RH (Ae V) ρ' M' (Dl B4 w (lk [])) w' (CT (lk []) U)∧Below w.heap.size w w':=by
 letI:=Ae V
 obtain ⟨_,hcall⟩:=Eu Bv (FQ (T:=Yw F L C) (@Fj.mk (Ae V) _ (FB hF hL) (GC hF) hC) Bv m).1 f xs [] 16 0 _ _ hr;have hs:CI B4 M (Dl B4 w (lk [])) w 0 (lk []):=⟨⟨λo b e=>(by cases e),λo o' b b' g c c' e=>(by cases e)⟩,hm0,λ_ _ _=>rfl,λb hb=>.inl hb⟩;refine Calls.mono (hcall B4 M w vs hs (λo p e=>(by cases e)) (by decide) hv) λe w' ⟨v,e1,ρ',M',ht,hv',hR,_,hsup,_,_,hfr,_⟩=>⟨v,ρ',M',e1,hv',hR,⟨hfr.os,hfr.tape,hfr.output,hfr.size,λb hb=>hfr.keep b hb ?_⟩⟩
 rintro (h1 | ⟨_,_,_,h1,_⟩)
 ·omega
 ·cases h1
end
def yD(R k:Nat):CE:=F6 ((List.range R).map λi=>NC i k)
def dV:List CE→CE
 | []=>.lit 0
 | e :: l=>.ap 81 e (dV l)
noncomputable def AeP(R C:Nat):=Cz AO (EA (Yw (oW R C) [] Qk) AO 200) 29 [aM (QZ 0 R),.val (.int .i64 (C:Int))] [] 16 0
noncomputable def AcZ(R C:Nat):Bool:=match AeP R C with
 | some (a,U)=>(match uB U a with
  | some m=>CE.beq m (dV ((List.range C).map (yD R)))
  | none=>false)
 | none=>false
noncomputable def Aaz:Bool:=(List.range 5).all λR=>(List.range 6).all λC=>AcZ R C
theorem vX:Aaz=true:=by kernel_rfl
def FY(m:List (List Rat))(C:Nat):List (List Rat):=(List.range C).map λk=>(List.range m.length).map λi=>(m.getD i []).getD k 0
theorem iY(V:VL):∀ l:List CE,mD V (dV l)=l.map (lD V)
 | []=>by simp [dV,mD]
 | e :: l=>by
  unfold dV;rw [List.map_cons,← iY V l];simp only [mD]
def Kq(m:List (List Rat)):VL:=⟨λ_=>0,λk=>m.getD k [],λ_=>0,λ_=>[]⟩
theorem AeM{m:List (List Rat)}:mD (Kq m) (QZ 0 m.length)=m:=by
 rw [R_];apply List.ext_getElem
 ·simp
 ·intro i h1 h2
  simp only [List.getElem_map,List.getElem_range',Nat.zero_add,Nat.one_mul];show m.getD i []=_;rw [List.getD_eq_getElem?_getD,List.getElem?_eq_getElem h2];rfl
theorem AdJ{m:List (List Rat)}{C:Nat}(h:Eo C m):Bu (Kq m) (oW m.length C):=by
 refine ⟨rfl,λk=>(by simp [Kq]),λx hx=>(by cases hx),λx hx=>?_,λx hx=>?_,λx hx=>(by cases hx),λx hx=>(by cases hx),λx hx=>(by cases hx),λx hx=>(by cases hx)⟩
 ·obtain ⟨k,hk,rfl⟩:=List.mem_map.1 hx
  have hk:=List.mem_range.1 hk;show ((lD _ (.v k)).length:Int)=0+C;rw [show lD (Kq m) (.v k)=m.getD k [] by simp only [lD,Kq],(h.row hk).1];simp
 ·obtain ⟨k,hk,rfl⟩:=List.mem_map.1 hx
  have hk:=List.mem_range.1 hk;intro y hy;have hy:y∈lD (Kq m) (.v k):=hy;rw [show lD (Kq m) (.v k)=m.getD k [] by simp only [lD,Kq]] at hy;obtain ⟨_,D,s,h2,h3,_⟩:=h.row hk;exact (h2.rsm hy).mono h3
theorem oB{m:List (List Rat)}{C:Nat}(h:Eo C m)(hR:m.length≤4)(hC:C≤5){M:Nat→Prop}{w:World}{v:Value}(hm0:∀ b,M b→b<w.heap.size)(hv:(XP.mat m).p M w [v]) :
  Calls Tryz.prog 29 #[v,.int .i64 (C:Int)] w λe w'=>∃ u,e = .returned u∧(XP.mat (FY m C)).p M w' [u]∧Below w.heap.size w w':=by
 have hr:=List.all_eq_true.1 (List.all_eq_true.1 vX m.length (List.mem_range.2 (by omega))) C (List.mem_range.2 (by omega));unfold AcZ at hr;split at hr
 ·rename_i a U hw
  split at hr
  ·rename_i mm hk
   refine Calls.mono (AaA (vs:=[v,.int .i64 (C:Int)]) (AdJ h) (λ_ h=>by cases h) (@DU (Ae _)) hw hm0 ⟨v,_,rfl,NZ (by rw [AeM]; exact hv),_,_,rfl,rfl,rfl⟩) λe w' ⟨u,ρ',M',e1,e2,e3,e4⟩=>⟨u,e1,?_,e4⟩
   have ha:@Bz (Ae (Kq m)) ρ' M' w' a u:=by
    unfold uB at hk;split at hk
    ·exact e2
    ·cases hk
   have:=Oc (M:=M) (AdJ h) hm0 e3 hk ha;have this:@Rp (Ae (Kq m)) B4 M w' (aM mm) [u]:=this;unfold Rp at this;have h2:=this.2;have e:mD (Kq m) mm=FY m C:=by
    rw [CE.beq_eq hr,iY,List.map_map];refine List.map_congr_left λk _=>?_
    show lD _ (yD m.length k)=_;unfold yD;rw [Hx,List.map_map];refine List.map_congr_left λi _=>?_
    simp [NC,qD,lD,zD,Kq]
   show (XP.mat (FY m C)).p M w' [u];rw [← e];exact h2
  ·cases hr
 ·cases hr
structure PG (C:Nat) (m:List (List Rat)):Prop where
 len:∀ l∈m,l.length=C
 el:∀ l∈m,∀ x∈l,∃ z:Int,x*((2:Int):Rat)=(z:Rat)∧Sm z 1
theorem PG.ok{C:Nat}{m:List (List Rat)}(h:PG C m):Eo C m:=⟨h.len,λl hl=>⟨2,1,⟨by decide,by unfold Sm; decide,h.el l hl⟩,by decide,by decide⟩⟩
theorem PG.at_{C:Nat}{m:List (List Rat)}(h:PG C m){i:Nat}(hi:i<m.length)(j:Nat):∃ z:Int,(m.getD i []).getD j 0*((2:Int):Rat)=(z:Rat)∧Sm z 1:=by
 have hm:m.getD i []∈m:=by
  rw [List.getD_eq_getElem?_getD,List.getElem?_eq_getElem hi];exact List.getElem_mem hi
 by_cases hj:j<(m.getD i []).length
 ·refine h.el _ hm _ ?_
  generalize m.getD i []=l at hj;rw [List.getD_eq_getElem?_getD,List.getElem?_eq_getElem hj];exact List.getElem_mem hj
 ·rw [Fq (by omega)]
  exact ⟨0,by simp,by unfold Sm; decide⟩
theorem kF{m:List (List Rat)}{C:Nat}(h:PG C m):PG m.length (FY m C)∧(FY m C).length=C∧∀ i j,i<m.length→j<C→fM (FY m C) j i=fM m i j:=by
 refine ⟨⟨λl hl=>?_,λl hl x hx=>?_⟩,by simp [FY],λi j hi hj=>?_⟩
 ·obtain ⟨k,_,rfl⟩:=List.mem_map.1 hl
  simp
 ·obtain ⟨k,_,rfl⟩:=List.mem_map.1 hl
  obtain ⟨i,hi,rfl⟩:=List.mem_map.1 hx;exact h.at_ (List.mem_range.1 hi) k
 ·unfold fM FY
  have e1:((List.range C).map λk=>(List.range m.length).map λi=>(m.getD i []).getD k 0).getD j []=(List.range m.length).map λi=>(m.getD i []).getD j 0:=by
   rw [List.getD_eq_getElem?_getD,List.getElem?_map,List.getElem?_range hj];rfl
  rw [e1,List.getD_eq_getElem?_getD,List.getElem?_map,List.getElem?_range hi];rfl
noncomputable def kD(T:TypeId)(k:IntKind):Bool:=match M8 T with
 | some (.int k')=>decide (k'=k)
 | _=>false
def X7(F:Fa)(j:Nat):Nat→Option Nat
 | 0=>none
 | n+1=>if D_ F (j,0) (0,(n:Int)) && D_ F (0,(n:Int)) (j,0) then some n else X7 F j n
noncomputable def mdP(F:Fa)(k:PK)(xs:List AV):Option AV:=match k,xs with
 | .conv T U,[.ext 1 false (.ap 66 (.ap 1 (.v j) (.lit 0)) _)]=>if kD T .u8 && kD U .i64 then some (aI j 0) else none
 | .conv T U,[.ext 1 false (.ap 67 (.ap 1 (.v j) (.lit 0)) _)]=>if kD T .i16 && kD U .i64 then some (aI j 0) else none
 | .bin .rem _ _,[.ext 1 false (.ap 50 (.ap 1 (.v 1) (.lit 0)) _),.val (.int .i64 5)]=>(X7 F 11 5).map fun (n:Nat)=>.val (.int .i64 (n:Int))
 | .bin .rem _ _,[.ext 1 false (.ap 50 (.ap 1 (.v 2) (.lit 0)) _),.val (.int .i64 6)]=>(X7 F 12 6).map fun (n:Nat)=>.val (.int .i64 (n:Int))
 | .bin .rem _ _,[.ext 1 false (.ap 67 (.ap 2 (.v 0) (.lit (.ofNat e))) _),.val (.int .i16 10)]=>if Nat.blt e 100 then some (.ext 1 false (.ap 67 (.i (100+e) 0) (.lit 0))) else none
 | .bin .shr T _,[.ext 1 false (.ap 67 (.ap 2 (.v 0) (.lit (.ofNat e))) _),.val (.int _ 8)]=>if kD T .i16 && Nat.blt e 100 then some (.ext 1 false (.ap 67 (.i (200+e) 0) (.lit 0))) else none
 | .bin .and T _,[.ext 1 false (.ap 50 (.ap 1 (.v e) (.lit 0)) _),.val (.int .i64 1)]=>if Nat.ble 200 e && Nat.blt e 300 && kD T .i64 then some (aI (100+e) 0) else none
 | .bin .shr T _,[.val (.int .i16 0),.val (.int _ 8)]=>if kD T .i16 then some (.val (.int .i16 0)) else none
 | .bin .and T _,[.val (.int .i64 0),.val (.int .i64 1)]=>if kD T .i64 then some (.val (.int .i64 0)) else none
 | .blt .len [T],[.ext 1 false (.ap 68 (.v 0) _)]=>if C1 T then some (aI 13 0) else none
 | .idx T,[.ext 1 false (.ap 68 (.v 0) _),.val (.int .i64 (.ofNat i))]=>if Lx T && D_ F (0,(i:Int)+1) (13,0) then some (.rptr [.ext 1 false (.ap 67 (.ap 2 (.v 0) (.lit (.ofNat i))) (.lit 0))]) else none
 | _,_=>none
noncomputable def mdX(F:Fa):XT:={ Up F with pure:=λk xs=>match mdP F k xs with
 | some r=>some r
 | none=>QO F k xs }
def pMd:PE:=⟨40,λxs=>match xs with
 | [.ext 1 false (.ap 50 (.ap 1 (.v i) (.lit 0)) _),.ext 1 false (.ap 50 (.ap 1 (.v j) (.lit 1)) _)]=>if Nat.ble 100 i && Nat.beq j (200+i) && Nat.blt i 200 then some (aQ (.v (i - 100)) 1) else none
 | [.val (.int .i64 0),.val (.int .i64 1)]=>some (aQ (.ap 36 (.lit 0) (.lit 1)) 1)
 | _=>none⟩
def vC(R C L:Nat):Fa:=⟨([(11,0,(R:Int)),(0,11,-(R:Int)),(12,0,(C:Int)),(0,12,-(C:Int)),(0,13,-(L:Int))]:List (Nat × Nat × Int)) ++ (if L<R*C then [(13,0,(L:Int))] else []),[],[],[],[],[],[]⟩
noncomputable def AcS(R C L:Nat):Tb:=⟨Gf ([pMd] ++ Vv (vC R C L)),mdX (vC R C L),Qk⟩
def rW:List AV:=[.agg [.ext 1 false (.ap 66 (.i 1 0) (.lit 0)),.ext 1 false (.ap 66 (.i 2 0) (.lit 0)),.ext 1 false (.ap 68 (.v 0) (.lit 0))]]
noncomputable def yX(R C L:Nat):=Cz AO (EA (AcS R C L) AO 200) 11 rW [] 16 0
def AaK(L:Nat)(q:CE):Bool:=match q with
 | .v e=>Nat.blt e L
 | .ap 36 (.lit 0) (.lit 1)=>true
 | _=>false
def isRow(L:Nat):Nat→CE→Bool
 | 0,.lit 0=>true
 | n+1,.ap 80 q r=>AaK L q && isRow L n r
 | _,_=>false
def Rr(L C:Nat):Nat→CE→Bool
 | 0,.lit 0=>true
 | n+1,.ap 81 e m=>isRow L C e && Rr L C n m
 | _,_=>false
noncomputable def Yo(R C L:Nat):Bool:=match yX R C L with
 | some (.tup [a,.val (.int .i64 c)],U)=>(match uB U a with
  | some m=>Rr L C R m && decide (c=(C:Int))
  | none=>false)
 | _=>false
noncomputable def T7(R C a n:Nat):Bool:=(List.range n).all λi=>Yo R C (a+i)
noncomputable def Qd(R c n:Nat):Bool:=(List.range n).all λC=>T7 R (c+C) 0 (R*(c+C)+1)
structure MdV (V:VL):Prop where
 a:V.z 11=(V.z 1).tmod 5
 b:V.z 12=(V.z 2).tmod 6
 c:V.z 13=((V.l 0).length:Int)
 r:∀ e,e<100→V.z (100+e)=(((V.l 0).getD e 0).num).tmod 10
 s:∀ e,e<100→V.z (200+e)=((V.l 0).getD e 0).num / 256
 t:∀ e,e<100→V.z (300+e)=bits .and .i64 (V.z (200+e)) 1
theorem E7{T:TypeId}{k:IntKind}(h:kD T k=true):Tryz.prog.underlying T=some (.int k):=by
 unfold kD at h;split at h
 ·rename_i k' hk
  have:=of_decide_eq_true h;subst this;exact hk
 ·cases h
theorem Ip{V:VL}{F:Fa}(hF:Bu V F){j:Nat}:∀{n m:Nat},X7 F j n=some m→V.z j=(m:Int)
 | 0,m,h=>by
  unfold X7 at h
  cases h
 | n+1,m,h=>by
  unfold X7 at h;split at h
  ·rename_i hc
   cases h
   rw [Bool.and_eq_true] at hc;have h1:=AC hF hc.1;have h2:=AC hF hc.2;unfold iD at h1 h2;have:=hF.z0;dsimp only at h1 h2;omega
  ·exact Ip hF h
theorem AdV:A7 (mkRat 0 (1:Int).toNat) 1:=by
 have:A7 ((0:Int):Rat) 1:=E0 (by unfold Sm; decide) (by decide);exact this
section
variable {V : VL} {F : Fa} {ρ : Bg} {M : Nat → Prop} {w : World} {r : AV}
theorem yE{i d:CE}{v:Value}(h:@Bz (Ae V) ρ M w (.ext 1 false (.ap 66 i d)) v):v = .int .u8 (zD V i):=by
 have h:@Rp (Ae V) ρ M w (.ext 1 false (.ap 66 i d)) [v]:=h;unfold Rp at h;exact (List.cons.inj h.2).1
theorem On{i d:CE}{v:Value}(h:@Bz (Ae V) ρ M w (.ext 1 false (.ap 67 i d)) v):v = .int .i16 (zD V i):=by
 have h:@Rp (Ae V) ρ M w (.ext 1 false (.ap 67 i d)) [v]:=h;unfold Rp at h;exact (List.cons.inj h.2).1
theorem VG{i d:CE}{v:Value}(h:v = .int .i16 (zD V i)):@Bz (Ae V) ρ M w (.ext 1 false (.ap 67 i d)) v:=by
 show @Rp (Ae V) ρ M w (.ext 1 false (.ap 67 i d)) [v];unfold Rp;exact ⟨rfl,by rw [h]; rfl⟩
theorem Sw{k:Nat}{c:Int}{d:CE}{v:Value}(h:@Bz (Ae V) ρ M w (.ext 1 false (.ap 50 (.ap 1 (.v k) (.lit c)) d)) v):v = .int .i64 (V.z k+c):=by
 have h:@Rp (Ae V) ρ M w (.ext 1 false (.ap 50 (.ap 1 (.v k) (.lit c)) d)) [v]:=h;unfold Rp at h;exact (List.cons.inj h.2).1
theorem OT{k:IntKind}{p q:Int}{T T2:TypeId}{x y:Operand}{ρv:Operand→Value}(hx:ρv x = .int k p)(hy:ρv y = .int k q)(hq:q≠0)(o:Oper)(ho:o.op = .binOp .rem T x y T2):(execOp ρv o).run Tryz.prog w = .ok (.value (.int k (p.tmod q))) w:=by
 unfold execOp;rw [ho];simp [go_sem,hx,hy,hq]
theorem SC{kq:IntKind}{p:Int}{T T2:TypeId}{x y:Operand}{ρv:Operand→Value}(hT:Tryz.prog.underlying T=some (.int .i16))(hx:ρv x = .int .i16 p)(hy:ρv y = .int kq 8)(o:Oper)(ho:o.op = .binOp .shr T x y T2):(execOp ρv o).run Tryz.prog w = .ok (.value (.int .i16 (p / 256))) w:=by
 unfold execOp;rw [ho];simp [go_sem,hx,hy,run_underlying hT]
theorem Wp{p q:Int}{T T2:TypeId}{x y:Operand}{ρv:Operand→Value}(hT:Tryz.prog.underlying T=some (.int .i64))(hx:ρv x = .int .i64 p)(hy:ρv y = .int .i64 q)(o:Oper)(ho:o.op = .binOp .and T x y T2):(execOp ρv o).run Tryz.prog w = .ok (.value (.int .i64 (bits .and .i64 p q))) w:=by
 unfold execOp;rw [ho];simp [go_sem,hx,hy,run_underlying hT]
theorem iB{k:IntKind}{z:Int}{T U:TypeId}{x:Operand}{ρv:Operand→Value}(hT:Tryz.prog.underlying T=some (.int k))(hU:Tryz.prog.underlying U=some (.int .i64))(hx:ρv x = .int k z)(o:Oper)(ho:o.op = .convert T U x):(execOp ρv o).run Tryz.prog w = .ok (.value (.int .i64 (IntKind.i64.wrap z))) w:=by
 unfold execOp;rw [ho];simp [convert,Sem.run_bind,run_underlying hT,run_underlying hU,hx,go_sem]
theorem Qe{p:Int}(h1 : -128≤p)(h2:p≤127):0≤bits .and .i64 p 1∧bits .and .i64 p 1≤1:=by
 have key:∀ n:Fin 256,0≤bits .and .i64 ((n.val:Int) - 128) 1∧bits .and .i64 ((n.val:Int) - 128) 1≤1:=by decide +kernel
 have:=key ⟨(p+128).toNat,by omega⟩;have e:(((p+128).toNat:Nat):Int) - 128=p:=by omega
 dsimp only at this;rw [e] at this;exact this
theorem Aba:bits .and .i64 0 1=0:=by decide +kernel
theorem Xx(hF:Bu V F)(hV:MdV V){k:PK}{xs:List AV}(h:mdP F k xs=some r){ρv:Operand→Value}{ys:List Operand}(hv:@CH (Ae V) ρ M w xs (ys.map ρv)) :
  ∃ v,(∀ o:Oper,o.op=Na k ys→(execOp ρv o).run Tryz.prog w = .ok (.value v) w) ∧ @RV (Ae V) ρ M w r v:=by
 letI:=Ae V
 have two:∀{x y:AV},@CH (Ae V) ρ M w [x,y] (ys.map ρv)→∃ a b,ys=[a,b] ∧ @Bz (Ae V) ρ M w x (ρv a) ∧ @Bz (Ae V) ρ M w y (ρv b):=fun {x y} ⟨va,_,e1,h1,vb,_,e2,h2,e3⟩=>by
  have e3:_=[]:=e3;subst e3;subst e2
  match ys,e1 with
  | [a,b],e1 =>
   simp only [List.map_cons,List.map_nil,List.cons.injEq,and_true] at e1;exact ⟨a,b,rfl,e1.1 ▸ h1,e1.2 ▸ h2⟩
 have one:∀{x:AV},@CH (Ae V) ρ M w [x] (ys.map ρv)→∃ a,ys=[a] ∧ @Bz (Ae V) ρ M w x (ρv a):=fun {x} ⟨va,_,e1,h1,e3⟩=>by
  have e3:_=[]:=e3;subst e3
  match ys,e1 with
  | [a],e1 =>
   simp only [List.map_cons,List.map_nil,List.cons.injEq,and_true] at e1;exact ⟨a,rfl,e1 ▸ h1⟩
 have rv:∀{a:AV}{v:Value},@Bz (Ae V) ρ M w a v → @RV (Ae V) ρ M w a v:=λh=>@Bz.rv (Ae V) ρ M w _ _ h
 have zi:∀ j,zD V (.ap 1 (.v j) (.lit 0))=V.z j:=λj=>by simp [zD]
 have wr:∀ j,IntKind.i64.wrap (V.z j)=V.z j:=λj=>EH (by have:=hF.sm j; omega) (by have:=hF.sm j; omega)
 unfold mdP at h;split at h
 ·-- a byte as int
  obtain ⟨a,rfl,hx⟩:=one hv;split at h
  ·rename_i hc
   cases h
   rw [Bool.and_eq_true] at hc;have hx:=yE hx;rw [zi] at hx;refine ⟨_,λo ho=>iB (E7 hc.1) (E7 hc.2) hx o ho,rv (LT ?_)⟩;rw [wr,Int.add_zero]
  ·cases h
 ·-- a small integer as int64
  obtain ⟨a,rfl,hx⟩:=one hv;split at h
  ·rename_i hc
   cases h
   rw [Bool.and_eq_true] at hc;have hx:=On hx;rw [zi] at hx;refine ⟨_,λo ho=>iB (E7 hc.1) (E7 hc.2) hx o ho,rv (LT ?_)⟩;rw [wr,Int.add_zero]
  ·cases h
 ·obtain ⟨a,b,rfl,hx,hy⟩:=two hv
  obtain ⟨n,hn,rfl⟩:=Option.map_eq_some_iff.1 h;have hx:=Sw hx;rw [Int.add_zero] at hx;refine ⟨_,λo ho=>OT hx hy (by decide) o ho,?_⟩;show _=_;rw [← hV.a,Ip hF hn]
 ·obtain ⟨a,b,rfl,hx,hy⟩:=two hv
  obtain ⟨n,hn,rfl⟩:=Option.map_eq_some_iff.1 h;have hx:=Sw hx;rw [Int.add_zero] at hx;refine ⟨_,λo ho=>OT hx hy (by decide) o ho,?_⟩;show _=_;rw [← hV.b,Ip hF hn]
 ·rename_i e _
  obtain ⟨a,b,rfl,hx,hy⟩:=two hv;split at h
  ·rename_i hc
   cases h
   have hx:=On hx;refine ⟨_,λo ho=>OT hx hy (by decide) o ho,rv (VG ?_)⟩;have e1:zD V (.i (100+e) 0)=V.z (100+e):=zi _;have e2:zD V (.ap 2 (.v 0) (.lit (.ofNat e)))=((V.l 0).getD e 0).num:=rfl;rw [e1,e2,hV.r e (Nat.le_of_ble_eq_true hc)]
  ·cases h
 ·rename_i e _ _
  obtain ⟨a,b,rfl,hx,hy⟩:=two hv;split at h
  ·rename_i hc
   cases h
   rw [Bool.and_eq_true] at hc;have hx:=On hx;refine ⟨_,λo ho=>SC (E7 hc.1) hx hy o ho,rv (VG ?_)⟩;have e1:zD V (.i (200+e) 0)=V.z (200+e):=zi _;have e2:zD V (.ap 2 (.v 0) (.lit (.ofNat e)))=((V.l 0).getD e 0).num:=rfl;rw [e1,e2,hV.s e (Nat.le_of_ble_eq_true hc.2)]
  ·cases h
 ·rename_i e _
  obtain ⟨a,b,rfl,hx,hy⟩:=two hv;split at h
  ·rename_i hc
   cases h
   rw [Bool.and_eq_true,Bool.and_eq_true] at hc;have hx:=Sw hx;rw [Int.add_zero] at hx;have h1:=Nat.le_of_ble_eq_true hc.1.1;have h2:e<300:=Nat.le_of_ble_eq_true hc.1.2;refine ⟨_,λo ho=>Wp (E7 hc.2) hx hy o ho,rv (LT ?_)⟩;have:=hV.t (e - 200) (by omega);rw [show 300+(e - 200)=100+e by omega,show 200+(e - 200)=e by omega] at this;rw [this,Int.add_zero]
  ·cases h
 ·obtain ⟨a,b,rfl,hx,hy⟩:=two hv
  split at h
  ·rename_i hc
   cases h
   exact ⟨_,λo ho=>SC (E7 hc) hx hy o ho,rfl⟩
  ·cases h
 ·obtain ⟨a,b,rfl,hx,hy⟩:=two hv
  split at h
  ·rename_i hc
   cases h
   exact ⟨_,λo ho=>Wp (E7 hc) hx hy o ho,congrArg (Value.int .i64) Aba⟩
  ·cases h
 ·rename_i T _
  obtain ⟨a,rfl,hx⟩:=one hv;split at h
  ·rename_i hc
   cases h
   obtain ⟨el,hd⟩:=Cc hc;have hx:@Rp (Ae V) ρ M w _ [ρv a]:=hx;unfold Rp at hx;obtain ⟨A,c,e1,_⟩:=hx.2;have ha:=(List.cons.inj e1).1;refine ⟨.int .i64 ((V.l 0).length:Int),λo ho=>?_,rv (LT ?_)⟩
   ·have ho:o.op = .call { callee:=.builtin .len,args:=#[a],argTypes:=#[T] }:=ho
    unfold execOp;rw [ho];have ha:ρv a = .slice A (V.l 0).length c:=by
     rw [ha];simp only [lD]
    simp [resolve,invoke,builtin,Builtin.len_,Sem.run_bind,run_underlying hd,ha,goInt]
   ·rw [hV.c,Int.add_zero]
  ·cases h
 ·rename_i T _ i
  obtain ⟨a,b,rfl,hx,hy⟩:=two hv;split at h
  ·rename_i hc
   cases h
   rw [Bool.and_eq_true] at hc;obtain ⟨el,t1,t2⟩:=Ir hc.1;have hle:=AC hF hc.2;unfold iD at hle;rw [hF.z0,hV.c] at hle;dsimp only at hle;have hi:i<(V.l 0).length:=by omega
   have hx:@Rp (Ae V) ρ M w _ [ρv a]:=hx;unfold Rp at hx;obtain ⟨A,c,e1,_,hb,hg⟩:=hx.2;have el0:lD V (.v 0)=V.l 0:=by simp only [lD]
   rw [el0] at e1 hb hg;obtain ⟨g,off,rfl,k2,k3,k4⟩:=hg (by omega);have ha:=(List.cons.inj e1).1;have hy:ρv b = .int .i64 (i:Int):=hy;refine ⟨.pointer (some ⟨g,off+(i:Int).toNat*1,none⟩),λo ho=>?_,rv ?_⟩
   ·have ho:o.op = .indexAddr T a b:=ho
    unfold execOp;rw [ho];show Sem.run _ (Instr.indexAt T (ρv a) (ρv b) >>= λx=>pure (Next.value x)) w=_;rw [ha,hy];exact Cs (Dm t1 t2 ⟨by omega,by omega⟩)
   ·show @Rp (Ae V) ρ M w (.rptr _) [_]
    unfold Rp;have q1:zD V (.ap 2 (.v 0) (.lit (.ofNat i)))=((V.l 0)[i]).num:=by
     show ((V.l 0).getD i 0).num=_;rw [List.getD_eq_getElem?_getD,List.getElem?_eq_getElem hi];rfl
    refine ⟨g,off+i*1,[.int .i16 ((V.l 0)[i]).num],by simp,k2,k3,?_,@AU.one (Ae V) ρ M w _ _ ?_⟩
    ·have e6:(((V.l 0).map λq=>Value.int .i16 q.num).drop i).take 1=[.int .i16 ((V.l 0)[i]).num]:=by
      rw [← List.map_drop,← List.map_take,List.drop_eq_getElem_cons hi];rfl
     rw [← e6,Nat.mul_one];exact BE (BO k4)
    ·unfold Rp
     refine ⟨rfl,?_⟩;show [_]=[_];rw [q1]
  ·cases h
 ·cases h
theorem uX(hF:Bu V F)(hV:MdV V):@Mj (Ae V) (mdX F):=by
 obtain ⟨_,x2,x3,x4,x5,x6,x7⟩:=GC hF;refine @Mj.mk (Ae V) (mdX F) (λk xs r h ρ M w ρv ys _ hv=>?_) x2 x3 x4 x5 x6 x7;have h:(match mdP F k xs with
  | some r=>some r
  | none=>QO F k xs)=some r:=h
 split at h
 ·rename_i r' h1
  cases h
  exact Xx hF hV h1 hv
 ·exact J0 hF h hv
theorem Abh(sm:∀ k,-1152921504606846976≤V.z k∧V.z k≤1152921504606846976)(hd:∀ e,e<100→V.z (300+e)+1≠0∧V.q e=Rat.divInt (V.z (100+e)) (V.z (300+e)+1)∧A7 (V.q e) 1):@PE.ok (Ae V) pMd:=by
 intro xs r e;refine ⟨λ_ _=>by simp [pMd,go_sem],λρ M w vs hm0 hv=>?_⟩;unfold pMd at e;dsimp only at e;split at e
 ·rename_i i _ j _
  split at e
  ·rename_i hc
   simp only [Bool.and_eq_true] at hc
   cases e
   have c1:=Nat.le_of_ble_eq_true hc.1.1;have c2:=Nat.eq_of_beq_eq_true hc.1.2;have c3:i<200:=Nat.le_of_ble_eq_true hc.2;obtain ⟨va,_,rfl,k1,vb,_,rfl,k2,k5⟩:=hv;have k5:_=[]:=k5;subst k5;have k1:=Sw k1;have k2:=Sw k2;rw [Int.add_zero] at k1;subst k1;subst k2;obtain ⟨d1,d2,d3⟩:=hd (i - 100) (by omega);rw [show 300+(i - 100)=j by omega,show 100+(i - 100)=i by omega] at d2;rw [show 300+(i - 100)=j by omega] at d1;have s1:=sm i;have s2:=sm j;refine Calls.mono (Jj w (by omega) (by omega) (by omega) (by omega) d1) λe w' ⟨v,e1,e2,e3⟩=>⟨v,e1,@Bz.rv (Ae V) ρ M w' _ _ (Gl ?_ ?_),e3⟩
   ·simp only [qD]
    rw [d2];exact e2
   ·simp only [qD]
    exact d3
  ·cases e
 ·cases e
  obtain ⟨va,_,rfl,k1,vb,_,rfl,k2,k5⟩:=hv;have k5:_=[]:=k5;subst k5;have k1:va = .int .i64 0:=k1;have k2:vb = .int .i64 1:=k2;subst k1;subst k2;refine Calls.mono (Jj (x:=0) (y:=1) w (by decide) (by decide) (by decide) (by decide) (by decide)) λe w' ⟨v,e1,e2,e3⟩=>⟨v,e1,@Bz.rv (Ae V) ρ M w' _ _ (Gl ?_ ?_),e3⟩
  ·simp only [qD]
   exact e2
  ·simp only [qD]
   exact AdV
 ·cases e
end
theorem pA{V:VL}{M:Nat→Prop}{w:World}{T:Tb}{f m:Nat}{xs:List AV}{a:AV}{U:HP}(hT:@Fj (Ae V) T)(hr:Cz AO (EA T AO m) f xs [] 16 0=some (a,U)){vs:List Value}(hm0:∀ b,M b→b<w.heap.size)(hv:@CH (Ae V) B4 M w xs vs) :
  Calls Tryz.prog f vs.toArray w λe w'=>∃ u ρ' M',e = .returned u ∧ @RV (Ae V) ρ' M' w' a u ∧ @RH (Ae V) ρ' M' (Dl B4 w (lk [])) w' (CT (lk []) U)∧Below w.heap.size w w':=by
 letI:=Ae V
 obtain ⟨_,hcall⟩:=Eu Bv (FQ hT Bv m).1 f xs [] 16 0 _ _ hr;have hs:CI B4 M (Dl B4 w (lk [])) w 0 (lk []):=⟨⟨λo b e=>(by cases e),λo o' b b' g c c' e=>(by cases e)⟩,hm0,λ_ _ _=>rfl,λb hb=>.inl hb⟩;refine Calls.mono (hcall B4 M w vs hs (λo p e=>(by cases e)) (by decide) hv) λe w' ⟨v,e1,ρ',M',ht,hv',hR,_,hsup,_,_,hfr,_⟩=>⟨v,ρ',M',e1,hv',hR,⟨hfr.os,hfr.tape,hfr.output,hfr.size,λb hb=>hfr.keep b hb ?_⟩⟩
 rintro (h1 | ⟨_,_,_,h1,_⟩)
 ·omega
 ·cases h1
def rZ(x:Rat):Prop:=∃ z:Int,x*((2:Int):Rat)=(z:Rat)∧Sm z 1
theorem AeD:rZ 0:=⟨0,by simp,by unfold Sm; decide⟩
theorem rK{n d:Int}(h1 : -9≤n)(h2:n≤9)(hd:d=1 ∨ d=2):rZ (Rat.divInt n d)∧A7 (Rat.divInt n d) 1:=by
 have sn:∀ z:Int,-18≤z→z≤18→Sm z 1:=λz a b=>by
  unfold Sm;have:z.natAbs≤18:=by omega
  exact Nat.lt_of_le_of_lt this (by decide)
 rcases hd with rfl | rfl
 ·refine ⟨⟨2*n,?_,sn _ (by omega) (by omega)⟩,A7.of (sn _ (by omega) (by omega)) (sn _ (by decide) (by decide)) (by decide)⟩
  rw [Rat.divInt_eq_div,Rat.intCast_mul];have:((1:Int):Rat)=1:=rfl;rw [this]
  grind
 ·refine ⟨⟨n,?_,sn _ (by omega) (by omega)⟩,A7.of (sn _ (by omega) (by omega)) (sn _ (by decide) (by decide)) (by decide)⟩
  rw [Rat.divInt_eq_div];have:((2:Int):Rat)≠0:=by decide
  grind
section
variable {V : VL} {L C : Nat}
theorem Ta(hq:∀ e,e<L→rZ (V.q e)){q:CE}(h:AaK L q=true):rZ (qD V q):=by
 unfold AaK at h;split at h
 ·simp only [qD]
  exact hq _ (Nat.le_of_ble_eq_true h)
 ·simp only [qD]
  exact AeD
 ·cases h
theorem J1(hq:∀ e,e<L→rZ (V.q e)):∀{n:Nat}{e:CE},isRow L n e=true→(lD V e).length=n∧∀ x∈lD V e,rZ x
 | 0,e,h=>by
  unfold isRow at h;split at h
  ·simp [lD]
  ·rename_i hh
   cases hh
  ·cases h
 | n+1,e,h=>by
  unfold isRow at h;split at h
  ·rename_i hh
   cases hh
  ·rename_i n' q r hh
   cases hh
   rw [Bool.and_eq_true] at h;obtain ⟨i1,i2⟩:=J1 hq h.2;have e:lD V (.ap 80 q r)=qD V q :: lD V r:=by simp only [lD]
   rw [e];refine ⟨by rw [List.length_cons,i1],λx hx=>?_⟩
   rcases List.mem_cons.1 hx with rfl | hx
   ·exact Ta hq h.1
   ·exact i2 x hx
  ·cases h
theorem Kl(hq:∀ e,e<L→rZ (V.q e)):∀{n:Nat}{m:CE},Rr L C n m=true→(mD V m).length=n∧PG C (mD V m)
 | 0,e,h=>by
  unfold Rr at h;split at h
  ·simp only [mD]
   exact ⟨rfl,⟨λl hl=>(by cases hl),λl hl=>(by cases hl)⟩⟩
  ·rename_i hh
   cases hh
  ·cases h
 | n+1,e,h=>by
  unfold Rr at h;split at h
  ·rename_i hh
   cases hh
  ·rename_i n' q r hh
   cases hh
   rw [Bool.and_eq_true] at h;obtain ⟨i1,i2⟩:=Kl hq h.2;obtain ⟨j1,j2⟩:=J1 hq h.1;have e:mD V (.ap 81 q r)=lD V q :: mD V r:=by simp only [mD]
   rw [e];refine ⟨by rw [List.length_cons,i1],λl hl=>?_,λl hl=>?_⟩
   ·rcases List.mem_cons.1 hl with rfl | hl
    ·exact j1
    ·exact i2.len l hl
   ·rcases List.mem_cons.1 hl with rfl | hl
    ·exact j2
    ·exact i2.el l hl
  ·cases h
end
def Dv(zr zc:Int)(l:List Rat):VL:=⟨λk=>if k=1 then zr else if k=2 then zc else if k=11 then zr.tmod 5 else if k=12 then zc.tmod 6 else if k=13 then (l.length:Int) else if 100≤k∧k<200 then ((l.getD (k - 100) 0).num).tmod 10 else if 200≤k∧k<300 then (l.getD (k - 200) 0).num / 256 else if 300≤k∧k<400 then bits .and .i64 ((l.getD (k - 300) 0).num / 256) 1 else 0,
 λk=>if k=0 then l else [],λe=>Rat.divInt (((l.getD e 0).num).tmod 10) (bits .and .i64 ((l.getD e 0).num / 256) 1+1),λ_=>[]⟩
section
variable {zr zc : Int} {l : List Rat}
theorem uV{e:Nat}(he:e<100):(Dv zr zc l).z (100+e)=((l.getD e 0).num).tmod 10:=by
 simp only [Dv];rw [if_neg (by omega),if_neg (by omega),if_neg (by omega),if_neg (by omega),if_neg (by omega),if_pos (by omega),show 100+e - 100=e by omega]
theorem uG{e:Nat}(he:e<100):(Dv zr zc l).z (200+e)=(l.getD e 0).num / 256:=by
 simp only [Dv];rw [if_neg (by omega),if_neg (by omega),if_neg (by omega),if_neg (by omega),if_neg (by omega),if_neg (by omega),if_pos (by omega),show 200+e - 200=e by omega]
theorem sX{e:Nat}(he:e<100):(Dv zr zc l).z (300+e)=bits .and .i64 ((l.getD e 0).num / 256) 1:=by
 simp only [Dv];rw [if_neg (by omega),if_neg (by omega),if_neg (by omega),if_neg (by omega),if_neg (by omega),if_neg (by omega),if_neg (by omega),if_pos (by omega),show 300+e - 300=e by omega]
theorem PH(hl:∀ q∈l,-32768≤q.num∧q.num≤32767)(e:Nat) : -32768≤(l.getD e 0).num∧(l.getD e 0).num≤32767:=by
 rw [List.getD_eq_getElem?_getD]
 cases hg:l[e]? with
 | none=>decide
 | some x=>exact hl x (List.mem_of_getElem? hg)
theorem OC(z:Int){b:Int}(hb:0<b) : -b<z.tmod b:=by
 have h:=Int.tmod_lt_of_pos (-z) hb;rw [Int.neg_tmod] at h;omega
theorem fO(z:Int) : -9≤z.tmod 10∧z.tmod 10≤9:=by
 have h:=Int.tmod_lt_of_pos z (b:=10) (by decide);have h2:=OC z (b:=10) (by decide);omega
theorem Aal:MdV (Dv zr zc l):=
 ⟨rfl,rfl,rfl,λe he=>by rw [uV he]; rfl,λe he=>by rw [uG he]; rfl,λe he=>by rw [sX he,uG he]⟩
theorem tX(h1:0≤zr∧zr≤255)(h2:0≤zc∧zc≤255)(hl:∀ q∈l,-32768≤q.num∧q.num≤32767)(hlen:l.length≤1000000000000000)(k:Nat) : -1152921504606846976≤(Dv zr zc l).z k∧(Dv zr zc l).z k≤1152921504606846976:=by
 simp only [Dv];split
 ·omega
 ·split
  ·omega
  ·split
   ·have a:=Int.tmod_lt_of_pos zr (b:=5) (by decide)
    have b:=OC zr (b:=5) (by decide);omega
   ·split
    ·have a:=Int.tmod_lt_of_pos zc (b:=6) (by decide)
     have b:=OC zc (b:=6) (by decide);omega
    ·split
     ·omega
     ·split
      ·have:=fO (l.getD (k - 100) 0).num
       omega
      ·split
       ·have:=PH hl (k - 200)
        omega
       ·split
        ·have:=PH hl (k - 300)
         have:=Qe (p:=(l.getD (k - 300) 0).num / 256) (by omega) (by omega);omega
        ·omega
theorem rU(hl:∀ q∈l,-32768≤q.num∧q.num≤32767)(e:Nat):rZ ((Dv zr zc l).q e)∧A7 ((Dv zr zc l).q e) 1:=by
 have:=PH hl e;have a:=Qe (p:=(l.getD e 0).num / 256) (by omega) (by omega);have b:=fO (l.getD e 0).num;exact rK b.1 b.2 (by omega)
end
end Go.Proofs.YtdopbgnkneeceaaGreat
