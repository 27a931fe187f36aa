/- Layer 5: the number of pivots is the rank: the mathematics. -/
import Derived.Test.YtdopbgnkneeceaaGreatqN4
set_option linter.unusedSectionVars false
set_option linter.unusedVariables false
set_option linter.unusedSimpArgs false
set_option maxRecDepth 100000
namespace Go.Proofs.YtdopbgnkneeceaaGreat
open Go.RowKit
def fM(m:List (List Rat)):Nat→Nat→Rat:=λi j=>(m.getD i []).getD j 0
def fL(L:List Ln):Nat→Nat→Rat:=λi j=>(Cc L i).2.getD j 0
theorem Kk{f:Rat→Rat}(h0:f 0=0)(l:List Rat)(j:Nat):(l.map f).getD j 0=f (l.getD j 0):=by
 rw [List.getD_eq_getElem?_getD,List.getD_eq_getElem?_getD,List.getElem?_map]
 cases l[j]? with
 | none=>exact h0.symm
 | some x=>rfl
theorem OI(l:List Rat)(j:Nat):(Cj l).getD j 0=l.getD j 0 / Eu l:=Kk (f:=λx=>x / Eu l) (by rw [Rat.div_def,Rat.zero_mul]) l j
theorem Dx{l:List Rat}{j:Nat}(h:l.length≤j):l.getD j 0=0:=by
 rw [List.getD_eq_getElem?_getD,List.getElem?_eq_none h];rfl
theorem lM{c d:Rat}{l p:List Rat}(he:p.length=l.length)(j:Nat):(N4 c l d p).getD j 0=c*l.getD j 0 - d*p.getD j 0:=by
 by_cases hj:j<l.length
 ·unfold N4
  rw [List.getD_eq_getElem?_getD,List.getElem?_map,List.getElem?_range hj];rfl
 ·rw [Dx (by rw [LP]; omega),Dx (by omega),Dx (by omega)]
  grind
theorem uI{c:Rat}{l p:List Rat}{col s:Nat}(hl:Dr s l)(hp:Dr s p)(hs:1≤s)(hz:p.getD col 0≠0)(he:p.length=l.length):∃ a b:Rat,a≠0∧(∀ j,(ER c l p col).2.getD j 0=a*l.getD j 0+b*p.getD j 0)∧(ER c l p col).2.getD col 0=0:=by
 unfold ER;split
 ·rename_i h
  exact ⟨1,0,by decide,λj=>by grind,h⟩
 ·rename_i h
  obtain ⟨s1,s2⟩:=MC hl hp hz;have hfr:=(Lq hl hp s1 s2).frac (by omega);generalize hf:l.getD col 0 / p.getD col 0=f at s1 s2 hfr;generalize hr:N4 ((f.den:Int):Rat) l (f.num:Rat) p=r at hfr;have hu:Eu r≠0:=Qg hfr _;have hd:=KF f;have hm:=Lz f;have key:∀ j,(Cj r).getD j 0=(((f.den:Int):Rat)*l.getD j 0 - (f.num:Rat)*p.getD j 0) / Eu r:=λj=>by
   rw [OI,← hr,lM he,hr]
  refine ⟨((f.den:Int):Rat) / Eu r,-(f.num:Rat) / Eu r,?_,λj=>?_,?_⟩
  ·intro e
   apply hd
   grind
  ·show (Cj (N4 ((f.den:Int):Rat) l (f.num:Rat) p)).getD j 0=_
   rw [hr,key]
   grind
  ·show (Cj (N4 ((f.den:Int):Rat) l (f.num:Rat) p)).getD col 0=_
   rw [hr,key,← hm,← hf]
   grind
section
variable {L : List Ln} {C s B n t : Nat}
theorem lY{g:List Nat × List Ln}(h:Ni L.length C s B n g)(hs1:1≤s)(ha:Cg g.2 g.1.length n<g.2.length):Piv g.1.length L.length (Cg g.2 g.1.length n) n (fL g.2) (fL (FE g.2 g.1.length (Cg g.2 g.1.length n) n)):=by
 obtain ⟨p1,p2,p3,p4⟩:=DW (L:=g.2) (t:=g.1.length) (col:=n) (by rw [h.len]; exact h.tR);have hlen:=h.len;have hz:=p4 ha;have at_:∀ k,k<L.length→fL (FE g.2 g.1.length (Cg g.2 g.1.length n) n) k=λj=>(if k=g.1.length then Cc g.2 (Cg g.2 g.1.length n) else if k=Cg g.2 g.1.length n then (-(Cc g.2 g.1.length).1,(Cc g.2 g.1.length).2) else if Cg g.2 g.1.length n<k then ER (Cc g.2 k).1 (Cc g.2 k).2 (Cc g.2 (Cg g.2 g.1.length n)).2 n else Cc g.2 k).2.getD j 0:=λk hk=>by
  funext j
  unfold fL;rw [Kf (by omega)]
 refine ⟨p1,by omega,hz,λk h1 h2=>p3 k h1 h2,λk hk=>?_,?_,λk h1 h2=>?_,λk h1 h2=>?_⟩
 ·rw [at_ k (by omega)]
  funext j
  rw [if_neg (by omega),if_neg (by omega),if_neg (by omega)];rfl
 ·refine ⟨1,by decide,λj=>?_⟩
  rw [at_ _ (by omega)];dsimp only;rw [if_pos rfl,Rat.one_mul];rfl
 ·refine ⟨1,by decide,λj=>?_⟩
  rw [at_ k (by omega)];dsimp only;rw [if_neg (by omega),Rat.one_mul]
  by_cases e:k=Cg g.2 g.1.length n
  ·rw [if_pos e,if_pos e]
   rfl
  ·rw [if_neg e,if_neg e,if_neg (by omega)]
   rfl
 ·have hk:=h.ln k h2
  have hA:=h.ln _ (by omega:Cg g.2 g.1.length n<L.length);obtain ⟨a,b,h3,h4,h5⟩:=uI (c:=(Cc g.2 k).1) hk.ints hA.ints (Sx hs1 n) hz (by rw [hA.len,hk.len]);refine ⟨a,b,h3,λj=>?_,?_⟩
  ·rw [at_ k (by omega)]
   dsimp only;rw [if_neg (by omega),if_neg (by omega),if_pos h1];exact h4 j
  ·rw [at_ k (by omega)]
   dsimp only;rw [if_neg (by omega),if_neg (by omega),if_pos h1];exact h5
theorem TO{M:Nat→Nat→Rat}(hs:s≤300)(hs1:1≤s)(hL:∀ k,k<L.length→JL C s B (Cc L k))(h1:Sp L.length M L.length (fL L))(h2:Sp L.length (fL L) L.length M):∀ n,n≤6→xP M L.length (Bp L n).1.length n (fL (Bp L n).2) (λi=>(Bp L n).1.getD i 0)
 | 0,_=>⟨Nat.zero_le _,λi h=>absurd h (Nat.not_lt_zero i),λi k _ h=>absurd h (Nat.not_lt_zero k),λi h=>absurd h (Nat.not_lt_zero i),λi k h=>absurd h (Nat.not_lt_zero i),λk j _ _ h=>absurd h (Nat.not_lt_zero j),λi j h=>absurd h (Nat.not_lt_zero i),h1,h2⟩
 | n+1,hn=>by
  have ih:=TO hs hs1 hL h1 h2 n (by omega);have ok:=Jm hs hs1 hL n (by omega);have hlen:=ok.len;obtain ⟨p1,p2,p3,p4⟩:=DW (L:=(Bp L n).2) (t:=(Bp L n).1.length) (col:=n) (by rw [ok.len]; exact ok.tR);rw [J1];split
  ·rename_i ha
   have:=ih.pivot (p':=λi=>((Bp L n).1 ++ [n]).getD i 0) (lY ok hs1 ha) (by simp) λi hi=>by
    rw [List.getD_eq_getElem?_getD,List.getElem?_append_left hi,← List.getD_eq_getElem?_getD]
   simpa using this
  ·rename_i ha
   exact ih.skip λk h1 h2=>p3 k h1 (by omega)
end
theorem mY{m:List (List Rat)}{C:Nat}(h:CL C m):Sp m.length (fM m) m.length (fL (Bw m))∧Sp m.length (fL (Bw m)) m.length (fM m):=by
 have at_:∀ i,i<m.length→∃ u:Rat,u≠0∧∀ j,fL (Bw m) i j=fM m i j / u:=λi hi=>by
  obtain ⟨_,D,s,h2,_,_⟩:=h.row hi;refine ⟨Eu (m.getD i []),Qg h2 _,λj=>?_⟩;unfold fL fM;rw [Hk hi];exact OI _ _
 refine ⟨λi hi=>?_,λi hi=>?_⟩
 ·obtain ⟨u,h1,h2⟩:=at_ i hi
  refine ((In.row (R:=fL (Bw m)) hi).smul u).congr λj=>?_
  rw [h2]
  grind
 ·obtain ⟨u,h1,h2⟩:=at_ i hi
  refine ((In.row (R:=fM m) hi).smul (1 / u)).congr λj=>?_
  rw [h2]
  grind
def maO(U:HP):Nat→List AV→Option CE
 | 0,_=>some (.lit 0)
 | k+1,.sl o 0 n c :: l=>match gI U .L (.sl o 0 n c),maO U k l with
  | some (.ext 1 false (.ap 51 e (.lit 0))),some m=>some (.ap 81 e m)
  | _,_=>none
 | _+1,_=>none
def tL(U:HP):AV→Option CE
 | .sl o 0 n _=>match lk U o with
  | some b=>if b.bl.isNone then maO U n b.cs else none
  | none=>none
 | _=>none
section
variable {V : VL} {F : Fa} {ρ : Bg} {M M' : Nat → Prop} {w w0 : World}
theorem O2(hF:Bi V F)(hm0:∀ b,M b→b<w0.heap.size){U:HP}(hR:@RH (Ab V) ρ M' (Di BQ w0 (lk [])) w (CR (lk []) U)):∀{k:Nat}{l:List AV}{m:CE}{cs:List Value},maO U k l=some m → @AQ (Ab V) ρ M' w l cs→(mD V m).length=k∧∃ xs ys,cs=xs ++ ys∧Eg M w (mD V m) xs
 | 0,_,_,cs,h,_=>by
  unfold maO at h
  cases h
  exact ⟨by simp [mD],[],cs,rfl,by simp [mD,Eg]⟩
 | k+1,[],_,_,h,_=>by
  unfold maO at h
  cases h
 | k+1,a :: l,m,cs,h,hv=>by
  unfold maO at h;split at h
  ·rename_i hh; cases hh
  ·rename_i k2 o n c l' hk hh
   cases hk
   cases hh
   split at h
   ·rename_i e m' h1 h2
    cases h
    unfold AQ at hv;obtain ⟨x,y,rfl,r1,r2⟩:=hv;have r1:=slF (M:=M) hF hm0 hR h1 r1;obtain ⟨i1,xs,ys,rfl,i2⟩:=O2 hF hm0 hR h2 r2;unfold Rp at r1;obtain ⟨r0,r1⟩:=r1;obtain ⟨v,rfl⟩:=List.length_eq_one_iff.1 r0;have e:mD V (.ap 81 e m')=lD V e :: mD V m':=by simp only [mD]
    rw [e];exact ⟨by rw [List.length_cons,i1],v :: xs,ys,rfl,v,xs,rfl,r1,i2⟩
   ·cases h
  ·cases h
theorem Kz(hF:Bi V F)(hm0:∀ b,M b→b<w0.heap.size){U:HP}(hR:@RH (Ab V) ρ M' (Di BQ w0 (lk [])) w (CR (lk []) U)){a:AV}{m:CE}{v:Value}(h:tL U a=some m)(hv:@Bz (Ab V) ρ M' w a v):@Bz (Ab V) BQ M w (aM m) v:=by
 unfold tL at h;split at h
 ·rename_i o n cap
  split at h
  ·rename_i b hb
   split at h
   ·rename_i hbl
    have hbl:=Option.isNone_iff_eq_none.1 hbl;have hv:@Rp (Ab V) ρ M' w (.sl o 0 n cap) [v]:=hv;unfold Rp at hv;obtain ⟨g,c,kk,q1,q2,q3,_⟩:=hv;have hU:CR (lk []) U o=some b:=by
     letI:=Ab V
     rw [← CZ,List.append_nil];exact hb
    obtain ⟨hobj,_⟩:=id hR;obtain ⟨g2,c2,arr,cs,k1,k2,k3,k4,k5,k6,k7,k8⟩:=hobj o b hU;rw [q1] at k1;have hg:g=g2:=congrArg Prod.fst (Option.some.inj k1);subst hg;have hge:w0.heap.size≤g:=by
     rcases k3 with h1 | ⟨_,_,_,h1,_⟩
     ·exact h1
     ·cases h1
    have nM:¬ M g:=λhm=>by
     have:=hm0 g hm;omega
    have hcells:=@Bv.rps (Ab V) _ _ _ _ _ k6 hbl;obtain ⟨tl,he,_⟩:=k7;have hra:=(letI:=Ab V; EE k4 he);have hsz:=AJ k4;obtain ⟨i1,xs,ys,e1,i2⟩:=O2 (M:=M) hF hm0 hR h hcells;have hq2:v = .slice (some ⟨g,0,none⟩) n kk:=(List.cons.inj q2).1;refine JR ⟨some ⟨g,0,none⟩,kk,by rw [hq2,i1],by rw [i1]; exact q3,λ_=>⟨g,0,xs,rfl,nM,hsz,λj x hj=>hra j x (by
     rw [e1];have:=(List.getElem?_eq_some_iff.1 hj).1;rw [List.getElem?_append_left this];exact hj),i2⟩⟩
   ·cases h
  ·cases h
 ·cases h
theorem AdL{L:List PE}{C:BD}{f m:Nat}{xs:List AV}{a:AV}{U:HP}(hF:Bi V F)(hL:∀ e∈L,@PE.ok (Ab V) e)(hC:@B5 (Ab V) C)(hr:BR AC (Dd (T8 F L C) AC m) f xs [] 16 0=some (a,U)){vs:List Value}(hm0:∀ b,M b→b<w.heap.size)(hv:@CH (Ab V) BQ M w xs vs) :
  Calls Tryz.prog f vs.toArray w λe w'=>∃ u ρ' M',e = .returned u ∧ @RV (Ab V) ρ' M' w' a u ∧ @RH (Ab V) ρ' M' (Di BQ w (lk [])) w' (CR (lk []) U)∧Below w.heap.size w w':=by
 letI:=Ab V
 obtain ⟨_,hcall⟩:=DK Bq (EN (T:=T8 F L C) (@EO.mk (Ab V) _ (El hF hL) (Fh hF) hC) Bq m).1 f xs [] 16 0 _ _ hr;have hs:CK BQ M (Di BQ w (lk [])) w 0 (lk []):=⟨⟨λo b e=>(by cases e),λo o' b b' g c c' e=>(by cases e)⟩,hm0,λ_ _ _=>rfl,λb hb=>.inl hb⟩;refine Calls.mono (hcall BQ M w vs hs (λo p e=>(by cases e)) (by decide) hv) λe w' ⟨v,e1,ρ',M',ht,hv',hR,_,hsup,_,_,hfr,_⟩=>⟨v,ρ',M',e1,hv',hR,⟨hfr.os,hfr.tape,hfr.output,hfr.size,λb hb=>hfr.keep b hb ?_⟩⟩
 rintro (h1 | ⟨_,_,_,h1,_⟩)
 ·omega
 ·cases h1
end
def KE:List CE→CE
 | []=>.lit 0
 | e :: l=>.ap 81 e (KE l)
theorem QH(V:VL):∀ l:List CE,mD V (KE l)=l.map (lD V)
 | []=>by simp [KE,mD]
 | e :: l=>by
  unfold KE;rw [List.map_cons,← QH V l];simp only [mD]
def VJ(m:List (List Rat)):VL:=⟨λ_=>0,λk=>m.getD k [],λ_=>0,λ_=>[]⟩
theorem Ail{m:List (List Rat)}:mD (VJ m) (gH 0 m.length)=m:=by
 rw [Yx];apply List.ext_getElem
 ·simp
 ·intro i h1 h2
  simp only [List.getElem_map,List.getElem_range',Nat.zero_add,Nat.one_mul];show m.getD i []=_;rw [List.getD_eq_getElem?_getD,List.getElem?_eq_getElem h2];rfl
structure FG (C:Nat) (m:List (List Rat)):Prop where
 len:∀ l∈m,l.length=C
 el:∀ l∈m,∀ x∈l,∃ z:Int,x*((2:Int):Rat)=(z:Rat)∧Sm z 1
theorem FG.ok{C:Nat}{m:List (List Rat)}(h:FG C m):CL C m:=⟨h.len,λl hl=>⟨2,1,⟨by decide,by unfold Sm; decide,h.el l hl⟩,by decide,by decide⟩⟩
theorem FG.at_{C:Nat}{m:List (List Rat)}(h:FG C m){i:Nat}(hi:i<m.length)(j:Nat):∃ z:Int,(m.getD i []).getD j 0*((2:Int):Rat)=(z:Rat)∧Sm z 1:=by
 have hm:m.getD i []∈m:=by
  rw [List.getD_eq_getElem?_getD,List.getElem?_eq_getElem hi];exact List.getElem_mem hi
 by_cases hj:j<(m.getD i []).length
 ·refine h.el _ hm _ ?_
  generalize m.getD i []=l at hj;rw [List.getD_eq_getElem?_getD,List.getElem?_eq_getElem hj];exact List.getElem_mem hj
 ·rw [Dx (by omega)]
  exact ⟨0,by simp,by unfold Sm; decide⟩
def rG(l:List Rat)(c:Rat):List Rat:=l.map λx=>x*c
def Ss(l:List Rat)(c:Rat):List Rat:=l.map λx=>x / c
def FI(p:Nat→Nat)(G:Nat→List Rat)(row:List Rat)(c:Rat)(i:Nat):Nat→List Rat
 | 0=>rG row c
 | n+1=>N4 1 (FI p G row c i n) (row.getD (p (i+1+n)) 0) (G (i+1+n))
def tN(row:Nat→List Rat)(p:Nat→Nat)(c:Rat)(t:Nat):Nat→Nat→List Rat
 | 0,_=>[]
 | m+1,i=>if t≤i+m then tN row p c t m i else Ss (FI p (tN row p c t m) (row i) c i (t - 1 - i)) ((row i).getD (p i) 0)
def NS(row:Nat→List Rat)(p:Nat→Nat)(c:Rat)(t i:Nat):List Rat:=tN row p c t t i
def tP:Nat→Nat
 | 0=>60000
 | m+1=>60000+(m+1)*(20001+tP m+1)
theorem rY:∀ m,m<4→tP m≤1900000
 | 0,_=>by decide
 | 1,_=>by decide
 | 2,_=>by decide
 | 3,_=>by decide
section
variable {row : Nat → List Rat} {p : Nat → Nat} {c : Rat} {t : Nat} {G G' : Nat → List Rat} {r : List Rat} {i : Nat}
theorem Nj:∀{n:Nat},(∀ m,m<n→G (i+1+m)=G' (i+1+m))→FI p G r c i n=FI p G' r c i n
 | 0,_=>rfl
 | n+1,h=>by
  unfold FI;rw [Nj λm hm=>h m (by omega),h n (by omega)]
theorem lP{m:Nat}(h:t≤i+m):∀ k,tN row p c t (m+k) i=tN row p c t m i
 | 0=>rfl
 | k+1=>by
  show tN row p c t (m+k+1) i=_;rw [tN,if_pos (by omega),lP h k]
theorem Acf{m:Nat}(h:t≤i+m)(hm:m≤t):tN row p c t m i=NS row p c t i:=by
 unfold NS;obtain ⟨k,rfl⟩:∃ k,t=m+k:=⟨t - m,by omega⟩;exact (lP h k).symm
theorem MT(hi:i<t):NS row p c t i=Ss (FI p (NS row p c t) (row i) c i (t - 1 - i)) ((row i).getD (p i) 0):=by
 obtain ⟨m,hm⟩:∃ m,t=i+m+1:=⟨t - 1 - i,by omega⟩;have e:NS row p c t i=tN row p c t (m+1) i:=(Acf (by omega) (by omega)).symm;rw [e,tN,if_neg (by omega)];rw [Nj (G':=NS row p c t) λk hk=>Acf (by omega) (by omega)]
theorem F9:∀{n:Nat},(FI p G r c i n).length=r.length
 | 0=>by simp [FI,rG]
 | n+1=>by
  unfold FI;rw [LP,F9]
theorem RD(hi:i<t):(NS row p c t i).length=(row i).length:=by
 rw [MT hi];simp [Ss,F9]
theorem oK(a b:List Rat):N4 1 a 0 b=a:=by
 unfold N4;apply List.ext_getElem
 ·simp
 ·intro k h1 h2
  simp only [List.getElem_map,List.getElem_range];rw [List.getD_eq_getElem?_getD,List.getElem?_eq_getElem h2];simp only [Option.getD_some]
  grind
theorem Acz{s:Nat}(hs:1≤s):AR 0 s:=(Dy (w:=0) (s:=1) (by unfold Sm; decide) (by decide):AR ((0:Int):Rat) 1).mono hs
theorem GU{l:List Rat}{s:Nat}(hs:1≤s)(h:∀ x∈l,AR x s)(k:Nat):AR (l.getD k 0) s:=by
 by_cases hk:k<l.length
 ·rw [List.getD_eq_getElem?_getD,List.getElem?_eq_getElem hk]
  exact h _ (List.getElem_mem hk)
 ·rw [Dx (by omega)]
  exact Acz hs
theorem Jl{g:Nat}(hr:∀ x∈r,AR x 20000)(hc:AR c 20000):∀{n:Nat},(∀ m,m<n→∀ x∈G (i+1+m),AR x g)→∀ x∈FI p G r c i n,AR x (40000+n*(20001+g+1))
 | 0,_=>λx hx=>by
  obtain ⟨y,hy,rfl⟩:=List.mem_map.1 hx;exact ((hr y hy).mul hc).mono (by omega)
 | n+1,h=>λx hx=>by
  have ih:=Jl hr hc (n:=n) λm hm=>h m (by omega)
  unfold FI at hx;obtain ⟨k,_,rfl⟩:=List.mem_map.1 hx;rw [Rat.one_mul];refine ((GU (by omega) ih k).sub ((GU (by omega) hr _).mul (GU (s:=g+1) (by omega) (λx hx=>(h n (by omega) x hx).mono (by omega)) k))).mono ?_;rw [Nat.succ_mul];omega
theorem UQ(hr:∀ i,i<t→∀ x∈row i,AR x 20000)(hc:AR c 20000):∀ m i,i<t→t≤i+m+1→∀ x∈NS row p c t i,AR x (tP m)
 | 0,i,h1,h2=>λx hx=>by
  rw [MT h1,show t - 1 - i=0 by omega] at hx;obtain ⟨y,hy,rfl⟩:=List.mem_map.1 hx;have:=Jl (p:=p) (G:=NS row p c t) (i:=i) (g:=0) (hr i h1) hc (n:=0) (λm hm=>by omega) y hy;exact (this.div (GU (by omega) (hr i h1) _)).mono (by simp [tP])
 | m+1,i,h1,h2=>λx hx=>by
  rw [MT h1] at hx;obtain ⟨y,hy,rfl⟩:=List.mem_map.1 hx;have:=Jl (p:=p) (G:=NS row p c t) (i:=i) (g:=tP m) (hr i h1) hc (n:=t - 1 - i) (λk hk=>UQ hr hc m _ (by omega) (by omega)) y hy;refine (this.div (GU (by omega) (hr i h1) _)).mono ?_;have hm:t - 1 - i≤m+1:=by omega
  have:=Nat.mul_le_mul_right (20001+tP m+1) hm;simp only [tP];omega
def Pc(b:Nat→Bool):Nat→Nat
 | 0=>0
 | n+1=>if b n then Pc b n else n+1
theorem SS(b:Nat→Bool):∀ n,Pc b n≤n
 | 0=>Nat.le_refl _
 | n+1=>by
  unfold Pc;split
  ·have:=SS b n
   omega
  ·exact Nat.le_refl _
theorem N_{b:Nat→Bool}:∀{n:Nat},(∀ m,m<n→b m=true→r.getD (p (i+1+m)) 0=0)→FI p G r c i (Pc b n)=FI p G r c i n
 | 0,_=>rfl
 | n+1,h=>by
  unfold Pc;split
  ·rename_i hb
   rw [N_ λm hm=>h m (by omega),FI,h n (by omega) hb,oK]
  ·rfl
theorem uV(l:List Rat)(c:Rat)(j:Nat):(rG l c).getD j 0=l.getD j 0*c:=Kk (f:=λx=>x*c) (by rw [Rat.zero_mul]) l j
theorem Xk(l:List Rat)(c:Rat)(j:Nat):(Ss l c).getD j 0=l.getD j 0 / c:=Kk (f:=λx=>x / c) (by rw [Rat.div_def,Rat.zero_mul]) l j
theorem Zr(j:Nat):∀{n:Nat},(∀ m,m<n→(G (i+1+m)).length=r.length)→(FI p G r c i n).getD j 0=r.getD j 0*c - sg n λm=>r.getD (p (i+1+m)) 0*(G (i+1+m)).getD j 0
 | 0,_=>by
  show (rG r c).getD j 0=_ - 0;rw [uV]
  grind
 | n+1,h=>by
  unfold FI sg;rw [lM (by rw [h n (by omega),F9]),Zr j λm hm=>h m (by omega)]
  grind
theorem Sz{f:Nat→Rat}{i:Nat}:∀{n:Nat},sg (i+1+n) (λk=>if i<k then f k else 0)=sg n λm=>f (i+1+m)
 | 0=>Je λk hk=>if_neg (by omega)
 | n+1=>by
  show sg (i+1+n) _+_=sg n _+_;rw [Sz (n:=n)];show _+(if i<i+1+n then f (i+1+n) else 0)=_;rw [if_pos (by omega)]
def oX(row:Nat→List Rat)(p:Nat→Nat)(c:Rat)(t i:Nat):List Rat:=Ss (NS row p c t i) c
theorem mV{C:Nat}(hl:∀ i,i<t→(row i).length=C)(hc:c≠0)(hp:∀ i,i<t→(row i).getD (p i) 0≠0)(hi:i<t)(j:Nat) :
  (oX row p c t i).getD j 0=aD t (λi j=>(row i).getD j 0) (λi j=>(oX row p c t i).getD j 0) p i j:=by
 have e1:∀ k,(oX row p c t k).getD j 0=(NS row p c t k).getD j 0 / c:=λk=>Xk _ _ _
 unfold aD;dsimp only;obtain ⟨n,hn⟩:∃ n,t=i+1+n:=⟨t - 1 - i,by omega⟩;have e2:(sg t λk=>if i<k then (row i).getD (p k) 0*(oX row p c t k).getD j 0 else 0)=sg n (λm=>(row i).getD (p (i+1+m)) 0*(NS row p c t (i+1+m)).getD j 0) / c:=by
  rw [show (sg t λk=>if i<k then (row i).getD (p k) 0*(oX row p c t k).getD j 0 else 0)=sg (i+1+n) λk=>if i<k then (row i).getD (p k) 0*(oX row p c t k).getD j 0 else 0 from by rw [← hn],Sz,Rat.div_def,Rat.mul_comm,← RO];refine Ek λm _=>?_
  rw [e1,Rat.div_def]
  grind
 rw [e2,e1,MT hi,Xk,Zr j λm hm=>by rw [RD (by omega),hl _ (by omega),hl i hi],show t - 1 - i=n by omega];have:=hp i hi
 grind
end
def sJ(n:Nat)(z:List (CE × Bool)):Fa:=⟨[],[(.v 0,0,(n:Int))],[(.v 0,2000001)],z,[],[],[]⟩
def Abl:List AV:=[aL (.v 0),aQ (.v 0) 2000001]
noncomputable def AjV(n:Nat):Option AV:=bL [.L] (BR AC (Dd (Wn (sJ n []) []) AC 200) 72 Abl [] 16 0)
noncomputable def Aj6(n:Nat):Option AV:=bL [.L] (BR AC (Dd (Wn (sJ n [(.v 0,false)]) [OY (sJ n [(.v 0,false)])]) AC 200) 74 Abl [] 16 0)
def tX(f:Nat)(i:Nat):CE:=.ap f (Ej 0 i) (.v 0)
noncomputable def Afw:Bool:=(List.range 7).all λn=>isL ((List.range n).map (tX 33)) (AjV n) && isL ((List.range n).map (tX 46)) (Aj6 n)
theorem iB:Afw=true:=by kernel_rfl
def Er(l:List Rat)(c:Rat):VL:=⟨λ_=>0,λk=>match k with | 0=>l | _=>[],λk=>match k with | 0=>c | _=>0,λ_=>[]⟩
theorem AbY{l:List Rat}{c:Rat}{z:List (CE × Bool)}(hl:∀ x∈l,AR x 2000001)(hz:∀ x∈z,decide (qD (Er l c) x.1=0)=x.2):Bi (Er l c) (sJ l.length z):=EC (λ_=>rfl) (λx hx=>by
 rw [List.mem_singleton] at hx;subst hx;simp [lD,Er]) (λx hx=>by
 rw [List.mem_singleton] at hx;subst hx;simpa [lD,Er] using hl) hz (λx hx=>by cases hx)
theorem Abp{l:List Rat}{c:Rat}{f:Nat}{g:Rat→Rat→Rat}(hg:∀ a b,qD (Er l c) (.ap f a b)=g (qD (Er l c) a) (qD (Er l c) b)):lD (Er l c) (FY ((List.range l.length).map (tX f)))=l.map λx=>g x c:=by
 rw [Gs,List.map_map];apply List.ext_getElem
 ·simp
 ·intro i h1 h2
  simp only [List.getElem_map,List.getElem_range,Function.comp,tX];rw [hg];have e1:qD (Er l c) (Ej 0 i)=l.getD i 0:=by simp [Ej,qD,lD,zD,Er]
  have e2:qD (Er l c) (.v 0)=c:=by simp only [qD,Er]
  rw [e1,e2,List.getD_eq_getElem?_getD,List.getElem?_eq_getElem (by simpa using h2)];rfl
theorem Aj2{l:List Rat}{c:Rat}(hl:∀ x∈l,AR x 2000001)(hc:AR c 2000001)(hn:l.length≤6){M:Nat→Prop}{w:World}{vl vc:Value}(hm0:∀ b,M b→b<w.heap.size)(hvl:(XP.rats l).p M w [vl])(hvc:(An c).p vc w) :
  Calls Tryz.prog 72 #[vl,vc] w λe w'=>∃ u,e = .returned u∧(XP.rats (rG l c)).p M w' [u]∧Below w.heap.size w w':=by
 have hr:=List.all_eq_true.1 iB l.length (List.mem_range.2 (by omega));rw [Bool.and_eq_true] at hr;refine Calls.mono (J4 (M:=M) (w:=w) (vs:=[vl,vc]) (AbY hl λx hx=>by cases hx) (λ_ h=>by cases h) (Kj hr.1) hm0 ⟨vl,_,rfl,EP (V:=Er l c) (e:=.v 0) hvl,vc,_,rfl,Fk (V:=Er l c) (q:=.v 0) hvc hc,rfl⟩) λe w' ⟨u,e1,e2,e3⟩=>⟨u,e1,?_,e3⟩
 have e2:=C3 (ρ:=BQ) (M:=M) e2;rw [Abp (g:=λx y=>x*y) λa b=>by simp only [qD]] at e2;exact e2
theorem Ajr{l:List Rat}{c:Rat}(hl:∀ x∈l,AR x 2000001)(hc:AR c 2000001)(h0:c≠0)(hn:l.length≤6){M:Nat→Prop}{w:World}{vl vc:Value}(hm0:∀ b,M b→b<w.heap.size)(hvl:(XP.rats l).p M w [vl])(hvc:(An c).p vc w) :
  Calls Tryz.prog 74 #[vl,vc] w λe w'=>∃ u,e = .returned u∧(XP.rats (Ss l c)).p M w' [u]∧Below w.heap.size w w':=by
 have hr:=List.all_eq_true.1 iB l.length (List.mem_range.2 (by omega));rw [Bool.and_eq_true] at hr;have hF:Bi (Er l c) (sJ l.length [(.v 0,false)]):=AbY hl λx hx=>by
  rw [List.mem_singleton] at hx;subst hx;have:qD (Er l c) (.v 0)=c:=by simp only [qD,Er]
  rw [this];exact decide_eq_false h0
 refine Calls.mono (J4 (M:=M) (w:=w) (vs:=[vl,vc]) hF (λe he=>by
  rw [List.mem_singleton] at he;subst he;exact Js hF) (Kj hr.2) hm0 ⟨vl,_,rfl,EP (V:=Er l c) (e:=.v 0) hvl,vc,_,rfl,Fk (V:=Er l c) (q:=.v 0) hvc hc,rfl⟩) λe w' ⟨u,e1,e2,e3⟩=>⟨u,e1,?_,e3⟩
 have e2:=C3 (ρ:=BQ) (M:=M) e2;rw [Abp (g:=λx y=>x / y) λa b=>by simp only [qD]] at e2;exact e2
def lk2:List ((CE × CE) × CE)→CE→CE→Option CE
 | [],_,_=>none
 | x :: r,a,b=>if CE.beq x.1.1 a && CE.beq x.1.2 b then some x.2 else lk2 r a b
theorem P6:∀{l:List ((CE × CE) × CE)}{a b c:CE},lk2 l a b=some c→((a,b),c)∈l
 | [],_,_,_,h=>by cases h
 | x :: r,a,b,c,h=>by
  unfold lk2 at h;split at h
  ·rename_i hb
   rw [Bool.and_eq_true] at hb
   cases h
   rw [← CE.beq_eq hb.1,← CE.beq_eq hb.2];exact List.mem_cons_self ..
  ·exact List.mem_cons_of_mem _ (P6 h)
def tb2(f:Nat)(tab:List ((CE × CE) × CE)):PE:=⟨f,λxs=>match xs with
 | [.ext 1 false (.ap 51 e _),x]=>(match FO x with
  | some p=>(lk2 tab e p.1).map aL
  | none=>none)
 | _=>none⟩
noncomputable def tb3(tab:List (CE × List ((CE × CE) × CE))):PE:=⟨73,λxs=>match xs with
 | [o,.ext 1 false (.ap 51 e _),x,.ext 1 false (.ap 51 b _)]=>if V8 o (.ap 36 (.lit 1) (.lit 1)) then (match FO x,Iz tab b with
  | some p,some tb=>(lk2 tb e p.1).map aL
  | _,_=>none) else none
 | _=>none⟩
section
variable {V : VL}
theorem pM{f:Nat}{tab:List ((CE × CE) × CE)}(pl:Bf f)(h:∀ x∈tab,∀(M:Nat→Prop)(w:World)(vl vc:Value),(∀ b,M b→b<w.heap.size)→(XP.rats (lD V x.1.1)).p M w [vl]→(An (qD V x.1.2)).p vc w→Calls Tryz.prog f #[vl,vc] w λe w'=>∃ u,e = .returned u∧(XP.rats (lD V x.2)).p M w' [u]∧Below w.heap.size w w'):@PE.ok (Ab V) (tb2 f tab):=by
 intro xs r e;refine ⟨pl,λρ M w vs hm0 hv=>?_⟩;unfold tb2 at e;dsimp only at e;split at e
 ·rename_i ee d x
  split at e
  ·rename_i p hp
   obtain ⟨c,hc,rfl⟩:=Option.map_eq_some_iff.1 e;obtain ⟨va,_,rfl,k1,vb,_,rfl,k2,k5⟩:=hv;have k5:_=[]:=k5;subst k5;have q1:=C3 k1;have q2:=(Bn hp (@Bz.rv (Ab V) ρ M w _ _ k2)).1;exact Calls.mono (h _ (P6 hc) M w va vb hm0 q1 q2) λe w' ⟨u,e1,e2,e3⟩=>⟨u,e1,@Bz.rv (Ab V) ρ M w' _ _ (EP e2),e3⟩
  ·cases e
 ·cases e
theorem AfC{tab:List (CE × List ((CE × CE) × CE))}(h:∀ y∈tab,∀ x∈y.2,lD V x.2=N4 1 (lD V x.1.1) (qD V x.1.2) (lD V y.1)∧(∀ z∈lD V x.1.1,AR z 2000001)∧(∀ z∈lD V y.1,AR z 2000001)∧AR (qD V x.1.2) 2000001∧(lD V x.1.1).length≤6∧(lD V y.1).length=(lD V x.1.1).length):@PE.ok (Ab V) (tb3 tab):=by
 intro xs r e;refine ⟨λ_ _=>by simp [tb3,go_sem],λρ M w vs hm0 hv=>?_⟩;unfold tb3 at e;dsimp only at e;split at e
 ·rename_i o ee d x b d2
  split at e
  ·rename_i ho
   split at e
   ·rename_i p tb hp ht
    obtain ⟨c,hc,rfl⟩:=Option.map_eq_some_iff.1 e;obtain ⟨vo,_,rfl,k0,va,_,rfl,k1,vb,_,rfl,k2,vc,_,rfl,k3,k5⟩:=hv;have k5:_=[]:=k5;subst k5;obtain ⟨m,hm⟩:=E7 ho;have q0:=(Bn hm (@Bz.rv (Ab V) ρ M w _ _ k0)).1;rw [show qD V (.ap 36 (.lit 1) (.lit 1))=1 by simp only [qD]; decide] at q0;have q1:=C3 k1;have q2:=(Bn hp (@Bz.rv (Ab V) ρ M w _ _ k2)).1;have q3:=C3 k3;obtain ⟨h1,h2,h3,h4,h5,h6⟩:=h _ (Bu ht) _ (P6 hc);dsimp only at h1 h2 h3 h4 h5 h6;refine Calls.mono (Ag9 h2 h3 ((Dy (w:=1) (s:=1) (by unfold Sm; decide) (by decide):AR ((1:Int):Rat) 1).mono (by decide)) h4 h5 h6 hm0 q0 q1 q2 q3) λe w' ⟨u,e1,e2,e3⟩=>⟨u,e1,@Bz.rv (Ab V) ρ M w' _ _ (EP ?_),e3⟩
    rw [h1];exact e2
   ·cases e
  ·cases e
 ·cases e
end
def Nw(i k:Nat):CE:=.ap 30 (.v i) (.i (1+k) 0)
def V6(i n:Nat):CE:=.v (30+8*i+n)
def nG(i:Nat):CE:=.v (10+i)
def fR(i:Nat):CE:=.v (20+i)
def gV(bits:List Bool)(i k:Nat):Bool:=bits.getD (k*(k - 1) / 2+i) false
def Aam(bits:List Bool)(i n:Nat):Nat:=Pc (λm=>gV bits i (i+1+m)) n
def AfD(t:Nat):CE:=Nw (t - 1) (t - 1)
def Ah9(t:Nat):List ((CE × CE) × CE):=(List.range t).map λi=>((.v i,AfD t),V6 i 0)
def Ag5(t:Nat)(bits:List Bool):List ((CE × CE) × CE):=((List.range t).map λi=>((V6 i (Aam bits i (t - 1 - i)),Nw i i),nG i)) ++ (List.range t).map λi=>((nG i,AfD t),fR i)
def AiN(t:Nat)(bits:List Bool):List (CE × List ((CE × CE) × CE)):=(List.range t).map λk=>(nG k,(List.range k).map λi=>((V6 i (Aam bits i (k - 1 - i)),Nw i k),V6 i (k - i)))
def vE(R t:Nat)(bits:List Bool):Fa:=⟨(List.range t).flatMap λk=>[(0,1+k,0),(1+k,20,-1)],(List.range R).map λk=>(.v k,20,0),(List.range R).map λk=>(.v k,20000),(List.range t).flatMap λk=>(List.range k).map λi=>(Nw i k,gV bits i k),[],[],[]⟩
noncomputable def lI(t:Nat)(bits:List Bool):List PE:=[tb2 72 (Ah9 t),tb2 74 (Ag5 t bits),tb3 (AiN t bits)]
def Tl(R t:Nat):HP:=[(16,MJ ((List.range R).flatMap wM)),(17,ST t)]
def oL(R t:Nat):List AV:=[.sl 16 0 R none,.sl 17 0 t none]
noncomputable def AfL(R t:Nat)(bits:List Bool):=BR AC (Dd (Wn (vE R t bits) (lI t bits)) AC 300) 44 (oL R t) (Tl R t) 32 0
def qH:Nat→List (List Bool)
 | 0=>[[]]
 | n+1=>(qH n).flatMap λl=>[true :: l,false :: l]
theorem Nu:∀{n:Nat}{l:List Bool},l.length=n→l∈qH n
 | 0,l,h=>by
  rw [List.length_eq_zero_iff.1 h];exact List.mem_singleton.2 rfl
 | n+1,[],h=>by cases h
 | n+1,b :: l,h=>by
  unfold qH;refine List.mem_flatMap.2 ⟨l,Nu (by simpa using h),?_⟩
  cases b <;> simp
def Yu(t:Nat):List AV:=(List.range t).map λi=>aI (1+i) 0
def Tx(cs:List AV):Option OB:=some ⟨40,1,cs,false,none⟩
def Pb(t:Nat):List AV:=(List.range t).map λi=>aL (fR i)
def vO(t:Nat)(o:Option (AV × HP)):Bool:=match o with
 | some (.sl 0 0 n (some n2),[(0,some ⟨T,1,cs,false,none⟩)])=>Nat.beq n t && Nat.beq n2 t && Nat.beq T 40 && Gv cs (Pb t)
 | _=>false
theorem ND{t:Nat}{o:Option (AV × HP)}(h:vO t o=true):o=some (.sl 0 0 t (some t),[(0,Tx (Pb t))]):=by
 unfold vO at h;split at h
 ·rename_i n n2 T cs
  simp only [Bool.and_eq_true] at h;obtain ⟨⟨⟨h1,h4⟩,h2⟩,h3⟩:=h;rw [Nat.eq_of_beq_eq_true h1,Nat.eq_of_beq_eq_true h4,Nat.eq_of_beq_eq_true h2,C6 h3];rfl
 ·cases h
noncomputable def AeX(R t:Nat):Bool:=(qH (t*(t - 1) / 2)).all λbits=>vO t (AfL R t bits)
noncomputable def Aju(R:Nat):Bool:=(List.range (min R 3)).all λt=>AeX R (t+1)
noncomputable def QX(R:Nat)(a b:Bool):Bool:=(qH 4).all λl=>vO 4 (AfL R 4 (a :: b :: l))
theorem Aj5:∀ R,R<6→Aju R=true
 | 0,_=>by kernel_rfl
 | 1,_=>by kernel_rfl
 | 2,_=>by kernel_rfl
 | 3,_=>by kernel_rfl
 | 4,_=>by kernel_rfl
 | 5,_=>by kernel_rfl
theorem AfS:QX 4 true true=true:=by kernel_rfl
theorem Af3:QX 4 true false=true:=by kernel_rfl
theorem AcI:QX 4 false true=true:=by kernel_rfl
theorem AeV:QX 4 false false=true:=by kernel_rfl
theorem Age:QX 5 true true=true:=by kernel_rfl
theorem Adz:QX 5 true false=true:=by kernel_rfl
theorem AcV:QX 5 false true=true:=by kernel_rfl
theorem AcK:QX 5 false false=true:=by kernel_rfl
theorem AfX{R t:Nat}{bits:List Bool}(hR:R≤5)(ht:1≤t)(ht4:t≤4)(htR:t≤R)(hb:bits.length=t*(t - 1) / 2):AfL R t bits=some (.sl 0 0 t (some t),[(0,Tx (Pb t))]):=by
 by_cases h4:t=4
 ·subst h4
  match bits,hb with
  | a :: b :: l,hb =>
   have hl:l.length=4:=by
    have:l.length+1+1=6:=hb;omega
   have key:QX R a b=true:=by
    rcases (by omega:R=4 ∨ R=5) with rfl | rfl
    ·cases a <;> cases b
     ·exact AeV
     ·exact AcI
     ·exact Af3
     ·exact AfS
    ·cases a <;> cases b
     ·exact AcK
     ·exact AcV
     ·exact Adz
     ·exact Age
   exact ND (List.all_eq_true.1 key l (Nu hl))
 ·have h:=List.all_eq_true.1 (Aj5 R (by omega)) (t - 1) (List.mem_range.2 (by omega))
  rw [show t - 1+1=t by omega] at h;exact ND (List.all_eq_true.1 h bits (Nu hb))
structure Adk (R:Nat) (row:Nat→List Rat) (p:Nat→Nat) (t C:Nat):Prop where
 len:∀ i,i<R→(row i).length=C
 bd:∀ i,i<R→∀ x∈row i,AR x 20000
 nz:∀ i,i<t→(row i).getD (p i) 0≠0
 lt:∀ i,i<t→p i<C
def Ge(row:Nat→List Rat)(p:Nat→Nat)(t:Nat):Rat:=(row (t - 1)).getD (p (t - 1)) 0
def Ds(row:Nat→List Rat)(fac:Nat→Rat)(p:Nat→Nat)(t C:Nat):VL:=⟨λk=>if k=20 then (C:Int) else if 1≤k∧k≤t then ((p (k - 1):Nat):Int) else 0,
 λk=>if k<10 then row k else if k<20 then NS row p (Ge row p t) t (k - 10) else if k<30 then oX row p (Ge row p t) t (k - 20) else FI p (NS row p (Ge row p t) t) (row ((k - 30) / 8)) (Ge row p t) ((k - 30) / 8) ((k - 30) % 8),
 fac,λ_=>[]⟩
section
variable {R t C : Nat} {row : Nat → List Rat} {fac : Nat → Rat} {p : Nat → Nat} {bits : List Bool}
theorem Oj{k:Nat}(h:k<10):lD (Ds row fac p t C) (.v k)=row k:=by
 simp only [lD,Ds];rw [if_pos h]
theorem tJ{k:Nat}(h:k<10):lD (Ds row fac p t C) (nG k)=NS row p (Ge row p t) t k:=by
 simp only [lD,Ds,nG];rw [if_neg (by omega),if_pos (by omega),show 10+k - 10=k by omega]
theorem Ack{k:Nat}(h:k<10):lD (Ds row fac p t C) (fR k)=oX row p (Ge row p t) t k:=by
 simp only [lD,Ds,fR];rw [if_neg (by omega),if_neg (by omega),if_pos (by omega),show 20+k - 20=k by omega]
theorem sP{i n:Nat}(h:n<8):lD (Ds row fac p t C) (V6 i n)=FI p (NS row p (Ge row p t) t) (row i) (Ge row p t) i n:=by
 simp only [lD,Ds,V6];rw [if_neg (by omega),if_neg (by omega),if_neg (by omega),show (30+8*i+n - 30) / 8=i by omega,show (30+8*i+n - 30) % 8=n by omega]
theorem Ym{k:Nat}(h:k<t)(ht:t≤4):(Ds row fac p t C).z (1+k)=(p k:Int):=by
 simp only [Ds];rw [if_neg (by omega),if_pos (by omega),show 1+k - 1=k by omega]
theorem Xq{i k:Nat}(hi:i<10)(h:k<t)(ht:t≤4):qD (Ds row fac p t C) (Nw i k)=(row i).getD (p k) 0:=by
 have e:qD (Ds row fac p t C) (Nw i k)=(lD (Ds row fac p t C) (.v i)).getD (zD (Ds row fac p t C) (.i (1+k) 0)).toNat 0:=by simp only [Nw,qD]
 rw [e,Oj hi];have:zD (Ds row fac p t C) (.i (1+k) 0)=(p k:Int):=by
  show (Ds row fac p t C).z (1+k)+0=_;rw [Ym h ht,Int.add_zero]
 rw [this];rfl
variable (h : Adk R row p t C) (hR : R ≤ 5) (ht : 1 ≤ t) (ht4 : t ≤ 4) (htR : t ≤ R) (hC : C ≤ 6) (hb : ∀ i k, i < k → k < t → gV bits i k = decide ((row i).getD (p k) 0 = 0))
include h hR ht ht4 htR hC
theorem AiT:Ge row p t≠0:=h.nz _ (by omega)
theorem OM:AR (Ge row p t) 20000:=GU (by omega) (h.bd _ (by omega)) _
theorem jY{i:Nat}(hi:i<t):∀ x∈NS row p (Ge row p t) t i,AR x 1900000:=λx hx =>
 (UQ (λi hi=>h.bd i (by omega)) (OM h hR ht ht4 htR hC) (t - 1 - i) i hi (by omega) x hx).mono (rY _ (by omega))
theorem Ach{i n:Nat}(hi:i<t)(hn:n≤t - 1 - i):∀ x∈FI p (NS row p (Ge row p t) t) (row i) (Ge row p t) i n,AR x 1900000:=λx hx=>by
 by_cases h0:t - 1 - i=0
 ·obtain rfl:n=0:=by omega
  exact (Jl (g:=0) (h.bd i (by omega)) (OM h hR ht ht4 htR hC) (n:=0) (λm hm=>by omega) x hx).mono (by omega)
 ·obtain ⟨m,hm⟩:∃ m,t - 1 - i=m+1:=⟨t - 1 - i - 1,by omega⟩
  refine (Jl (g:=tP m) (h.bd i (by omega)) (OM h hR ht ht4 htR hC) (λk hk=>UQ (λi hi=>h.bd i (by omega)) (OM h hR ht ht4 htR hC) m _ (by omega) (by omega)) x hx).mono ?_;have h1:=Nat.mul_le_mul_right (20001+tP m+1) (show n≤m+1 by omega);have h2:=rY (m+1) (by omega);simp only [tP] at h2;omega
theorem iQ{i:Nat}(hi:i<t):(NS row p (Ge row p t) t i).length=C:=by rw [RD hi,h.len i (by omega)]
theorem Aim(k:Nat) : -1152921504606846976≤(Ds row fac p t C).z k∧(Ds row fac p t C).z k≤1152921504606846976:=by
 simp only [Ds];split
 ·omega
 ·split
  ·have:=h.lt (k - 1) (by omega)
   omega
  ·omega
include hb
theorem AhY:Bi (Ds row fac p t C) (vE R t bits):=by
 have z0:(Ds row fac p t C).z 0=0:=rfl;have zC:(Ds row fac p t C).z 20=(C:Int):=rfl;refine ⟨rfl,Aim h hR ht ht4 htR hC,λx hx=>?_,λx hx=>?_,λx hx=>?_,λx hx=>?_,λx hx=>(by cases hx),λx hx=>(by cases hx),λx hx=>(by cases hx)⟩
 ·obtain ⟨k,hk,hx⟩:=List.mem_flatMap.1 hx
  have hk:=List.mem_range.1 hk;have hz:=Ym (row:=row) (fac:=fac) (p:=p) (C:=C) hk ht4;have hp:=h.lt k hk;simp only [List.mem_cons,List.not_mem_nil,or_false] at hx
  rcases hx with rfl | rfl
  ·dsimp only
   rw [z0,hz];omega
  ·dsimp only
   rw [zC,hz];omega
 ·obtain ⟨k,hk,rfl⟩:=List.mem_map.1 hx
  have hk:=List.mem_range.1 hk;dsimp only;rw [Oj (by omega),h.len k hk,zC];omega
 ·obtain ⟨k,hk,rfl⟩:=List.mem_map.1 hx
  have hk:=List.mem_range.1 hk;intro y hy;dsimp only at hy;rw [Oj (by omega)] at hy;exact h.bd k hk y hy
 ·obtain ⟨k,hk,hx⟩:=List.mem_flatMap.1 hx
  have hk:=List.mem_range.1 hk;obtain ⟨i,hi,rfl⟩:=List.mem_map.1 hx;have hi:=List.mem_range.1 hi;dsimp only;rw [Xq (by omega) hk ht4,hb i k hi hk]
theorem Zt{i n:Nat}(hi:i+n<t):lD (Ds row fac p t C) (V6 i (Aam bits i n))=FI p (NS row p (Ge row p t) t) (row i) (Ge row p t) i n:=by
 have:=SS (λm=>gV bits i (i+1+m)) n;rw [sP (by unfold Aam; omega)];refine N_ λm hm e=>?_
 rw [hb i (i+1+m) (by omega) (by omega)] at e;exact of_decide_eq_true e
theorem AfT:∀ e∈lI t bits,@PE.ok (Ab (Ds row fac p t C)) e:=λe he=>by
 have hcq:qD (Ds row fac p t C) (AfD t)=Ge row p t:=Xq (by omega) (by omega) ht4;have c0:=AiT h hR ht ht4 htR hC;have cb:=OM h hR ht ht4 htR hC;simp only [lI,List.mem_cons,List.not_mem_nil,or_false] at he
 rcases he with rfl | rfl | rfl
 ·refine pM (λ_ _=>by simp [go_sem]) λx hx M w vl vc hm0 h1 h2=>?_
  obtain ⟨i,hi,rfl⟩:=List.mem_map.1 hx;have hi:=List.mem_range.1 hi;dsimp only at h1 h2 ⊢;rw [Oj (by omega)] at h1;rw [hcq] at h2;rw [sP (by omega)];exact Aj2 (λx hx=>(h.bd i (by omega) x hx).mono (by omega)) (cb.mono (by omega)) (by rw [h.len i (by omega)]; exact hC) hm0 h1 h2
 ·refine pM (λ_ _=>by simp [go_sem]) λx hx M w vl vc hm0 h1 h2=>?_
  rcases List.mem_append.1 hx with hx | hx
  ·obtain ⟨i,hi,rfl⟩:=List.mem_map.1 hx
   have hi:=List.mem_range.1 hi;dsimp only at h1 h2 ⊢;rw [Zt h hR ht ht4 htR hC hb (by omega)] at h1;rw [Xq (by omega) hi ht4] at h2;rw [tJ (by omega),MT hi];exact Ajr (λx hx=>(Ach h hR ht ht4 htR hC hi (Nat.le_refl _) x hx).mono (by omega)) ((GU (by omega) (h.bd i (by omega)) _).mono (by omega:20000≤2000001)) (h.nz i hi) (by rw [F9,h.len i (by omega)]; exact hC) hm0 h1 h2
  ·obtain ⟨i,hi,rfl⟩:=List.mem_map.1 hx
   have hi:=List.mem_range.1 hi;dsimp only at h1 h2 ⊢;rw [tJ (by omega)] at h1;rw [hcq] at h2;rw [Ack (by omega)];exact Ajr (λx hx=>(jY h hR ht ht4 htR hC hi x hx).mono (by omega)) (cb.mono (by omega)) c0 (by rw [iQ h hR ht ht4 htR hC hi]; exact hC) hm0 h1 h2
 ·refine AfC λy hy x hx=>?_
  obtain ⟨k,hk,rfl⟩:=List.mem_map.1 hy;have hk:=List.mem_range.1 hk;obtain ⟨i,hi,rfl⟩:=List.mem_map.1 hx;have hi:=List.mem_range.1 hi;dsimp only;obtain ⟨m,hm⟩:∃ m,k=i+1+m:=⟨k - 1 - i,by omega⟩;rw [tJ (by omega),Xq (by omega) hk ht4,show k - 1 - i=m by omega,show k - i=m+1 by omega,Zt h hR ht ht4 htR hC hb (by omega),sP (by omega)];refine ⟨?_,λz hz=>(Ach h hR ht ht4 htR hC (by omega) (by omega) z hz).mono (by omega),λz hz=>(jY h hR ht ht4 htR hC hk z hz).mono (by omega),(GU (by omega) (h.bd i (by omega)) _).mono (by omega:20000≤2000001),by rw [F9,h.len i (by omega)]; exact hC,by rw [F9,h.len i (by omega),iQ h hR ht ht4 htR hC hk]⟩;rw [FI,← hm]
end
theorem AaF(f:Nat→Nat→Bool)(t:Nat)(ht:t≤4):∃ bits:List Bool,bits.length=t*(t - 1) / 2∧∀ i k,i<k→k<t→gV bits i k=f i k:=by
 match t,ht with
 | 0,_=>exact ⟨[],rfl,λi k _ h=>by omega⟩
 | 1,_=>exact ⟨[],rfl,λi k _ h=>by omega⟩
 | 2,_=>exact ⟨[f 0 1],rfl,λi k h1 h2=>by
   obtain rfl:k=1:=by omega
   obtain rfl:i=0:=by omega
   rfl⟩
 | 3,_=>exact ⟨[f 0 1,f 0 2,f 1 2],rfl,λi k h1 h2=>by
   match k,i,h1,h2 with
   | 1,0,_,_=>rfl
   | 2,0,_,_=>rfl
   | 2,1,_,_=>rfl⟩
 | 4,_=>exact ⟨[f 0 1,f 0 2,f 1 2,f 0 3,f 1 3,f 2 3],rfl,λi k h1 h2=>by
   match k,i,h1,h2 with
   | 1,0,_,_=>rfl
   | 2,0,_,_=>rfl
   | 2,1,_,_=>rfl
   | 3,0,_,_=>rfl
   | 3,1,_,_=>rfl
   | 3,2,_,_=>rfl⟩
def asC(R t:Nat)(ins:List (CE × CE))(pcs:List AV)(outs:List CE):BD:=λf xs H _ t0=>match xs with
 | [.sl o 0 n none,.sl o2 0 n2 none]=>(match lk H o,lk H o2 with
  | some ⟨T,5,cs,true,none⟩,some ⟨T2,1,cs2,true,none⟩=>if Nat.ble 1 t && Nat.beq f 44 && Nat.beq n R && Nat.beq n2 t && !Nat.beq o o2 && Nat.beq T 78 && Nat.beq T2 3 && Gv cs (ins.flatMap lnO) && Gv cs2 pcs && H.all (λz=>Nat.beq z.1 o || Nat.beq z.1 o2) then some (.sl t0 0 t (some t),[(t0,Tx (outs.map aL))]) else none
  | _,_=>none)
 | _=>none
section
variable {V V' : VL}
theorem Ace:∀{ins:List (CE × CE)}{k0:Nat},(∀(j:Nat)(p:CE × CE),ins[j]? = some p→qD V p.1=qD V' (.v (k0+j))∧lD V p.2=lD V' (.v (k0+j)))→Ry (Ab V) (Ab V') (ins.flatMap lnO) ((List.range' k0 ins.length).flatMap wM)
 | [],k0,_=>I0
 | p :: l,k0,hp=>by
  obtain ⟨e1,e2⟩:=hp 0 p rfl;rw [List.length_cons,List.range'_succ,List.flatMap_cons,List.flatMap_cons];refine CY (Ad0 (by rw [e1,Nat.add_zero])) (CY (Km (by rw [e2,Nat.add_zero])) ?_);refine Ace λj p hj=>?_
  have:=hp (j+1) p (by simpa using hj);rw [show k0+(j+1)=k0+1+j by omega] at this;exact this
theorem AbI:∀{outs:List CE}{k0:Nat},(∀(j:Nat)(e:CE),outs[j]? = some e→lD V' (fR (k0+j))=lD V e)→Ry (Ab V') (Ab V) ((List.range' k0 outs.length).map λi=>aL (fR i)) (outs.map aL)
 | [],k0,_=>I0
 | e :: l,k0,hp=>by
  have e1:=hp 0 e rfl;rw [List.length_cons,List.range'_succ,List.map_cons,List.map_cons];refine CY (Km (by rw [← e1,Nat.add_zero])) ?_;refine AbI λj e hj=>?_
  have:=hp (j+1) e (by simpa using hj);rw [show k0+(j+1)=k0+1+j by omega] at this;exact this
end
theorem Agg{V:VL}{R t C:Nat}{row:Nat→List Rat}{fac:Nat→Rat}{p:Nat→Nat}{ins:List (CE × CE)}{pcs:List AV}{outs:List CE}(h:Adk R row p t C)(hR:R≤5)(ht:1≤t)(ht4:t≤4)(htR:t≤R)(hC:C≤6)
  (hi:ins.length=R) (hin:∀(j:Nat)(x:CE × CE),ins[j]? = some x→qD V x.1=fac j∧lD V x.2=row j) (ho:outs.length=t) (hout:∀(j:Nat)(e:CE),outs[j]? = some e→lD V e=oX row p (Ge row p t) t j)
  (hp1:Ry (Ab V) (Ab (Ds row fac p t C)) pcs (Yu t)) (hp2:Ry (Ab (Ds row fac p t C)) (Ab V) (Yu t) pcs):@B5 (Ab V) (asC R t ins pcs outs):=by
 intro f xs H n0 t0 r U hr;unfold asC at hr;split at hr
 ·rename_i o n o2 n2
  split at hr
  ·rename_i T cs T2 cs2 eo eo2
   split at hr
   ·rename_i hcond
    cases hr
    simp only [Bool.and_eq_true] at hcond;obtain ⟨⟨⟨⟨⟨⟨⟨⟨⟨c0,c1⟩,c2⟩,c3⟩,c4⟩,c5⟩,c6⟩,c7⟩,c8⟩,c9⟩:=hcond;have c1:=Nat.eq_of_beq_eq_true c1;have c2:=Nat.eq_of_beq_eq_true c2;have c3:=Nat.eq_of_beq_eq_true c3;have c5:=Nat.eq_of_beq_eq_true c5;have c6:=Nat.eq_of_beq_eq_true c6;have c7:=C6 c7;have c8:=C6 c8;subst c1;subst c2;subst c3;subst c5;subst c6;subst c7;subst c8;have hne:o≠o2:=λe=>by
     subst e;simp at c4
    have hkeys:∀ x b,lk H x=some b→x=o ∨ x=o2:=λx b e=>by
     obtain ⟨z,hz,rfl⟩:=sK e;have:=List.all_eq_true.1 c9 z hz;rw [Bool.or_eq_true] at this
     rcases this with h | h
     ·exact .inl (Nat.eq_of_beq_eq_true h)
     ·exact .inr (Nat.eq_of_beq_eq_true h)
    obtain ⟨bits,hbl,hb⟩:=AaF (λi k=>decide ((row i).getD (p k) 0=0)) n2 ht4;generalize hV':Ds row fac p n2 C=V' at hp1 hp2;have hF:Bi V' (vE n n2 bits):=by rw [← hV']; exact AhY h hR ht ht4 htR hC hb
    have hL:∀ e∈lI n2 bits,@PE.ok (Ab V') e:=by rw [← hV']; exact AfT h hR ht ht4 htR hC hb
    have hrun:BR AC (Dd (Wn (vE n n2 bits) (lI n2 bits)) AC 300) 44 (oL n n2) (Tl n n2) 32 0=_:=AfX hR ht ht4 htR hbl;obtain ⟨hpl,hcall⟩:=@DK (Ab V') _ _ Bq _ (@EN (Ab V') _ _ (QE hF hL) Bq 300).1 _ _ (Tl n n2) 32 0 _ _ hrun;refine ⟨hpl,λρ M w vs hs hdom htn hv=>?_⟩;have l1:Ry (Ab V) (Ab V') (ins.flatMap lnO) ((List.range n).flatMap wM):=by
     have:=Ace (V:=V) (V':=V') (ins:=ins) (k0:=0) λj x hj=>by
      have hjl:j<n:=by
       rw [← hi];exact (List.getElem?_eq_some_iff.1 hj).1
      obtain ⟨a1,a2⟩:=hin j x hj;rw [Nat.zero_add,← hV',Oj (by omega),a1,a2];exact ⟨by simp only [qD,Ds],rfl⟩
     rw [hi,← List.range_eq_range'] at this;exact this
    have l2:Ry (Ab V') (Ab V) ((List.range n).flatMap wM) (ins.flatMap lnO):=by
     have:=mT (V:=V) (V':=V') (outs:=ins) (k0:=0) λj x hj=>by
      have hjl:j<n:=by
       rw [← hi];exact (List.getElem?_eq_some_iff.1 hj).1
      obtain ⟨a1,a2⟩:=hin j x hj;rw [Nat.zero_add,← hV',Oj (by omega),a1,a2];exact ⟨by simp only [qD,Ds],rfl⟩
     rw [hi,← List.range_eq_range'] at this;exact this
    have l3:Ry (Ab V') (Ab V) (Pb n2) (outs.map aL):=by
     have:=AbI (V:=V) (V':=V') (outs:=outs) (k0:=0) λj e hj=>by
      have hjl:j<n2:=by
       rw [← ho];exact (List.getElem?_eq_some_iff.1 hj).1
      rw [Nat.zero_add,← hV',Ack (by omega),hout j e hj]
     rw [ho,← List.range_eq_range'] at this;exact this
    let σ:Nat→Option Nat:=λk=>if k=16 then some o else if k=17 then some o2 else none
    have hcan:MK (Ab V) (Ab V') H (Tl n n2) σ:=by
     refine ⟨λx y o h1 h2=>?_,λx o h1=>?_,λx b' e=>?_,λx b e=>?_⟩
     ·dsimp only [σ] at h1 h2
      split at h1 <;> split at h2 <;> simp_all
     ·dsimp only [σ] at h1
      split at h1
      ·omega
      ·split at h1
       ·omega
       ·cases h1
     ·unfold Tl lk at e
      split at e
      ·rename_i hx
       have hx:=Nat.eq_of_beq_eq_true hx;subst hx
       cases e
       exact ⟨o,_,_,rfl,eo,rfl,rfl,l1⟩
      ·unfold lk at e
       split at e
       ·rename_i hx
        have hx:=Nat.eq_of_beq_eq_true hx;subst hx
        cases e
        exact ⟨o2,_,_,rfl,eo2,rfl,rfl,hp1⟩
       ·cases e
     ·rcases hkeys x b e with rfl | rfl
      ·exact ⟨16,_,rfl,rfl⟩
      ·exact ⟨17,_,rfl,rfl⟩
    have hs':=hcan.st0 hs;obtain ⟨va,_,rfl,h1,vb,_,rfl,h2,h5⟩:=hv;have h5:_=[]:=h5;subst h5;have hv':@CH (Ab V') (DF σ ρ) M w (oL n n2) [va,vb]:=by
     refine ⟨va,_,rfl,?_,vb,_,rfl,?_,rfl⟩
     ·have h1:@Rp (Ab V) ρ M w (.sl o 0 n none) [va]:=h1
      show @Rp (Ab V') (DF σ ρ) M w (.sl 16 0 n none) [va];unfold Rp at h1 ⊢;exact h1
     ·have h2:@Rp (Ab V) ρ M w (.sl o2 0 n2 none) [vb]:=h2
      show @Rp (Ab V') (DF σ ρ) M w (.sl 17 0 n2 none) [vb];unfold Rp at h2 ⊢;exact h2
    have hd':∀ x p,DF σ ρ x=some p→x<32:=λx p e=>by
     unfold DF at e;obtain ⟨o,ho,_⟩:=Option.bind_eq_some_iff.1 e;dsimp only [σ] at ho;split at ho
     ·omega
     ·split at ho
      ·omega
      ·cases ho
    have hno:∀ x b,lk H x=some b→t0≠x:=λx b e q=>by
     obtain ⟨⟨hobj,_⟩,_,hnew,_⟩:=id hs;obtain ⟨g,c',arr,cs',q1,_⟩:=hobj x b e;rw [hnew x (by omega) (by omega)] at q1
     cases q1
    refine Calls.mono (hcall (DF σ ρ) M w _ hs' hd' (by decide) hv') λe w' ⟨v,e1,hpost⟩=>⟨v,e1,hcan.back hs hpost (λρ' ρ2 M' hτ hr=>?_) (λx b e=>?_) (λx b' e hy=>?_)⟩
    ·have hr:@Rp (Ab V') ρ' M' w' (.sl 0 0 n2 (some n2)) [v]:=hr
     show @Rp (Ab V) ρ2 M' w' (.sl t0 0 n2 (some n2)) [v];unfold Rp at hr ⊢;obtain ⟨g,c',k,q1,q2⟩:=hr;exact ⟨g,c',k,hτ 0 t0 _ rfl q1,q2⟩
    ·simp only [CR] at e
     split at e
     ·rename_i hx
      cases e
      have hx:=Nat.eq_of_beq_eq_true hx;subst hx;exact ⟨0,_,_,rfl,rfl,rfl,rfl,l3⟩
     ·rcases hkeys x b e with rfl | rfl
      ·rw [eo] at e
       cases e
       exact ⟨16,_,_,rfl,rfl,rfl,rfl,l2⟩
      ·rw [eo2] at e
       cases e
       exact ⟨17,_,_,rfl,rfl,rfl,rfl,hp2⟩
    ·obtain ⟨y,hy,rfl⟩:=hy
     have:y=(0,Tx (Pb n2)):=by
      have hy:y∈[(0,Tx (Pb n2))]:=hy;simpa using hy
     subst this
     cases e
   ·cases hr
  ·cases hr
 ·cases hr
def JN(t:Nat):List CE:=(List.range t).map λi=>.v (60+i)
def Aki(R C t:Nat):BD:=orC (loC (kH R C)) (orC (deC R C (Oc R C) (GO R) (G0 t)) (asC R t (GO R) (G0 t) (JN t)))
noncomputable def AjP(R C t:Nat):=BR AC (Dd (T8 (AhV R C) [] (Aki R C t)) AC 200) 12 [aM (gH 0 R)] [] 16 0
def kdX(U:HP):AV→Option CE
 | .val (.slice none 0 0)=>some (.lit 0)
 | a=>match gI U .X a with
  | some (.ext 1 false (.ap 65 e (.lit 0)))=>some e
  | _=>none
def kdN(U:HP):AV→Option CE
 | .val (.slice none 0 0)=>some (.lit 0)
 | a=>match gI U .M a with
  | some (.ext 1 false (.ap 64 e (.lit 0)))=>some e
  | _=>none
def ixC:List CE→CE
 | []=>.lit 0
 | e :: l=>.ap 82 e (ixC l)
def AhK(t:Nat):CE:=ixC ((List.range t).map λi=>.i (1+i) 0)
noncomputable def Af9(R C t:Nat):Bool:=match AjP R C t with
 | some (.tup [a,b],U)=>(match kdN U a,kdX U b with
  | some m,some x=>CE.beq m (KE (JN t)) && CE.beq x (AhK t)
  | _,_=>false)
 | _=>false
noncomputable def WB(R C:Nat):Bool:=(List.range (min (min R C) 4+1)).all λt=>Af9 R C t
noncomputable def Th(R c n:Nat):Bool:=(List.range n).all λC=>WB R (c+C)
theorem AjG:Th 1 0 6=true:=by kernel_rfl
theorem AjX:Th 2 0 6=true:=by kernel_rfl
theorem Aj8:Th 3 0 6=true:=by kernel_rfl
theorem AjL:Th 4 0 4=true:=by kernel_rfl
theorem AiR:Th 4 4 2=true:=by kernel_rfl
theorem AjM:Th 5 0 4=true:=by kernel_rfl
theorem Ahz:Th 5 4 2=true:=by kernel_rfl
def zM(m:List (List Rat))(C i:Nat):List Rat:=(Cc (Bp (Bw m) C).2 i).2
def fcN(m:List (List Rat))(C i:Nat):Rat:=(Cc (Bp (Bw m) C).2 i).1
def U7(m:List (List Rat))(C i:Nat):Nat:=(Bp (Bw m) C).1.getD i 0
def IZ(m:List (List Rat))(C i:Nat):List Rat:=oX (zM m C) (U7 m C) (Ge (zM m C) (U7 m C) (A9 m C)) (A9 m C) i
def BO(m:List (List Rat))(C:Nat):List (List Rat):=(List.range (A9 m C)).map (IZ m C)
def Dl(m:List (List Rat))(C:Nat):VL:=⟨(Ji m C).z,λk=>if 60≤k then (BO m C).getD (k - 60) [] else (Ji m C).l k,(Ji m C).q,λ_=>[]⟩
section
variable {m : List (List Rat)} {C : Nat}
theorem Nk(h:CL C m)(hC:C≤6):Ni m.length C 300 300 C (Bp (Bw m) C):=by
 have hlen:(Bw m).length=m.length:=by simp [Bw]
 have:=Jm (L0:=Bw m) (C:=C) (s:=300) (B:=300) (by decide) (by decide) (λk hk=>h.ln (by rw [← hlen]; exact hk)) C hC;rw [hlen] at this;exact this
theorem Y9(h:CL C m)(hC:C≤6):xP (fM m) m.length (A9 m C) C (λi j=>(zM m C i).getD j 0) (U7 m C):=by
 have hlen:(Bw m).length=m.length:=by simp [Bw]
 obtain ⟨s1,s2⟩:=mY h;rw [← hlen] at s1 s2;have:=TO (L:=Bw m) (by decide) (by decide) (λk hk=>h.ln (by omega)) s1 s2 C hC;rw [hlen] at this;exact this
theorem SO(h:CL C m)(hC:C≤6):Adk m.length (zM m C) (U7 m C) (A9 m C) C:=by
 have ok:=Nk h hC;have he:=Y9 h hC;exact ⟨λi hi=>(ok.ln i hi).len,λi hi x hx=>((ok.ln i hi).ints.rsm (Sx (by decide) C) hx).mono (Pp (by decide) C hC),λi hi=>he.piv i hi,λi hi=>he.lt i hi⟩
theorem Ed(h:CL C m)(hC:C≤6):A9 m C≤m.length∧A9 m C≤C:=⟨(Nk h hC).tR,(Nk h hC).tn⟩
theorem Cz{i:Nat}(hi:i<A9 m C):(BO m C).getD i []=IZ m C i:=by
 unfold BO;rw [List.getD_eq_getElem?_getD,List.getElem?_map,List.getElem?_range hi];rfl
theorem F8(h:CL C m)(hC:C≤6){i:Nat}(hi:i<A9 m C):(IZ m C i).length=C:=by
 have hr:=(Ed h hC).1;unfold IZ oX;rw [show ∀(l:List Rat) c,(Ss l c).length=l.length from λl c=>by simp [Ss],RD hi,(SO h hC).len i (by omega)]
theorem Vt.congr{t:Nat}{F F':Nat→Nat→Rat}{p:Nat→Nat}(h:Vt t F p)(e:∀ i,i<t→∀ j,F' i j=F i j):Vt t F' p:=
 ⟨λi hi=>by rw [e i hi]; exact h.one i hi,λi k hi hk hik=>by rw [e i hi]; exact h.zero i k hi hk hik,λi j hi hj=>by rw [e i hi]; exact h.low i j hi hj,h.inc⟩
theorem Sp.congrR{r t:Nat}{M F F':Nat→Nat→Rat}(h:Sp r M t F)(e:∀ i,i<t→∀ j,F' i j=F i j):Sp r M t F':=λi hi=>by
 obtain ⟨k,hk⟩:=h i hi;exact ⟨k,λj=>(hk j).trans (Ek λl hl=>by rw [e l hl])⟩
theorem EZ(h:CL C m)(hC:C≤6):Vt (A9 m C) (fM (BO m C)) (U7 m C)∧Sp m.length (fM m) (A9 m C) (fM (BO m C))∧Sp (A9 m C) (fM (BO m C)) m.length (fM m)∧∀ i,i<A9 m C→U7 m C i<C:=by
 have he:=Y9 h hC;have ok:=Nk h hC;have ha:=SO h hC;have hr:=(Ed h hC).1;have e1:∀ i,i<A9 m C→∀ j,fM (BO m C) i j=(IZ m C i).getD j 0:=λi hi j=>by
  unfold fM;rw [Cz hi]
 have hF:∀ i,i<A9 m C→∀ j,(λi j=>(IZ m C i).getD j 0) i j=aD (A9 m C) (λi j=>(zM m C i).getD j 0) (λi j=>(IZ m C i).getD j 0) (U7 m C) i j:=λi hi j =>
  mV (C:=C) (λi hi=>ha.len i (by omega)) (ha.nz _ (by omega)) ha.nz hi j
 obtain ⟨r1,r2⟩:=AeU he hF;have z:∀ k,A9 m C≤k→k<m.length→∀ j,(zM m C k).getD j 0=0:=λk h1 h2 j=>by
  by_cases hj:j<C
  ·exact he.zero k j h1 h2 hj
  ·exact Dx (by rw [ha.len k h2]; omega)
 refine ⟨r1.congr e1,((Sp.cut he.to he.tr z).trans r2).congrR e1,λi hi=>?_,he.lt⟩;refine In.congr ((nS hF i hi).trans λk hk=>he.fro k (by omega)) (e1 i hi)
theorem ZK{k:Nat}(hk:k<60):(Dl m C).l k=(Ji m C).l k:=by
 show (if 60≤k then _ else _)=_;rw [if_neg (by omega)]
theorem Ad5{k:Nat}(hk:k<10)(hl:(m.getD k []).length=C):lD (Dl m C) (Ad2 k C)=m.getD k []:=by
 have e:∀ i,qD (Dl m C) (Ej k i)=(m.getD k []).getD i 0:=λi=>by
  simp only [Ej,qD,lD];rw [ZK (by omega),uJ hk];simp only [zD,Dl,Ji]
  congr 1
  simp
 unfold Ad2;rw [Gs,List.map_map];generalize m.getD k []=r at e hl;apply List.ext_getElem
 ·simp [hl]
 ·intro i h1 h2
  simp only [List.getElem_map,List.getElem_range,Function.comp];rw [e,List.getD_eq_getElem?_getD,List.getElem?_eq_getElem h2];rfl
theorem Akg(hR:m.length≤9):mD (Dl m C) (gH 0 m.length)=m:=by
 rw [Yx];apply List.ext_getElem
 ·simp
 ·intro i h1 h2
  simp only [List.getElem_map,List.getElem_range',Nat.zero_add,Nat.one_mul];rw [ZK (by omega),uJ (by omega),List.getD_eq_getElem?_getD,List.getElem?_eq_getElem h2];rfl
theorem Acl(V:VL):∀ l:List CE,iL V (ixC l)=l.map (zD V)
 | []=>by simp [ixC,iL]
 | e :: l=>by
  unfold ixC;rw [List.map_cons,← Acl V l];simp only [iL]
theorem Z6{R C t:Nat}(hR:R≤5)(hR1:1≤R)(hC:C≤5)(ht:t≤R)(htC:t≤C)(ht4:t≤4):Af9 R C t=true:=by
 have pick:∀{R c n:Nat},Th R c n=true→c≤C→C<c+n→WB R C=true:=fun {R c n} h h1 h2=>by
  have:=List.all_eq_true.1 h (C - c) (List.mem_range.2 (by omega));rwa [show c+(C - c)=C by omega] at this
 have hall:WB R C=true:=by
  match R,hR,hR1 with
  | 1,_,_=>exact pick AjG (by omega) (by omega)
  | 2,_,_=>exact pick AjX (by omega) (by omega)
  | 3,_,_=>exact pick Aj8 (by omega) (by omega)
  | 4,_,_ =>
   by_cases h:C<4
   ·exact pick AjL (by omega) (by omega)
   ·exact pick AiR (by omega) (by omega)
  | 5,_,_ =>
   by_cases h:C<4
   ·exact pick AjM (by omega) (by omega)
   ·exact pick Ahz (by omega) (by omega)
 exact List.all_eq_true.1 hall t (List.mem_range.2 (by omega))
theorem Ab2{V:VL}{F:Fa}{ρ:Bg}{M M':Nat→Prop}{w w0:World}(hF:Bi V F)(hm0:∀ b,M b→b<w0.heap.size){U:HP}(hR:@RH (Ab V) ρ M' (Di BQ w0 (lk [])) w (CR (lk []) U))(hsup:∀ b,M b→M' b){a:AV}{e:CE}{v:Value}(h:kdX U a=some e)(hv:@Bz (Ab V) ρ M' w a v):(XP.ixs (iL V e)).p M w [v]:=by
 unfold kdX at h;split at h
 ·cases h
  have hv:v = .slice none 0 0:=hv;subst hv;exact ⟨none,0,rfl,Nat.le_refl _,λh=>absurd rfl h⟩
 ·split at h
  ·rename_i e' hk
   cases h
   have:=Dp (M:=M) hF hm0 hsup hR hk hv;have this:@Rp (Ab V) BQ M w _ [v]:=this;unfold Rp at this;exact this.2
  ·cases h
theorem Aa6{V:VL}{F:Fa}{ρ:Bg}{M M':Nat→Prop}{w w0:World}(hF:Bi V F)(hm0:∀ b,M b→b<w0.heap.size){U:HP}(hR:@RH (Ab V) ρ M' (Di BQ w0 (lk [])) w (CR (lk []) U))(hsup:∀ b,M b→M' b){a:AV}{e:CE}{v:Value}(h:kdN U a=some e)(hv:@Bz (Ab V) ρ M' w a v):(XP.mat (mD V e)).p M w [v]:=by
 unfold kdN at h;split at h
 ·cases h
  have hv:v = .slice none 0 0:=hv;subst hv;exact ⟨none,0,rfl,Nat.le_refl _,λh=>absurd rfl h⟩
 ·split at h
  ·rename_i e' hk
   cases h
   have:=Dp (M:=M) hF hm0 hsup hR hk hv;have this:@Rp (Ab V) BQ M w _ [v]:=this;unfold Rp at this;exact this.2
  ·cases h
theorem Zk{V:VL}{F:Fa}{M:Nat→Prop}{w:World}{L:List PE}{C:BD}{f m:Nat}{xs:List AV}{a:AV}{U:HP}(hF:Bi V F)(hL:∀ e∈L,@PE.ok (Ab V) e)(hC:@B5 (Ab V) C)(hr:BR AC (Dd (T8 F L C) AC m) f xs [] 16 0=some (a,U)){vs:List Value}(hm0:∀ b,M b→b<w.heap.size)(hv:@CH (Ab V) BQ M w xs vs) :
  Calls Tryz.prog f vs.toArray w λe w'=>∃ u ρ' M',e = .returned u ∧ @RV (Ab V) ρ' M' w' a u ∧ @RH (Ab V) ρ' M' (Di BQ w (lk [])) w' (CR (lk []) U)∧(∀ b,M b→M' b)∧Below w.heap.size w w':=by
 letI:=Ab V
 obtain ⟨_,hcall⟩:=DK Bq (EN (T:=T8 F L C) (@EO.mk (Ab V) _ (El hF hL) (Fh hF) hC) Bq m).1 f xs [] 16 0 _ _ hr;have hs:CK BQ M (Di BQ w (lk [])) w 0 (lk []):=⟨⟨λo b e=>(by cases e),λo o' b b' g c c' e=>(by cases e)⟩,hm0,λ_ _ _=>rfl,λb hb=>.inl hb⟩;refine Calls.mono (hcall BQ M w vs hs (λo p e=>(by cases e)) (by decide) hv) λe w' ⟨v,e1,ρ',M',ht,hv',hR,_,hsup,_,_,hfr,_⟩=>⟨v,ρ',M',e1,hv',hR,hsup,⟨hfr.os,hfr.tape,hfr.output,hfr.size,λb hb=>hfr.keep b hb ?_⟩⟩
 rintro (h1 | ⟨_,_,_,h1,_⟩)
 ·omega
 ·cases h1
theorem AhB(h:CL C m)(hR:m.length≤5)(hR1:1≤m.length)(hC:C≤5)(ht4:A9 m C≤4){M:Nat→Prop}{w:World}{v:Value}(hm0:∀ b,M b→b<w.heap.size)(hv:(XP.mat m).p M w [v]) :
  Calls Tryz.prog 12 #[v] w λe w'=>∃ u1 u2,e = .returned (.tuple #[u1,u2])∧(XP.mat (BO m C)).p M w' [u1]∧(XP.ixs ((List.range (A9 m C)).map λi=>(U7 m C i:Int))).p M w' [u2]∧Below w.heap.size w w':=by
 have hlen:(Bw m).length=m.length:=by simp [Bw]
 have hok:=Nk h (by omega:C≤6);obtain ⟨htR,htC⟩:=Ed h (by omega:C≤6);have hzr:(Dl m C).z=(Ji m C).z:=rfl;have hF:Bi (Dl m C) (AhV m.length C):=by
  refine ⟨rfl,λk=>?_,λx hx=>(by cases hx),λx hx=>?_,λx hx=>?_,λx hx=>(by cases hx),λx hx=>(by cases hx),λx hx=>(by cases hx),λx hx=>(by cases hx)⟩
  ·rw [hzr]
   simp only [Ji];split
   ·have:(Bp (Bw m) C).1.getD (k - 1) 0≤6:=by
     by_cases hk:k - 1<(Bp (Bw m) C).1.length
     ·rw [List.getD_eq_getElem?_getD,List.getElem?_eq_getElem hk]
      have:=hok.lt _ (List.getElem_mem hk);simp only [Option.getD_some];omega
     ·rw [List.getD_eq_getElem?_getD,List.getElem?_eq_none (by omega)]
      simp
    omega
   ·omega
  ·obtain ⟨k,hk,rfl⟩:=List.mem_map.1 hx
   have hk:=List.mem_range.1 hk;show ((lD _ (.v k)).length:Int)=(Dl m C).z 0+C;rw [show lD (Dl m C) (.v k)=m.getD k [] by simp only [lD]; rw [ZK (by omega)]; exact uJ (by omega),(h.row hk).1];simp [Dl,Ji]
  ·obtain ⟨k,hk,rfl⟩:=List.mem_map.1 hx
   have hk:=List.mem_range.1 hk;intro y hy;have hy:y∈lD (Dl m C) (.v k):=hy;rw [show lD (Dl m C) (.v k)=m.getD k [] by simp only [lD]; rw [ZK (by omega)]; exact uJ (by omega)] at hy;obtain ⟨_,D,s,h2,h3,_⟩:=h.row hk;exact (h2.rsm hy).mono h3
 have hrun:=Z6 hR hR1 hC htR htC ht4;have hq1:∀ k,k<10→qD (Dl m C) (.v k)=Eu (m.getD k []):=λk hk=>by
  simp only [qD,Dl,Ji];rw [if_pos hk]
 have hl1:∀ k,k<10→lD (Dl m C) (.v (10+k))=Cj (m.getD k []):=λk hk=>by
  simp only [lD];rw [ZK (by omega)];simp only [Ji];rw [if_neg (by omega),if_pos (by omega),show 10+k - 10=k by omega]
 have hq2:∀ k,k<10→qD (Dl m C) (.v (20+k))=(Cc (Bp (Bw m) C).2 k).1:=λk hk=>by
  simp only [qD,Dl,Ji];rw [if_neg (by omega),if_neg (by omega),show 20+k - 20=k by omega]
 have hl2:∀ k,k<10→lD (Dl m C) (.v (20+k))=(Cc (Bp (Bw m) C).2 k).2:=λk hk=>by
  simp only [lD];rw [ZK (by omega)];simp only [Ji];rw [if_neg (by omega),if_neg (by omega),show 20+k - 20=k by omega]
 have hzp:∀ i,i<6→(Dl m C).z (1+i)=(U7 m C i:Int):=λi hi=>by
  rw [hzr];simp only [Ji];rw [if_pos (by omega),show 1+i - 1=i by omega];rfl
 have hl3:∀ i,lD (Dl m C) (.v (60+i))=(BO m C).getD i []:=λi=>by
  simp only [lD,Dl];rw [if_pos (by omega),show 60+i - 60=i by omega]
 have hC1:@B5 (Ab (Dl m C)) (loC (kH m.length C)):=Afu hF λx hx=>by
  obtain ⟨k,hk,rfl⟩:=List.mem_map.1 hx;have hk:=List.mem_range.1 hk;obtain ⟨r1,D,s,r2,r3,r4⟩:=h.row hk;dsimp only;rw [Ad5 (by omega) r1];exact ⟨⟨D,s,r2,by omega,r4⟩,by omega,hq1 k (by omega),hl1 k (by omega)⟩
 have hC2:@B5 (Ab (Dl m C)) (deC m.length C (Oc m.length C) (GO m.length) (G0 (A9 m C))):=by
  have:=Ade (V:=Dl m C) (L0:=Bw m) (C:=C) (s:=300) (B:=300) (ins:=Oc m.length C) (outs:=GO m.length) (pcs:=G0 (A9 m C)) rfl (by omega) (by omega) (by omega) (by decide) (by decide) (by decide) (λk hk=>h.ln (by rw [← hlen]; exact hk)) (by simp [Oc,hlen]) (λj p hj=>?_) (by simp [GO,hlen]) (λj p hj=>?_) (by simp [G0,A9]) ?_
  ·rw [hlen] at this
   exact this
  ·have hjl:j<m.length:=by
    have:=(List.getElem?_eq_some_iff.1 hj).1;simpa [Oc] using this
   unfold Oc at hj;rw [List.getElem?_map,List.getElem?_range hjl] at hj
   cases hj
   dsimp only;rw [Hk hjl]
   by_cases c0:C=0
   ·have e0:m.getD 0 []=m.getD j []:=by
     have h0:=(h.row (k:=0) (by omega)).1;have h1:=(h.row hjl).1;rw [List.length_eq_zero_iff.1 (h0.trans c0),List.length_eq_zero_iff.1 (h1.trans c0)]
    have:bH C j=0:=by
     unfold bH;rw [if_pos c0]
    rw [this,hq1 0 (by omega),hl1 0 (by omega),e0];exact ⟨rfl,rfl⟩
   ·have:bH C j=j:=by
     unfold bH;rw [if_neg c0]
    rw [this,hq1 j (by omega),hl1 j (by omega)];exact ⟨rfl,rfl⟩
  ·have hjl:j<m.length:=by
    have:=(List.getElem?_eq_some_iff.1 hj).1;simpa [GO] using this
   unfold GO at hj;rw [List.getElem?_map,List.getElem?_range hjl] at hj
   cases hj
   dsimp only;exact ⟨hq2 j (by omega),hl2 j (by omega)⟩
  ·have hpl:(G0 (A9 m C)).length=A9 m C:=by simp [G0]
   rw [hpl];unfold G0;refine Q4 λi hi=>SP ?_
   have hi:=List.mem_range.1 hi;unfold iD;rw [XZ (by omega),hzp i (by omega)];rfl
 have hC3:@B5 (Ab (Dl m C)) (asC m.length (A9 m C) (GO m.length) (G0 (A9 m C)) (JN (A9 m C))):=by
  by_cases h0:A9 m C=0
  ·intro f xs H n0 t0 r U hr
   rw [h0] at hr;unfold asC at hr;split at hr
   ·split at hr
    ·split at hr
     ·rename_i hcond
      simp at hcond
     ·cases hr
    ·cases hr
   ·cases hr
  ·have ha:=SO h (by omega:C≤6)
   refine Agg (V:=Dl m C) (fac:=fcN m C) ha hR (by omega) ht4 htR (by omega) (by simp [GO]) (λj x hj=>?_) (by simp [JN]) (λj e hj=>?_) ?_ ?_
   ·have hjl:j<m.length:=by
     have:=(List.getElem?_eq_some_iff.1 hj).1;simpa [GO] using this
    unfold GO at hj;rw [List.getElem?_map,List.getElem?_range hjl] at hj
    cases hj
    dsimp only;exact ⟨hq2 j (by omega),hl2 j (by omega)⟩
   ·have hjl:j<A9 m C:=by
     have:=(List.getElem?_eq_some_iff.1 hj).1;simpa [JN] using this
    unfold JN at hj;rw [List.getElem?_map,List.getElem?_range hjl] at hj
    cases hj
    dsimp only;rw [hl3,Cz hjl];rfl
   ·unfold G0 Yu
    refine Q4 λi hi=>SP ?_
    have hi:=List.mem_range.1 hi;unfold iD;rw [Ym hi ht4,hzp i (by omega)]
   ·unfold G0 Yu
    refine Q4 λi hi=>SP ?_
    have hi:=List.mem_range.1 hi;unfold iD;rw [Ym hi ht4,hzp i (by omega)]
 unfold Af9 at hrun;split at hrun
 ·rename_i a b U hw
  split at hrun
  ·rename_i mm xx hk1 hk2
   rw [Bool.and_eq_true] at hrun;refine Calls.mono (Zk (M:=M) (w:=w) (vs:=[v]) hF (λ_ h=>by cases h) (@U9 (Ab (Dl m C)) _ _ hC1 (@U9 (Ab (Dl m C)) _ _ hC2 hC3)) hw hm0 ⟨v,_,rfl,JR (by rw [Akg (by omega)]; exact hv),rfl⟩) λe w' ⟨u,ρ',M',e1,e2,e3,e4,e5⟩=>?_
   obtain ⟨vs,rfl,va,r1,q1,k1,vb,r2,q2,k2,k5⟩:=e2;have k5:_=[]:=k5;subst k5;subst q2;have q1:vs = #[va,vb]:=Array.toList_inj.1 q1;subst q1;have k1:=Aa6 (M:=M) hF hm0 e3 e4 hk1 k1;have k2:=Ab2 (M:=M) hF hm0 e3 e4 hk2 k2;refine ⟨va,vb,e1,?_,?_,e5⟩
   ·have:mD (Dl m C) mm=BO m C:=by
     rw [CE.beq_eq hrun.1,QH];unfold JN;rw [List.map_map];apply List.ext_getElem
     ·simp [BO]
     ·intro i i1 i2
      simp only [List.getElem_map,List.getElem_range,Function.comp];rw [hl3,List.getD_eq_getElem?_getD,List.getElem?_eq_getElem i2];rfl
    rw [← this];exact k1
   ·have:iL (Dl m C) xx=(List.range (A9 m C)).map λi=>(U7 m C i:Int):=by
     rw [CE.beq_eq hrun.2];unfold AhK;rw [Acl,List.map_map];refine List.map_congr_left λi hi=>?_
     have hi:=List.mem_range.1 hi;show (Dl m C).z (1+i)+0=_;rw [hzp i (by omega),Int.add_zero]
    rw [← this];exact k2
  ·cases hrun
 ·cases hrun
end
def q1C:CE:=.ap 36 (.lit 1) (.lit 1)
def q0C:CE:=.ap 36 (.lit 0) (.lit 1)
def P3(C:Nat):Nat→Nat→List (List Nat)
 | 0,_=>[[]]
 | n+1,c=>[] :: ((List.range (C - c)).flatMap λd=>(P3 C n (c+d+1)).map ((c+d) :: ·))
theorem dX{α:Type}{l:List α}{p:α→Bool}{n:Nat}(h1:(l.take n).all p=true)(h2:(l.drop n).all p=true):l.all p=true:=by
 rw [← List.take_append_drop n l,List.all_append,h1,h2];rfl
theorem SU{C:Nat}:∀{n c:Nat}{ps:List Nat},ps.length≤n→(∀ x∈ps,c≤x∧x<C)→ps.Pairwise (· < ·)→ps∈P3 C n c
 | 0,c,ps,h,_,_=>by
  rw [List.length_eq_zero_iff.1 (Nat.le_zero.1 h)];exact List.mem_singleton.2 rfl
 | n+1,c,[],_,_,_=>List.mem_cons_self ..
 | n+1,c,x :: ps,h,hx,hp=>by
  unfold P3;obtain ⟨h1,h2⟩:=hx x (List.mem_cons_self ..);have hp:=List.pairwise_cons.1 hp;refine List.mem_cons_of_mem _ (List.mem_flatMap.2 ⟨x - c,List.mem_range.2 (by omega),List.mem_map.2 ⟨ps,?_,by rw [show c+(x - c)=x by omega]⟩⟩);rw [show c+(x - c)=x by omega];exact SU (by simpa using h) (λy hy=>⟨hp.1 y hy,(hx y (List.mem_cons_of_mem _ hy)).2⟩) hp.2
noncomputable def Ai0:=BR AC (Dd (T8 ⟨[],[],[],[],[],[],[]⟩ [] N6) AC 200) 12 [aM (.lit 0)] [] 16 0
noncomputable def Acw:Bool:=match Ai0 with
 | some (.tup [a,b],U)=>(match kdN U a,kdX U b with
  | some m,some x=>CE.beq m (.lit 0) && CE.beq x (.lit 0)
  | _,_=>false)
 | _=>false
theorem uH:Acw=true:=by kernel_rfl
theorem uM{V:VL}(hz:∀ k,V.z k=0):Bi V ⟨[],[],[],[],[],[],[]⟩:=EC hz (λx hx=>by cases hx) (λx hx=>by cases hx) (λx hx=>by cases hx) (λx hx=>by cases hx)
theorem AfK{M:Nat→Prop}{w:World}{v:Value}(hm0:∀ b,M b→b<w.heap.size)(hv:(XP.mat []).p M w [v]) :
  Calls Tryz.prog 12 #[v] w λe w'=>∃ u1 u2,e = .returned (.tuple #[u1,u2])∧(XP.mat []).p M w' [u1]∧(XP.ixs []).p M w' [u2]∧Below w.heap.size w w':=by
 let V:VL:=⟨λ_=>0,λ_=>[],λ_=>0,λ_=>[]⟩
 have hF:Bi V ⟨[],[],[],[],[],[],[]⟩:=uM λ_=>rfl
 have hrun:=uH;unfold Acw at hrun;split at hrun
 ·rename_i a b U hw
  split at hrun
  ·rename_i mm xx hk1 hk2
   rw [Bool.and_eq_true] at hrun;refine Calls.mono (Zk (V:=V) (M:=M) (w:=w) (vs:=[v]) hF (λ_ h=>by cases h) (@DM (Ab V)) hw hm0 ⟨v,_,rfl,JR (by simp only [mD]; exact hv),rfl⟩) λe w' ⟨u,ρ',M',e1,e2,e3,e4,e5⟩=>?_
   obtain ⟨vs,rfl,va,r1,q1,k1,vb,r2,q2,k2,k5⟩:=e2;have k5:_=[]:=k5;subst k5;subst q2;have q1:vs = #[va,vb]:=Array.toList_inj.1 q1;subst q1;have k1:=Aa6 (M:=M) hF hm0 e3 e4 hk1 k1;have k2:=Ab2 (M:=M) hF hm0 e3 e4 hk2 k2;rw [CE.beq_eq hrun.1] at k1;rw [CE.beq_eq hrun.2] at k2;refine ⟨va,vb,e1,?_,?_,e5⟩
   ·simpa only [mD] using k1
   ·simpa only [iL] using k2
  ·cases hrun
 ·cases hrun
def MR(m:List (List Rat))(C:Nat):List Nat:=(List.range (A9 m C)).map (U7 m C)
section
variable {m : List (List Rat)} {C : Nat}
theorem Ee:(MR m C).length=A9 m C:=by simp [MR]
theorem BU:(BO m C).length=A9 m C:=by simp [BO]
theorem ML(h:CL C m)(hR:m.length≤5)(hC:C≤5)(ht4:A9 m C≤4){M:Nat→Prop}{w:World}{v:Value}(hm0:∀ b,M b→b<w.heap.size)(hv:(XP.mat m).p M w [v]) :
  Calls Tryz.prog 12 #[v] w λe w'=>∃ u1 u2,e = .returned (.tuple #[u1,u2])∧(XP.mat (BO m C)).p M w' [u1]∧(XP.ixs ((MR m C).map λp:Nat=>(p:Int))).p M w' [u2]∧Below w.heap.size w w':=by
 by_cases h0:m.length=0
 ·have hm:=List.length_eq_zero_iff.1 h0
  have hle:=(Ed h (by omega)).1;have hr:A9 m C=0:=by omega
  have e1:BO m C=[]:=List.length_eq_zero_iff.1 (by rw [BU,hr]);have e2:MR m C=[]:=List.length_eq_zero_iff.1 (by rw [Ee,hr]);rw [e1,e2];rw [hm] at hv;exact AfK hm0 hv
 ·have:=AhB h hR (by omega) hC ht4 hm0 hv
  unfold MR;rw [List.map_map];exact this
theorem Ada(h:CL C m)(hC:C≤6):(MR m C).Pairwise (· < ·):=by
 obtain ⟨r1,_⟩:=EZ h hC;unfold MR;rw [List.pairwise_map];rw [List.pairwise_iff_getElem];intro i j hi hj hij;simp only [List.getElem_range];exact r1.inc i j hij (by simpa using hj)
theorem Aes(h:CL C m)(hC:C≤6){x:Nat}(hx:x∈MR m C):x<C:=by
 obtain ⟨i,hi,rfl⟩:=List.mem_map.1 hx;exact (EZ h hC).2.2.2 i (List.mem_range.1 hi)
theorem AaG(h:CL C m)(hC:C≤5){n:Nat}(hn:A9 m C≤n):MR m C∈P3 C n 0:=SU (by rw [Ee]; exact hn) (λx hx=>⟨Nat.zero_le _,Aes h (by omega) hx⟩) (Ada h (by omega))
theorem XE(h:CL C m)(hR:m.length≤5)(hC:C≤6)(ht4:A9 m C≤4){i:Nat}(hi:i<A9 m C):∀ x∈IZ m C i,AR x 1920000:=λx hx=>by
 have ha:=SO h hC;have htR:=(Ed h hC).1;obtain ⟨y,hy,rfl⟩:=List.mem_map.1 hx;exact ((jY ha hR (by omega) ht4 htR hC hi y hy).div (OM ha hR (by omega) ht4 htR hC)).mono (by omega)
theorem Aiq{V:VL}(h:∀ i,i<A9 m C→lD V (.v (60+i))=(BO m C).getD i []):mD V (KE (JN (A9 m C)))=BO m C:=by
 rw [QH];unfold JN;rw [List.map_map];apply List.ext_getElem
 ·simp [BO]
 ·intro i i1 i2
  simp only [List.getElem_map,List.getElem_range,Function.comp];rw [h i (by rw [BU] at i2; exact i2),List.getD_eq_getElem?_getD,List.getElem?_eq_getElem i2];rfl
theorem uB{V:VL}{ps:List Nat}{M:Nat→Prop}{ρ:Bg}{w:World}{v:Value}(h:(XP.ixs (ps.map λp:Nat=>(p:Int))).p M w [v]):@Bz (Ab V) ρ M w (.row ps.length (ps.map λp:Nat=>.val (.int .i64 (p:Int)))) v:=by
 obtain ⟨A,c,e,h1,h2⟩:=h;show @Rp (Ab V) ρ M w (.row _ _) [v];unfold Rp;rw [List.length_map] at e h1 h2;refine ⟨A,c,e,h1,λh0=>?_⟩;obtain ⟨g,off,q1,q2,q3,q4⟩:=h2 h0;refine ⟨g,off,_,q1,q2,q3,q4,?_⟩;rw [List.map_map];clear h0 h1 h2 q4 e
 induction ps with
 | nil =>
  unfold AQ;rfl
 | cons p ps ih =>
  unfold AQ;refine ⟨[_],_,rfl,?_,ih⟩;unfold Rp;exact ⟨rfl,rfl⟩
end
noncomputable def gC(T:TypeId)(k:IntKind):Bool:=match N0 T with
 | some (.int k')=>decide (k'=k)
 | _=>false
def Qh(F:Fa)(j:Nat):Nat→Option Nat
 | 0=>none
 | n+1=>if EF F (j,0) (0,(n:Int)) && EF F (0,(n:Int)) (j,0) then some n else Qh F j n
noncomputable def mdP(F:Fa)(k:PK)(xs:List AV):Option AV:=match k,xs with
 | .conv T U,[.ext 1 false (.ap 66 (.ap 1 (.v j) (.lit 0)) _)]=>if gC T .u8 && gC U .i64 then some (aI j 0) else none
 | .conv T U,[.ext 1 false (.ap 67 (.ap 1 (.v j) (.lit 0)) _)]=>if gC T .i16 && gC U .i64 then some (aI j 0) else none
 | .bin .rem _ _,[.ext 1 false (.ap 50 (.ap 1 (.v 1) (.lit 0)) _),.val (.int .i64 5)]=>(Qh F 11 5).map fun (n:Nat)=>.val (.int .i64 (n:Int))
 | .bin .rem _ _,[.ext 1 false (.ap 50 (.ap 1 (.v 2) (.lit 0)) _),.val (.int .i64 6)]=>(Qh F 12 6).map fun (n:Nat)=>.val (.int .i64 (n:Int))
 | .bin .rem _ _,[.ext 1 false (.ap 67 (.ap 2 (.v 0) (.lit (.ofNat e))) _),.val (.int .i16 10)]=>if Nat.blt e 100 then some (.ext 1 false (.ap 67 (.i (100+e) 0) (.lit 0))) else none
 | .bin .shr T _,[.ext 1 false (.ap 67 (.ap 2 (.v 0) (.lit (.ofNat e))) _),.val (.int _ 8)]=>if gC T .i16 && Nat.blt e 100 then some (.ext 1 false (.ap 67 (.i (200+e) 0) (.lit 0))) else none
 | .bin .and T _,[.ext 1 false (.ap 50 (.ap 1 (.v e) (.lit 0)) _),.val (.int .i64 1)]=>if Nat.ble 200 e && Nat.blt e 300 && gC T .i64 then some (aI (100+e) 0) else none
 | .bin .shr T _,[.val (.int .i16 0),.val (.int _ 8)]=>if gC T .i16 then some (.val (.int .i16 0)) else none
 | .bin .and T _,[.val (.int .i64 0),.val (.int .i64 1)]=>if gC T .i64 then some (.val (.int .i64 0)) else none
 | .blt .len [T],[.ext 1 false (.ap 68 (.v 0) _)]=>if C_ T then some (aI 13 0) else none
 | .idx T,[.ext 1 false (.ap 68 (.v 0) _),.val (.int .i64 (.ofNat i))]=>if MV T && EF F (0,(i:Int)+1) (13,0) then some (.rptr [.ext 1 false (.ap 67 (.ap 2 (.v 0) (.lit (.ofNat i))) (.lit 0))]) else none
 | _,_=>none
noncomputable def mdX(F:Fa):XT:={ RL F with pure:=λk xs=>match mdP F k xs with
 | some r=>some r
 | none=>My F k xs }
def pMd:PE:=⟨40,λxs=>match xs with
 | [.ext 1 false (.ap 50 (.ap 1 (.v i) (.lit 0)) _),.ext 1 false (.ap 50 (.ap 1 (.v j) (.lit 1)) _)]=>if Nat.ble 100 i && Nat.beq j (200+i) && Nat.blt i 200 then some (aQ (.v (i - 100)) 1) else none
 | [.val (.int .i64 0),.val (.int .i64 1)]=>some (aQ (.ap 36 (.lit 0) (.lit 1)) 1)
 | _=>none⟩
def AdP(R C L:Nat):Fa:=⟨([(11,0,(R:Int)),(0,11,-(R:Int)),(12,0,(C:Int)),(0,12,-(C:Int)),(0,13,-(L:Int))]:List (Nat × Nat × Int)) ++ (if L<R*C then [(13,0,(L:Int))] else []),[],[],[],[],[],[]⟩
noncomputable def Aid(R C L:Nat):Tb:=⟨Gr ([pMd] ++ TM (AdP R C L)),mdX (AdP R C L),N6⟩
def Abu:List AV:=[.agg [.ext 1 false (.ap 66 (.i 1 0) (.lit 0)),.ext 1 false (.ap 66 (.i 2 0) (.lit 0)),.ext 1 false (.ap 68 (.v 0) (.lit 0))]]
noncomputable def Aeb(R C L:Nat):=BR AC (Dd (Aid R C L) AC 200) 11 Abu [] 16 0
def Ac9(L:Nat)(q:CE):Bool:=match q with
 | .v e=>Nat.blt e L
 | .ap 36 (.lit 0) (.lit 1)=>true
 | _=>false
def isRow(L:Nat):Nat→CE→Bool
 | 0,.lit 0=>true
 | n+1,.ap 80 q r=>Ac9 L q && isRow L n r
 | _,_=>false
def Sr(L C:Nat):Nat→CE→Bool
 | 0,.lit 0=>true
 | n+1,.ap 81 e m=>isRow L C e && Sr L C n m
 | _,_=>false
noncomputable def fE(R C L:Nat):Bool:=match Aeb R C L with
 | some (.tup [a,.val (.int .i64 c)],U)=>(match tL U a with
  | some m=>Sr L C R m && decide (c=(C:Int))
  | none=>false)
 | _=>false
noncomputable def Uq(R C a n:Nat):Bool:=(List.range n).all λi=>fE R C (a+i)
noncomputable def QJ(R c n:Nat):Bool:=(List.range n).all λC=>Uq R (c+C) 0 (R*(c+C)+1)
structure MdV (V:VL):Prop where
 a:V.z 11=(V.z 1).tmod 5
 b:V.z 12=(V.z 2).tmod 6
 c:V.z 13=((V.l 0).length:Int)
 r:∀ e,e<100→V.z (100+e)=(((V.l 0).getD e 0).num).tmod 10
 s:∀ e,e<100→V.z (200+e)=((V.l 0).getD e 0).num / 256
 t:∀ e,e<100→V.z (300+e)=bits .and .i64 (V.z (200+e)) 1
theorem Ec{T:TypeId}{k:IntKind}(h:gC T k=true):Tryz.prog.underlying T=some (.int k):=by
 unfold gC at h;split at h
 ·rename_i k' hk
  have:=of_decide_eq_true h;subst this;exact hk
 ·cases h
theorem DU{V:VL}{F:Fa}(hF:Bi V F){j:Nat}:∀{n m:Nat},Qh F j n=some m→V.z j=(m:Int)
 | 0,m,h=>by
  unfold Qh at h
  cases h
 | n+1,m,h=>by
  unfold Qh at h;split at h
  ·rename_i hc
   cases h
   rw [Bool.and_eq_true] at hc;have h1:=AE hF hc.1;have h2:=AE hF hc.2;unfold iD at h1 h2;have:=hF.z0;dsimp only at h1 h2;omega
  ·exact DU hF h
theorem AhJ:AR (mkRat 0 (1:Int).toNat) 1:=by
 have:AR ((0:Int):Rat) 1:=Dy (by unfold Sm; decide) (by decide);exact this
section
variable {V : VL} {F : Fa} {ρ : Bg} {M : Nat → Prop} {w : World} {r : AV}
theorem Xc{i d:CE}{v:Value}(h:@Bz (Ab V) ρ M w (.ext 1 false (.ap 66 i d)) v):v = .int .u8 (zD V i):=by
 have h:@Rp (Ab V) ρ M w (.ext 1 false (.ap 66 i d)) [v]:=h;unfold Rp at h;exact (List.cons.inj h.2).1
theorem Qn{i d:CE}{v:Value}(h:@Bz (Ab V) ρ M w (.ext 1 false (.ap 67 i d)) v):v = .int .i16 (zD V i):=by
 have h:@Rp (Ab V) ρ M w (.ext 1 false (.ap 67 i d)) [v]:=h;unfold Rp at h;exact (List.cons.inj h.2).1
theorem XX{i d:CE}{v:Value}(h:v = .int .i16 (zD V i)):@Bz (Ab V) ρ M w (.ext 1 false (.ap 67 i d)) v:=by
 show @Rp (Ab V) ρ M w (.ext 1 false (.ap 67 i d)) [v];unfold Rp;exact ⟨rfl,by rw [h]; rfl⟩
theorem MD{k:Nat}{c:Int}{d:CE}{v:Value}(h:@Bz (Ab V) ρ M w (.ext 1 false (.ap 50 (.ap 1 (.v k) (.lit c)) d)) v):v = .int .i64 (V.z k+c):=by
 have h:@Rp (Ab V) ρ M w (.ext 1 false (.ap 50 (.ap 1 (.v k) (.lit c)) d)) [v]:=h;unfold Rp at h;exact (List.cons.inj h.2).1
theorem Hh{k:IntKind}{p q:Int}{T T2:TypeId}{x y:Operand}{ρv:Operand→Value}(hx:ρv x = .int k p)(hy:ρv y = .int k q)(hq:q≠0)(o:Oper)(ho:o.op = .binOp .rem T x y T2):(execOp ρv o).run Tryz.prog w = .ok (.value (.int k (p.tmod q))) w:=by
 unfold execOp;rw [ho];simp [go_sem,hx,hy,hq]
theorem Sa{kq:IntKind}{p:Int}{T T2:TypeId}{x y:Operand}{ρv:Operand→Value}(hT:Tryz.prog.underlying T=some (.int .i16))(hx:ρv x = .int .i16 p)(hy:ρv y = .int kq 8)(o:Oper)(ho:o.op = .binOp .shr T x y T2):(execOp ρv o).run Tryz.prog w = .ok (.value (.int .i16 (p / 256))) w:=by
 unfold execOp;rw [ho];simp [go_sem,hx,hy,run_underlying hT]
theorem Y2{p q:Int}{T T2:TypeId}{x y:Operand}{ρv:Operand→Value}(hT:Tryz.prog.underlying T=some (.int .i64))(hx:ρv x = .int .i64 p)(hy:ρv y = .int .i64 q)(o:Oper)(ho:o.op = .binOp .and T x y T2):(execOp ρv o).run Tryz.prog w = .ok (.value (.int .i64 (bits .and .i64 p q))) w:=by
 unfold execOp;rw [ho];simp [go_sem,hx,hy,run_underlying hT]
theorem WG{k:IntKind}{z:Int}{T U:TypeId}{x:Operand}{ρv:Operand→Value}(hT:Tryz.prog.underlying T=some (.int k))(hU:Tryz.prog.underlying U=some (.int .i64))(hx:ρv x = .int k z)(o:Oper)(ho:o.op = .convert T U x):(execOp ρv o).run Tryz.prog w = .ok (.value (.int .i64 (IntKind.i64.wrap z))) w:=by
 unfold execOp;rw [ho];simp [convert,Sem.run_bind,run_underlying hT,run_underlying hU,hx,go_sem]
theorem PR{p:Int}(h1 : -128≤p)(h2:p≤127):0≤bits .and .i64 p 1∧bits .and .i64 p 1≤1:=by
 have key:∀ n:Fin 256,0≤bits .and .i64 ((n.val:Int) - 128) 1∧bits .and .i64 ((n.val:Int) - 128) 1≤1:=by decide +kernel
 have:=key ⟨(p+128).toNat,by omega⟩;have e:(((p+128).toNat:Nat):Int) - 128=p:=by omega
 dsimp only at this;rw [e] at this;exact this
theorem AcX:bits .and .i64 0 1=0:=by decide +kernel
theorem dB(hF:Bi V F)(hV:MdV V){k:PK}{xs:List AV}(h:mdP F k xs=some r){ρv:Operand→Value}{ys:List Operand}(hv:@CH (Ab V) ρ M w xs (ys.map ρv)) :
  ∃ v,(∀ o:Oper,o.op=MN k ys→(execOp ρv o).run Tryz.prog w = .ok (.value v) w) ∧ @RV (Ab V) ρ M w r v:=by
 letI:=Ab V
 have two:∀{x y:AV},@CH (Ab V) ρ M w [x,y] (ys.map ρv)→∃ a b,ys=[a,b] ∧ @Bz (Ab V) ρ M w x (ρv a) ∧ @Bz (Ab V) ρ M w y (ρv b):=fun {x y} ⟨va,_,e1,h1,vb,_,e2,h2,e3⟩=>by
  have e3:_=[]:=e3;subst e3;subst e2
  match ys,e1 with
  | [a,b],e1 =>
   simp only [List.map_cons,List.map_nil,List.cons.injEq,and_true] at e1;exact ⟨a,b,rfl,e1.1 ▸ h1,e1.2 ▸ h2⟩
 have one:∀{x:AV},@CH (Ab V) ρ M w [x] (ys.map ρv)→∃ a,ys=[a] ∧ @Bz (Ab V) ρ M w x (ρv a):=fun {x} ⟨va,_,e1,h1,e3⟩=>by
  have e3:_=[]:=e3;subst e3
  match ys,e1 with
  | [a],e1 =>
   simp only [List.map_cons,List.map_nil,List.cons.injEq,and_true] at e1;exact ⟨a,rfl,e1 ▸ h1⟩
 have rv:∀{a:AV}{v:Value},@Bz (Ab V) ρ M w a v → @RV (Ab V) ρ M w a v:=λh=>@Bz.rv (Ab V) ρ M w _ _ h
 have zi:∀ j,zD V (.ap 1 (.v j) (.lit 0))=V.z j:=λj=>by simp [zD]
 have wr:∀ j,IntKind.i64.wrap (V.z j)=V.z j:=λj=>Ew (by have:=hF.sm j; omega) (by have:=hF.sm j; omega)
 unfold mdP at h;split at h
 ·-- a byte as int
  obtain ⟨a,rfl,hx⟩:=one hv;split at h
  ·rename_i hc
   cases h
   rw [Bool.and_eq_true] at hc;have hx:=Xc hx;rw [zi] at hx;refine ⟨_,λo ho=>WG (Ec hc.1) (Ec hc.2) hx o ho,rv (Iv ?_)⟩;rw [wr,Int.add_zero]
  ·cases h
 ·-- a small integer as int64
  obtain ⟨a,rfl,hx⟩:=one hv;split at h
  ·rename_i hc
   cases h
   rw [Bool.and_eq_true] at hc;have hx:=Qn hx;rw [zi] at hx;refine ⟨_,λo ho=>WG (Ec hc.1) (Ec hc.2) hx o ho,rv (Iv ?_)⟩;rw [wr,Int.add_zero]
  ·cases h
 ·obtain ⟨a,b,rfl,hx,hy⟩:=two hv
  obtain ⟨n,hn,rfl⟩:=Option.map_eq_some_iff.1 h;have hx:=MD hx;rw [Int.add_zero] at hx;refine ⟨_,λo ho=>Hh hx hy (by decide) o ho,?_⟩;show _=_;rw [← hV.a,DU hF hn]
 ·obtain ⟨a,b,rfl,hx,hy⟩:=two hv
  obtain ⟨n,hn,rfl⟩:=Option.map_eq_some_iff.1 h;have hx:=MD hx;rw [Int.add_zero] at hx;refine ⟨_,λo ho=>Hh hx hy (by decide) o ho,?_⟩;show _=_;rw [← hV.b,DU hF hn]
 ·rename_i e _
  obtain ⟨a,b,rfl,hx,hy⟩:=two hv;split at h
  ·rename_i hc
   cases h
   have hx:=Qn hx;refine ⟨_,λo ho=>Hh hx hy (by decide) o ho,rv (XX ?_)⟩;have e1:zD V (.i (100+e) 0)=V.z (100+e):=zi _;have e2:zD V (.ap 2 (.v 0) (.lit (.ofNat e)))=((V.l 0).getD e 0).num:=rfl;rw [e1,e2,hV.r e (Nat.le_of_ble_eq_true hc)]
  ·cases h
 ·rename_i e _ _
  obtain ⟨a,b,rfl,hx,hy⟩:=two hv;split at h
  ·rename_i hc
   cases h
   rw [Bool.and_eq_true] at hc;have hx:=Qn hx;refine ⟨_,λo ho=>Sa (Ec hc.1) hx hy o ho,rv (XX ?_)⟩;have e1:zD V (.i (200+e) 0)=V.z (200+e):=zi _;have e2:zD V (.ap 2 (.v 0) (.lit (.ofNat e)))=((V.l 0).getD e 0).num:=rfl;rw [e1,e2,hV.s e (Nat.le_of_ble_eq_true hc.2)]
  ·cases h
 ·rename_i e _
  obtain ⟨a,b,rfl,hx,hy⟩:=two hv;split at h
  ·rename_i hc
   cases h
   rw [Bool.and_eq_true,Bool.and_eq_true] at hc;have hx:=MD hx;rw [Int.add_zero] at hx;have h1:=Nat.le_of_ble_eq_true hc.1.1;have h2:e<300:=Nat.le_of_ble_eq_true hc.1.2;refine ⟨_,λo ho=>Y2 (Ec hc.2) hx hy o ho,rv (Iv ?_)⟩;have:=hV.t (e - 200) (by omega);rw [show 300+(e - 200)=100+e by omega,show 200+(e - 200)=e by omega] at this;rw [this,Int.add_zero]
  ·cases h
 ·obtain ⟨a,b,rfl,hx,hy⟩:=two hv
  split at h
  ·rename_i hc
   cases h
   exact ⟨_,λo ho=>Sa (Ec hc) hx hy o ho,rfl⟩
  ·cases h
 ·obtain ⟨a,b,rfl,hx,hy⟩:=two hv
  split at h
  ·rename_i hc
   cases h
   exact ⟨_,λo ho=>Y2 (Ec hc) hx hy o ho,congrArg (Value.int .i64) AcX⟩
  ·cases h
 ·rename_i T _
  obtain ⟨a,rfl,hx⟩:=one hv;split at h
  ·rename_i hc
   cases h
   obtain ⟨el,hd⟩:=Cl hc;have hx:@Rp (Ab V) ρ M w _ [ρv a]:=hx;unfold Rp at hx;obtain ⟨A,c,e1,_⟩:=hx.2;have ha:=(List.cons.inj e1).1;refine ⟨.int .i64 ((V.l 0).length:Int),λo ho=>?_,rv (Iv ?_)⟩
   ·have ho:o.op = .call { callee:=.builtin .len,args:=#[a],argTypes:=#[T] }:=ho
    unfold execOp;rw [ho];have ha:ρv a = .slice A (V.l 0).length c:=by
     rw [ha];simp only [lD]
    simp [resolve,invoke,builtin,Builtin.len_,Sem.run_bind,run_underlying hd,ha,goInt]
   ·rw [hV.c,Int.add_zero]
  ·cases h
 ·rename_i T _ i
  obtain ⟨a,b,rfl,hx,hy⟩:=two hv;split at h
  ·rename_i hc
   cases h
   rw [Bool.and_eq_true] at hc;obtain ⟨el,t1,t2⟩:=IE hc.1;have hle:=AE hF hc.2;unfold iD at hle;rw [hF.z0,hV.c] at hle;dsimp only at hle;have hi:i<(V.l 0).length:=by omega
   have hx:@Rp (Ab V) ρ M w _ [ρv a]:=hx;unfold Rp at hx;obtain ⟨A,c,e1,_,hb,hg⟩:=hx.2;have el0:lD V (.v 0)=V.l 0:=by simp only [lD]
   rw [el0] at e1 hb hg;obtain ⟨g,off,rfl,k2,k3,k4⟩:=hg (by omega);have ha:=(List.cons.inj e1).1;have hy:ρv b = .int .i64 (i:Int):=hy;refine ⟨.pointer (some ⟨g,off+(i:Int).toNat*1,none⟩),λo ho=>?_,rv ?_⟩
   ·have ho:o.op = .indexAddr T a b:=ho
    unfold execOp;rw [ho];show Sem.run _ (Instr.indexAt T (ρv a) (ρv b) >>= λx=>pure (Next.value x)) w=_;rw [ha,hy];exact CA (DL t1 t2 ⟨by omega,by omega⟩)
   ·show @Rp (Ab V) ρ M w (.rptr _) [_]
    unfold Rp;have q1:zD V (.ap 2 (.v 0) (.lit (.ofNat i)))=((V.l 0)[i]).num:=by
     show ((V.l 0).getD i 0).num=_;rw [List.getD_eq_getElem?_getD,List.getElem?_eq_getElem hi];rfl
    refine ⟨g,off+i*1,[.int .i16 ((V.l 0)[i]).num],by simp,k2,k3,?_,@AQ.one (Ab V) ρ M w _ _ ?_⟩
    ·have e6:(((V.l 0).map λq=>Value.int .i16 q.num).drop i).take 1=[.int .i16 ((V.l 0)[i]).num]:=by
      rw [← List.map_drop,← List.map_take,List.drop_eq_getElem_cons hi];rfl
     rw [← e6,Nat.mul_one];exact BH (BW k4)
    ·unfold Rp
     refine ⟨rfl,?_⟩;show [_]=[_];rw [q1]
  ·cases h
 ·cases h
theorem AeQ(hF:Bi V F)(hV:MdV V):@KC (Ab V) (mdX F):=by
 obtain ⟨_,x2,x3,x4,x5,x6,x7,x8⟩:=Fh hF;refine @KC.mk (Ab V) (mdX F) (λk xs r h ρ M w ρv ys _ hv=>?_) x2 x3 x4 x5 x6 x7 x8;have h:(match mdP F k xs with
  | some r=>some r
  | none=>My F k xs)=some r:=h
 split at h
 ·rename_i r' h1
  cases h
  exact dB hF hV h1 hv
 ·exact GW hF h hv
theorem AeA(sm:∀ k,-1152921504606846976≤V.z k∧V.z k≤1152921504606846976)(hd:∀ e,e<100→V.z (300+e)+1≠0∧V.q e=Rat.divInt (V.z (100+e)) (V.z (300+e)+1)∧AR (V.q e) 1):@PE.ok (Ab V) pMd:=by
 intro xs r e;refine ⟨λ_ _=>by simp [pMd,go_sem],λρ M w vs hm0 hv=>?_⟩;unfold pMd at e;dsimp only at e;split at e
 ·rename_i i _ j _
  split at e
  ·rename_i hc
   simp only [Bool.and_eq_true] at hc
   cases e
   have c1:=Nat.le_of_ble_eq_true hc.1.1;have c2:=Nat.eq_of_beq_eq_true hc.1.2;have c3:i<200:=Nat.le_of_ble_eq_true hc.2;obtain ⟨va,_,rfl,k1,vb,_,rfl,k2,k5⟩:=hv;have k5:_=[]:=k5;subst k5;have k1:=MD k1;have k2:=MD k2;rw [Int.add_zero] at k1;subst k1;subst k2;obtain ⟨d1,d2,d3⟩:=hd (i - 100) (by omega);rw [show 300+(i - 100)=j by omega,show 100+(i - 100)=i by omega] at d2;rw [show 300+(i - 100)=j by omega] at d1;have s1:=sm i;have s2:=sm j;refine Calls.mono (Ka w (by omega) (by omega) (by omega) (by omega) d1) λe w' ⟨v,e1,e2,e3⟩=>⟨v,e1,@Bz.rv (Ab V) ρ M w' _ _ (Fk ?_ ?_),e3⟩
   ·simp only [qD]
    rw [d2];exact e2
   ·simp only [qD]
    exact d3
  ·cases e
 ·cases e
  obtain ⟨va,_,rfl,k1,vb,_,rfl,k2,k5⟩:=hv;have k5:_=[]:=k5;subst k5;have k1:va = .int .i64 0:=k1;have k2:vb = .int .i64 1:=k2;subst k1;subst k2;refine Calls.mono (Ka (x:=0) (y:=1) w (by decide) (by decide) (by decide) (by decide) (by decide)) λe w' ⟨v,e1,e2,e3⟩=>⟨v,e1,@Bz.rv (Ab V) ρ M w' _ _ (Fk ?_ ?_),e3⟩
  ·simp only [qD]
   exact e2
  ·simp only [qD]
   exact AhJ
 ·cases e
end
theorem XK{V:VL}{M:Nat→Prop}{w:World}{T:Tb}{f m:Nat}{xs:List AV}{a:AV}{U:HP}(hT:@EO (Ab V) T)(hr:BR AC (Dd T AC m) f xs [] 16 0=some (a,U)){vs:List Value}(hm0:∀ b,M b→b<w.heap.size)(hv:@CH (Ab V) BQ M w xs vs) :
  Calls Tryz.prog f vs.toArray w λe w'=>∃ u ρ' M',e = .returned u ∧ @RV (Ab V) ρ' M' w' a u ∧ @RH (Ab V) ρ' M' (Di BQ w (lk [])) w' (CR (lk []) U)∧Below w.heap.size w w':=by
 letI:=Ab V
 obtain ⟨_,hcall⟩:=DK Bq (EN hT Bq m).1 f xs [] 16 0 _ _ hr;have hs:CK BQ M (Di BQ w (lk [])) w 0 (lk []):=⟨⟨λo b e=>(by cases e),λo o' b b' g c c' e=>(by cases e)⟩,hm0,λ_ _ _=>rfl,λb hb=>.inl hb⟩;refine Calls.mono (hcall BQ M w vs hs (λo p e=>(by cases e)) (by decide) hv) λe w' ⟨v,e1,ρ',M',ht,hv',hR,_,hsup,_,_,hfr,_⟩=>⟨v,ρ',M',e1,hv',hR,⟨hfr.os,hfr.tape,hfr.output,hfr.size,λb hb=>hfr.keep b hb ?_⟩⟩
 rintro (h1 | ⟨_,_,_,h1,_⟩)
 ·omega
 ·cases h1
def ElP(x:Rat):Prop:=∃ z:Int,x*((2:Int):Rat)=(z:Rat)∧Sm z 1
theorem Akb:ElP 0:=⟨0,by simp,by unfold Sm; decide⟩
theorem uZ{n d:Int}(h1 : -9≤n)(h2:n≤9)(hd:d=1 ∨ d=2):ElP (Rat.divInt n d)∧AR (Rat.divInt n d) 1:=by
 have sn:∀ z:Int,-18≤z→z≤18→Sm z 1:=λz a b=>by
  unfold Sm;have:z.natAbs≤18:=by omega
  exact Nat.lt_of_le_of_lt this (by decide)
 rcases hd with rfl | rfl
 ·refine ⟨⟨2*n,?_,sn _ (by omega) (by omega)⟩,AR.of (sn _ (by omega) (by omega)) (sn _ (by decide) (by decide)) (by decide)⟩
  rw [Rat.divInt_eq_div,Rat.intCast_mul];have:((1:Int):Rat)=1:=rfl;rw [this]
  grind
 ·refine ⟨⟨n,?_,sn _ (by omega) (by omega)⟩,AR.of (sn _ (by omega) (by omega)) (sn _ (by decide) (by decide)) (by decide)⟩
  rw [Rat.divInt_eq_div];have:((2:Int):Rat)≠0:=by decide
  grind
section
variable {V : VL} {L C : Nat}
theorem Uf(hq:∀ e,e<L→ElP (V.q e)){q:CE}(h:Ac9 L q=true):ElP (qD V q):=by
 unfold Ac9 at h;split at h
 ·simp only [qD]
  exact hq _ (Nat.le_of_ble_eq_true h)
 ·simp only [qD]
  exact Akb
 ·cases h
theorem K3(hq:∀ e,e<L→ElP (V.q e)):∀{n:Nat}{e:CE},isRow L n e=true→(lD V e).length=n∧∀ x∈lD V e,ElP x
 | 0,e,h=>by
  unfold isRow at h;split at h
  ·simp [lD]
  ·rename_i hh
   cases hh
  ·cases h
 | n+1,e,h=>by
  unfold isRow at h;split at h
  ·rename_i hh
   cases hh
  ·rename_i n' q r hh
   cases hh
   rw [Bool.and_eq_true] at h;obtain ⟨i1,i2⟩:=K3 hq h.2;have e:lD V (.ap 80 q r)=qD V q :: lD V r:=by simp only [lD]
   rw [e];refine ⟨by rw [List.length_cons,i1],λx hx=>?_⟩
   rcases List.mem_cons.1 hx with rfl | hx
   ·exact Uf hq h.1
   ·exact i2 x hx
  ·cases h
theorem K4(hq:∀ e,e<L→ElP (V.q e)):∀{n:Nat}{m:CE},Sr L C n m=true→(mD V m).length=n∧FG C (mD V m)
 | 0,e,h=>by
  unfold Sr at h;split at h
  ·simp only [mD]
   exact ⟨rfl,⟨λl hl=>(by cases hl),λl hl=>(by cases hl)⟩⟩
  ·rename_i hh
   cases hh
  ·cases h
 | n+1,e,h=>by
  unfold Sr at h;split at h
  ·rename_i hh
   cases hh
  ·rename_i n' q r hh
   cases hh
   rw [Bool.and_eq_true] at h;obtain ⟨i1,i2⟩:=K4 hq h.2;obtain ⟨j1,j2⟩:=K3 hq h.1;have e:mD V (.ap 81 q r)=lD V q :: mD V r:=by simp only [mD]
   rw [e];refine ⟨by rw [List.length_cons,i1],λl hl=>?_,λl hl=>?_⟩
   ·rcases List.mem_cons.1 hl with rfl | hl
    ·exact j1
    ·exact i2.len l hl
   ·rcases List.mem_cons.1 hl with rfl | hl
    ·exact j2
    ·exact i2.el l hl
  ·cases h
end
def DQ(zr zc:Int)(l:List Rat):VL:=⟨λk=>if k=1 then zr else if k=2 then zc else if k=11 then zr.tmod 5 else if k=12 then zc.tmod 6 else if k=13 then (l.length:Int) else if 100≤k∧k<200 then ((l.getD (k - 100) 0).num).tmod 10 else if 200≤k∧k<300 then (l.getD (k - 200) 0).num / 256 else if 300≤k∧k<400 then bits .and .i64 ((l.getD (k - 300) 0).num / 256) 1 else 0,
 λk=>if k=0 then l else [],λe=>Rat.divInt (((l.getD e 0).num).tmod 10) (bits .and .i64 ((l.getD e 0).num / 256) 1+1),λ_=>[]⟩
section
variable {zr zc : Int} {l : List Rat}
theorem Acc{e:Nat}(he:e<100):(DQ zr zc l).z (100+e)=((l.getD e 0).num).tmod 10:=by
 simp only [DQ];rw [if_neg (by omega),if_neg (by omega),if_neg (by omega),if_neg (by omega),if_neg (by omega),if_pos (by omega),show 100+e - 100=e by omega]
theorem Abn{e:Nat}(he:e<100):(DQ zr zc l).z (200+e)=(l.getD e 0).num / 256:=by
 simp only [DQ];rw [if_neg (by omega),if_neg (by omega),if_neg (by omega),if_neg (by omega),if_neg (by omega),if_neg (by omega),if_pos (by omega),show 200+e - 200=e by omega]
theorem AbL{e:Nat}(he:e<100):(DQ zr zc l).z (300+e)=bits .and .i64 ((l.getD e 0).num / 256) 1:=by
 simp only [DQ];rw [if_neg (by omega),if_neg (by omega),if_neg (by omega),if_neg (by omega),if_neg (by omega),if_neg (by omega),if_neg (by omega),if_pos (by omega),show 300+e - 300=e by omega]
theorem Pk(hl:∀ q∈l,-32768≤q.num∧q.num≤32767)(e:Nat) : -32768≤(l.getD e 0).num∧(l.getD e 0).num≤32767:=by
 rw [List.getD_eq_getElem?_getD]
 cases hg:l[e]? with
 | none=>decide
 | some x=>exact hl x (List.mem_of_getElem? hg)
theorem P7(z:Int){b:Int}(hb:0<b) : -b<z.tmod b:=by
 have h:=Int.tmod_lt_of_pos (-z) hb;rw [Int.neg_tmod] at h;omega
theorem sH(z:Int) : -9≤z.tmod 10∧z.tmod 10≤9:=by
 have h:=Int.tmod_lt_of_pos z (b:=10) (by decide);have h2:=P7 z (b:=10) (by decide);omega
theorem AcG:MdV (DQ zr zc l):=
 ⟨rfl,rfl,rfl,λe he=>by rw [Acc he]; rfl,λe he=>by rw [Abn he]; rfl,λe he=>by rw [AbL he,Abn he]⟩
theorem Abj(h1:0≤zr∧zr≤255)(h2:0≤zc∧zc≤255)(hl:∀ q∈l,-32768≤q.num∧q.num≤32767)(hlen:l.length≤1000000000000000)(k:Nat) : -1152921504606846976≤(DQ zr zc l).z k∧(DQ zr zc l).z k≤1152921504606846976:=by
 simp only [DQ];split
 ·omega
 ·split
  ·omega
  ·split
   ·have a:=Int.tmod_lt_of_pos zr (b:=5) (by decide)
    have b:=P7 zr (b:=5) (by decide);omega
   ·split
    ·have a:=Int.tmod_lt_of_pos zc (b:=6) (by decide)
     have b:=P7 zc (b:=6) (by decide);omega
    ·split
     ·omega
     ·split
      ·have:=sH (l.getD (k - 100) 0).num
       omega
      ·split
       ·have:=Pk hl (k - 200)
        omega
       ·split
        ·have:=Pk hl (k - 300)
         have:=PR (p:=(l.getD (k - 300) 0).num / 256) (by omega) (by omega);omega
        ·omega
theorem Aa8(hl:∀ q∈l,-32768≤q.num∧q.num≤32767)(e:Nat):ElP ((DQ zr zc l).q e)∧AR ((DQ zr zc l).q e) 1:=by
 have:=Pk hl e;have a:=PR (p:=(l.getD e 0).num / 256) (by omega) (by omega);have b:=sH (l.getD e 0).num;exact uZ b.1 b.2 (by omega)
end
theorem Akh:QJ 0 0 6=true:=by kernel_rfl
theorem AjJ:QJ 1 0 6=true:=by kernel_rfl
theorem Akj:QJ 2 0 6=true:=by kernel_rfl
theorem Aiz:QJ 3 0 4=true:=by kernel_rfl
theorem Aic:QJ 3 4 1=true:=by kernel_rfl
theorem Ahk:QJ 3 5 1=true:=by kernel_rfl
theorem Ajj:QJ 4 0 3=true:=by kernel_rfl
theorem Ah1:QJ 4 3 1=true:=by kernel_rfl
theorem AgV:Uq 4 4 0 9=true:=by kernel_rfl
theorem AiX:Uq 4 4 9 8=true:=by kernel_rfl
theorem Aje:Uq 4 5 0 7=true:=by kernel_rfl
theorem Ag3:Uq 4 5 7 7=true:=by kernel_rfl
theorem Ai3:Uq 4 5 14 7=true:=by kernel_rfl
theorem H7{R C a n L:Nat}(h:Uq R C a n=true)(h1:a≤L)(h2:L<a+n):fE R C L=true:=by
 have:=List.all_eq_true.1 h (L - a) (List.mem_range.2 (by omega));rwa [show a+(L - a)=L by omega] at this
theorem Fc{R c n C L:Nat}(h:QJ R c n=true)(h1:c≤C)(h2:C<c+n)(hL:L≤R*C):fE R C L=true:=by
 have:=List.all_eq_true.1 h (C - c) (List.mem_range.2 (by omega));rw [show c+(C - c)=C by omega] at this;exact H7 this (Nat.zero_le _) (by omega)
theorem oB{R C L:Nat}(hR:R<5)(hC:C<6)(hL:L≤R*C):fE R C L=true:=by
 match R,hR with
 | 0,_=>exact Fc Akh (Nat.zero_le _) hC hL
 | 1,_=>exact Fc AjJ (Nat.zero_le _) hC hL
 | 2,_=>exact Fc Akj (Nat.zero_le _) hC hL
 | 3,_ =>
  by_cases h:C<4
  ·exact Fc Aiz (Nat.zero_le _) h hL
  ·by_cases h:C<5
   ·exact Fc Aic (by omega) h hL
   ·exact Fc Ahk (by omega) (by omega) hL
 | 4,_ =>
  by_cases h:C<3
  ·exact Fc Ajj (Nat.zero_le _) h hL
  ·by_cases h:C<4
   ·exact Fc Ah1 (by omega) (by omega) hL
   ·by_cases h4:C=4
    ·subst h4
     by_cases h:L<9
     ·exact H7 AgV (Nat.zero_le _) h
     ·exact H7 AiX (by omega) (by omega)
    ·have h5:C=5:=by omega
     subst h5
     by_cases h:L<7
     ·exact H7 Aje (Nat.zero_le _) h
     ·by_cases h:L<14
      ·exact H7 Ag3 (by omega) h
      ·exact H7 Ai3 (by omega) (by omega)
noncomputable def P8(R C L:Nat):CE:=match Aeb R C L with
 | some (.tup [a,_],U)=>(tL U a).getD (.lit 0)
 | _=>.lit 0
noncomputable def Ns(zr zc:Int)(l:List Rat):List (List Rat):=mD (DQ zr zc l) (P8 (zr.toNat % 5) (zc.toNat % 6) (min l.length ((zr.toNat % 5)*(zc.toNat % 6))))
theorem OH{R C L:Nat}{a:AV}{c:Int}{U:HP}{m:CE}(h1:Aeb R C L=some (.tup [a,.val (.int .i64 c)],U))(h2:tL U a=some m):P8 R C L=m:=by
 unfold P8;rw [h1];show (tL U a).getD (.lit 0)=m;rw [h2];rfl
theorem iN{zr zc:Int}{l:List Rat}(hl:∀ q∈l,-32768≤q.num∧q.num≤32767):FG (zc.toNat % 6) (Ns zr zc l)∧(Ns zr zc l).length=zr.toNat % 5:=by
 unfold Ns;have hrun:=oB (R:=zr.toNat % 5) (C:=zc.toNat % 6) (L:=min l.length ((zr.toNat % 5)*(zc.toNat % 6))) (by omega) (by omega) (Nat.min_le_right _ _);generalize zr.toNat % 5=R at hrun;generalize zc.toNat % 6=C at hrun;generalize min l.length (R*C)=L at hrun;unfold fE at hrun;split at hrun
 ·rename_i a c U hw
  split at hrun
  ·rename_i m hk
   rw [Bool.and_eq_true] at hrun;obtain ⟨i1,i2⟩:=K4 (V:=DQ zr zc l) (λe _=>(Aa8 hl e).1) hrun.1;rw [OH hw hk];exact ⟨i2,i1⟩
  ·cases hrun
 ·cases hrun
theorem Adg{zr zc:Int}{l:List Rat}(h1:0≤zr∧zr≤255)(h2:0≤zc∧zc≤255)(hl:∀ q∈l,-32768≤q.num∧q.num≤32767)(hlen:l.length≤1000000000000000){M:Nat→Prop}{w:World}{v:Value}(hm0:∀ b,M b→b<w.heap.size)(hv:@CH (Ab (DQ zr zc l)) BQ M w Abu [v]) :
  Calls Tryz.prog 11 #[v] w λe w'=>∃ u:Value,e = .returned (.tuple #[u,.int .i64 (zc.toNat % 6:Nat)])∧(XP.mat (Ns zr zc l)).p M w' [u]∧Below w.heap.size w w':=by
 have hm:Ns zr zc l=mD (DQ zr zc l) (P8 (zr.toNat % 5) (zc.toNat % 6) (min l.length ((zr.toNat % 5)*(zc.toNat % 6)))):=rfl;have er:zr.tmod 5=((zr.toNat % 5:Nat):Int):=by
  obtain ⟨n,rfl⟩:=Int.eq_ofNat_of_zero_le h1.1;rfl
 have ec:zc.tmod 6=((zc.toNat % 6:Nat):Int):=by
  obtain ⟨n,rfl⟩:=Int.eq_ofNat_of_zero_le h2.1;rfl
 generalize hR:zr.toNat % 5=R at er hm;generalize hC:zc.toNat % 6=C at ec hm;have hR5:R<5:=by omega
 have hC6:C<6:=by omega
 have hrun:=oB (L:=min l.length (R*C)) hR5 hC6 (Nat.min_le_right _ _);generalize hL:min l.length (R*C)=L at hrun hm;have hF:Bi (DQ zr zc l) (AdP R C L):=by
  refine ⟨rfl,Abj h1 h2 hl hlen,λx hx=>?_,λx hx=>(by cases hx),λx hx=>(by cases hx),λx hx=>(by cases hx),λx hx=>(by cases hx),λx hx=>(by cases hx),λx hx=>(by cases hx)⟩;have z0:(DQ zr zc l).z 0=0:=rfl;have za:(DQ zr zc l).z 11=(R:Int):=er;have zb:(DQ zr zc l).z 12=(C:Int):=ec;have zl:(DQ zr zc l).z 13=(l.length:Int):=rfl
  rcases List.mem_append.1 hx with hx | hx
  ·simp only [List.mem_cons,List.not_mem_nil,or_false] at hx
   rcases hx with rfl | rfl | rfl | rfl | rfl
   ·dsimp only; omega
   ·dsimp only; omega
   ·dsimp only; omega
   ·dsimp only; omega
   ·dsimp only; omega
  ·split at hx
   ·rw [List.mem_singleton] at hx
    subst hx;dsimp only;omega
   ·cases hx
 have hPE:∀ e∈[pMd],@PE.ok (Ab (DQ zr zc l)) e:=λe he=>by
  rw [List.mem_singleton] at he;subst he;refine AeA (Abj h1 h2 hl hlen) λe he=>?_
  obtain ⟨d1,d2⟩:=Aa8 (zr:=zr) (zc:=zc) hl e;have:=Pk hl e;have a:=PR (p:=(l.getD e 0).num / 256) (by omega) (by omega);rw [AbL he,Acc he];exact ⟨by omega,rfl,d2⟩
 have hT:@EO (Ab (DQ zr zc l)) (Aid R C L):=@EO.mk (Ab _) _ (El hF hPE) (AeQ hF AcG) (@DM (Ab _));unfold fE at hrun;split at hrun
 ·rename_i a c U hw
  split at hrun
  ·rename_i m hk
   rw [Bool.and_eq_true] at hrun;have hc:=of_decide_eq_true hrun.2;rw [OH hw hk] at hm;refine Calls.mono (XK (vs:=[v]) hT hw hm0 hv) λe w' ⟨u,ρ',M',e1,e2,e3,e4⟩=>?_
   obtain ⟨vs,rfl,va,r1,q1,k1,vb,r2,q2,k2,k5⟩:=e2;have k5:_=[]:=k5;subst k5;subst q2;have q1:vs = #[va,vb]:=Array.toList_inj.1 q1;subst q1;have k2:vb = .int .i64 c:=k2;have k1:=Kz (M:=M) hF hm0 e3 hk k1;have k1:@Rp (Ab (DQ zr zc l)) BQ M w' (aM m) [va]:=k1;unfold Rp at k1;refine ⟨va,?_,by rw [hm]; exact k1.2,e4⟩;rw [e1,k2,hc]
  ·cases hrun
 ·cases hrun
noncomputable def chP(F:Fa)(R:Nat)(k:PK)(xs:List AV):Option AV:=match k,xs with
 | .conv T U,[.ext 1 false (.ap 66 (.ap 1 (.v j) (.lit 0)) _)]=>if gC T .u8 && gC U .i64 then some (aI j 0) else none
 | .bin .rem _ _,[.ext 1 false (.ap 50 (.ap 1 (.v 4) (.lit 0)) _),.val (.int .i64 r)]=>if decide (r=(R:Int)) && Nat.ble 1 R then (match Qh F 14 R with
  | some n=>some (.val (.int .i64 (n:Int)))
  | none=>some (aI 14 0)) else none
 | .bin .rem _ _,[.ext 1 false (.ap 50 (.ap 1 (.v 5) (.lit 0)) _),.val (.int .i64 r)]=>if decide (r=(R:Int)) && Nat.ble 1 R then (match Qh F 15 R with
  | some n=>some (.val (.int .i64 (n:Int)))
  | none=>some (aI 15 0)) else none
 | .bin .rem _ _,[.ext 1 false (.ap 66 (.ap 1 (.v 3) (.lit 0)) _),.val (.int .u8 4)]=>(Qh F 13 4).map fun (n:Nat)=>.val (.int .u8 (n:Int))
 | .bin .neq _ _,[.ext 1 false (.ap 55 (.ap 1 (.v 6) (.lit 0)) _),.val (.int .i8 0)]=>(Iz F.zr (.v 90)).map λb=>.val (.bool !b)
 | _,_=>none
noncomputable def chX(F:Fa)(R:Nat):XT:={ RL F with pure:=λk xs=>match chP F R k xs with
 | some r=>some r
 | none=>My F k xs }
def wJ:PE:=⟨28,λxs=>match xs with
 | [.ext 1 false (.ap 57 (.ap 1 (.v 6) (.lit 0)) _)]=>some (aQ (.v 90) 1)
 | _=>none⟩
def pin(j:Nat)(n:Nat):List (Nat × Nat × Int):=[(j,0,(n:Int)),(0,j,-(n:Int))]
def eW(w R C i k:Nat)(z:Bool):Fa:=⟨pin 13 w ++ pin 14 i ++ (if w=1 then [] else pin 15 k),(List.range R).map λj=>(.v j,0,(C:Int)),(List.range R).map λj=>(.v j,1),if w=1 then [(.v 90,z)] else [],[],[(.lit 3,0)],[]⟩
noncomputable def AgS(w R C i k:Nat)(z:Bool):Tb:=⟨Gr ([wJ] ++ TM (eW w R C i k z)),chX (eW w R C i k z) R,N6⟩
def VB:List AV:=[.ext 1 false (.ap 66 (.i 3 0) (.lit 0)),.ext 1 false (.ap 66 (.i 4 0) (.lit 0)),.ext 1 false (.ap 66 (.i 5 0) (.lit 0)),.ext 1 false (.ap 55 (.i 6 0) (.lit 0))]
noncomputable def AjE(w R C i k:Nat)(z:Bool):=BR AC (Dd (AgS w R C i k z) AC 400) 33 [aM (gH 0 R),.agg VB] [] 16 0
def AcE(w i k r j:Nat):CE:=if w=1 && Nat.beq r i then .ap 33 (Ej i j) (.v 90) else if w=2 && Nat.beq r i then .ap 31 (Ej i j) (.ap 33 (.v 90) (Ej k j)) else Ej r j
def bP(w C i k r:Nat):CE:=FY ((List.range C).map (AcE w i k r))
def Gz(i k r:Nat):Nat:=if Nat.beq r i then k else if Nat.beq r k then i else r
def AhF(w R C i k:Nat)(z:Bool):List CE:=match w with
 | 0=>(List.range R).map λr=>bP 0 C i k (Gz i k r)
 | 1=>(List.range R).map (bP (if z then 0 else 1) C i k)
 | 2=>(List.range R).map (bP (if Nat.beq i k then 0 else 2) C i k)
 | _=>(List.range R).map (bP 3 C i k) ++ [FY ((List.range C).map λj=>.ap 31 (Ej i j) (.ap 34 (.ap 33 (.v 90) (Ej k j)) (.lit 0)))]
noncomputable def eO(w R C i k:Nat)(z:Bool):Bool:=match AjE w R C i k z with
 | some (a,U)=>(match tL U a with
  | some m=>CE.beq m (KE (AhF w R C i k z))
  | none=>false)
 | none=>false
noncomputable def Bl(w R C:Nat)(z:Bool):Bool:=(List.range R).all λi=>(List.range R).all λk=>eO w R C i k z
noncomputable def BN(R C:Nat)(z:Bool):Bool:=(List.range R).all λi=>eO 1 R C i 0 z
theorem Z3:Bl 0 1 0 false=true:=by kernel_rfl
theorem dV:Bl 0 1 1 false=true:=by kernel_rfl
theorem fC:Bl 0 1 2 false=true:=by kernel_rfl
theorem cH:Bl 0 1 3 false=true:=by kernel_rfl
theorem eZ:Bl 0 1 4 false=true:=by kernel_rfl
theorem aK:Bl 0 1 5 false=true:=by kernel_rfl
theorem aO:Bl 0 2 0 false=true:=by kernel_rfl
theorem fU:Bl 0 2 1 false=true:=by kernel_rfl
theorem cZ:Bl 0 2 2 false=true:=by kernel_rfl
theorem fY:Bl 0 2 3 false=true:=by kernel_rfl
theorem bS:Bl 0 2 4 false=true:=by kernel_rfl
theorem bV:Bl 0 2 5 false=true:=by kernel_rfl
theorem eL:Bl 0 3 0 false=true:=by kernel_rfl
theorem fN:Bl 0 3 1 false=true:=by kernel_rfl
theorem aE:Bl 0 3 2 false=true:=by kernel_rfl
theorem bW:Bl 0 3 3 false=true:=by kernel_rfl
theorem cS:Bl 0 3 4 false=true:=by kernel_rfl
theorem eF:Bl 0 3 5 false=true:=by kernel_rfl
theorem ZY:Bl 0 4 0 false=true:=by kernel_rfl
theorem Z4:Bl 0 4 1 false=true:=by kernel_rfl
theorem bB:Bl 0 4 2 false=true:=by kernel_rfl
theorem dT:Bl 0 4 3 false=true:=by kernel_rfl
theorem ZJ:Bl 0 4 4 false=true:=by kernel_rfl
theorem aG:Bl 0 4 5 false=true:=by kernel_rfl
theorem Wv:BN 1 0 true=true:=by kernel_rfl
theorem WR:BN 1 0 false=true:=by kernel_rfl
theorem WC:BN 1 1 true=true:=by kernel_rfl
theorem Ur:BN 1 1 false=true:=by kernel_rfl
theorem WM:BN 1 2 true=true:=by kernel_rfl
theorem UA:BN 1 2 false=true:=by kernel_rfl
theorem Wy:BN 1 3 true=true:=by kernel_rfl
theorem Uo:BN 1 3 false=true:=by kernel_rfl
theorem Xh:BN 1 4 true=true:=by kernel_rfl
theorem VC:BN 1 4 false=true:=by kernel_rfl
theorem Wo:BN 1 5 true=true:=by kernel_rfl
theorem UX:BN 1 5 false=true:=by kernel_rfl
theorem Wa:BN 2 0 true=true:=by kernel_rfl
theorem UJ:BN 2 0 false=true:=by kernel_rfl
theorem Ve:BN 2 1 true=true:=by kernel_rfl
theorem Ua:BN 2 1 false=true:=by kernel_rfl
theorem VT:BN 2 2 true=true:=by kernel_rfl
theorem Un:BN 2 2 false=true:=by kernel_rfl
theorem V_:BN 2 3 true=true:=by kernel_rfl
theorem UU:BN 2 3 false=true:=by kernel_rfl
theorem U6:BN 2 4 true=true:=by kernel_rfl
theorem Wp:BN 2 4 false=true:=by kernel_rfl
theorem T_:BN 2 5 true=true:=by kernel_rfl
theorem Xg:BN 2 5 false=true:=by kernel_rfl
theorem Wc:BN 3 0 true=true:=by kernel_rfl
theorem Ue:BN 3 0 false=true:=by kernel_rfl
theorem U8:BN 3 1 true=true:=by kernel_rfl
theorem VS:BN 3 1 false=true:=by kernel_rfl
theorem VO:BN 3 2 true=true:=by kernel_rfl
theorem Wj:BN 3 2 false=true:=by kernel_rfl
theorem Vz:BN 3 3 true=true:=by kernel_rfl
theorem Xi:BN 3 3 false=true:=by kernel_rfl
theorem Wg:BN 3 4 true=true:=by kernel_rfl
theorem We:BN 3 4 false=true:=by kernel_rfl
theorem Ud:BN 3 5 true=true:=by kernel_rfl
theorem VY:BN 3 5 false=true:=by kernel_rfl
theorem VD:BN 4 0 true=true:=by kernel_rfl
theorem Uz:BN 4 0 false=true:=by kernel_rfl
theorem UZ:BN 4 1 true=true:=by kernel_rfl
theorem Vh:BN 4 1 false=true:=by kernel_rfl
theorem Wz:BN 4 2 true=true:=by kernel_rfl
theorem Wq:BN 4 2 false=true:=by kernel_rfl
theorem Vd:BN 4 3 true=true:=by kernel_rfl
theorem VM:BN 4 3 false=true:=by kernel_rfl
theorem Uy:BN 4 4 true=true:=by kernel_rfl
theorem UD:BN 4 4 false=true:=by kernel_rfl
theorem Vl:BN 4 5 true=true:=by kernel_rfl
theorem W4:BN 4 5 false=true:=by kernel_rfl
theorem cM:Bl 2 1 0 false=true:=by kernel_rfl
theorem cJ:Bl 2 1 1 false=true:=by kernel_rfl
theorem eN:Bl 2 1 2 false=true:=by kernel_rfl
theorem cU:Bl 2 1 3 false=true:=by kernel_rfl
theorem dM:Bl 2 1 4 false=true:=by kernel_rfl
theorem ZS:Bl 2 1 5 false=true:=by kernel_rfl
theorem dD:Bl 2 2 0 false=true:=by kernel_rfl
theorem cQ:Bl 2 2 1 false=true:=by kernel_rfl
theorem bT:Bl 2 2 2 false=true:=by kernel_rfl
theorem aF:Bl 2 2 3 false=true:=by kernel_rfl
theorem ZQ:Bl 2 2 4 false=true:=by kernel_rfl
theorem dW:Bl 2 2 5 false=true:=by kernel_rfl
theorem ZP:Bl 2 3 0 false=true:=by kernel_rfl
theorem fJ:Bl 2 3 1 false=true:=by kernel_rfl
theorem aV:Bl 2 3 2 false=true:=by kernel_rfl
theorem fI:Bl 2 3 3 false=true:=by kernel_rfl
theorem bO:Bl 2 3 4 false=true:=by kernel_rfl
theorem aJ:Bl 2 3 5 false=true:=by kernel_rfl
theorem bJ:Bl 2 4 0 false=true:=by kernel_rfl
theorem bG:Bl 2 4 1 false=true:=by kernel_rfl
theorem ZZ:Bl 2 4 2 false=true:=by kernel_rfl
theorem cK:Bl 2 4 3 false=true:=by kernel_rfl
theorem fV:Bl 2 4 4 false=true:=by kernel_rfl
theorem eV:Bl 2 4 5 false=true:=by kernel_rfl
theorem gB:Bl 3 1 0 false=true:=by kernel_rfl
theorem dJ:Bl 3 1 1 false=true:=by kernel_rfl
theorem eJ:Bl 3 1 2 false=true:=by kernel_rfl
theorem bU:Bl 3 1 3 false=true:=by kernel_rfl
theorem dG:Bl 3 1 4 false=true:=by kernel_rfl
theorem dS:Bl 3 1 5 false=true:=by kernel_rfl
theorem ZI:Bl 3 2 0 false=true:=by kernel_rfl
theorem bI:Bl 3 2 1 false=true:=by kernel_rfl
theorem cY:Bl 3 2 2 false=true:=by kernel_rfl
theorem eC:Bl 3 2 3 false=true:=by kernel_rfl
theorem dE:Bl 3 2 4 false=true:=by kernel_rfl
theorem ZD:Bl 3 2 5 false=true:=by kernel_rfl
theorem fP:Bl 3 3 0 false=true:=by kernel_rfl
theorem dY:Bl 3 3 1 false=true:=by kernel_rfl
theorem dK:Bl 3 3 2 false=true:=by kernel_rfl
theorem Z9:Bl 3 3 3 false=true:=by kernel_rfl
theorem dZ:Bl 3 3 4 false=true:=by kernel_rfl
theorem cR:Bl 3 3 5 false=true:=by kernel_rfl
theorem aB:Bl 3 4 0 false=true:=by kernel_rfl
theorem cG:Bl 3 4 1 false=true:=by kernel_rfl
theorem ZU:Bl 3 4 2 false=true:=by kernel_rfl
theorem fB:Bl 3 4 3 false=true:=by kernel_rfl
theorem bZ:Bl 3 4 4 false=true:=by kernel_rfl
theorem fT:Bl 3 4 5 false=true:=by kernel_rfl
theorem P_{w R C i k:Nat}{z:Bool}(h:Bl w R C z=true)(hi:i<R)(hk:k<R):eO w R C i k z=true:=List.all_eq_true.1 (List.all_eq_true.1 h i (List.mem_range.2 hi)) k (List.mem_range.2 hk)
theorem rI{R C i:Nat}{z:Bool}(h:BN R C z=true)(hi:i<R):eO 1 R C i 0 z=true:=List.all_eq_true.1 h i (List.mem_range.2 hi)
theorem xG{R C:Nat}(hR1:1≤R)(hR:R≤4)(hC:C≤5):Bl 0 R C false=true:=by
 match R,C,hR1,hR,hC with
 | 1,0,_,_,_=>exact Z3
 | 1,1,_,_,_=>exact dV
 | 1,2,_,_,_=>exact fC
 | 1,3,_,_,_=>exact cH
 | 1,4,_,_,_=>exact eZ
 | 1,5,_,_,_=>exact aK
 | 2,0,_,_,_=>exact aO
 | 2,1,_,_,_=>exact fU
 | 2,2,_,_,_=>exact cZ
 | 2,3,_,_,_=>exact fY
 | 2,4,_,_,_=>exact bS
 | 2,5,_,_,_=>exact bV
 | 3,0,_,_,_=>exact eL
 | 3,1,_,_,_=>exact fN
 | 3,2,_,_,_=>exact aE
 | 3,3,_,_,_=>exact bW
 | 3,4,_,_,_=>exact cS
 | 3,5,_,_,_=>exact eF
 | 4,0,_,_,_=>exact ZY
 | 4,1,_,_,_=>exact Z4
 | 4,2,_,_,_=>exact bB
 | 4,3,_,_,_=>exact dT
 | 4,4,_,_,_=>exact ZJ
 | 4,5,_,_,_=>exact aG
theorem zQ{R C:Nat}(hR1:1≤R)(hR:R≤4)(hC:C≤5):Bl 2 R C false=true:=by
 match R,C,hR1,hR,hC with
 | 1,0,_,_,_=>exact cM
 | 1,1,_,_,_=>exact cJ
 | 1,2,_,_,_=>exact eN
 | 1,3,_,_,_=>exact cU
 | 1,4,_,_,_=>exact dM
 | 1,5,_,_,_=>exact ZS
 | 2,0,_,_,_=>exact dD
 | 2,1,_,_,_=>exact cQ
 | 2,2,_,_,_=>exact bT
 | 2,3,_,_,_=>exact aF
 | 2,4,_,_,_=>exact ZQ
 | 2,5,_,_,_=>exact dW
 | 3,0,_,_,_=>exact ZP
 | 3,1,_,_,_=>exact fJ
 | 3,2,_,_,_=>exact aV
 | 3,3,_,_,_=>exact fI
 | 3,4,_,_,_=>exact bO
 | 3,5,_,_,_=>exact aJ
 | 4,0,_,_,_=>exact bJ
 | 4,1,_,_,_=>exact bG
 | 4,2,_,_,_=>exact ZZ
 | 4,3,_,_,_=>exact cK
 | 4,4,_,_,_=>exact fV
 | 4,5,_,_,_=>exact eV
theorem xX{R C:Nat}(hR1:1≤R)(hR:R≤4)(hC:C≤5):Bl 3 R C false=true:=by
 match R,C,hR1,hR,hC with
 | 1,0,_,_,_=>exact gB
 | 1,1,_,_,_=>exact dJ
 | 1,2,_,_,_=>exact eJ
 | 1,3,_,_,_=>exact bU
 | 1,4,_,_,_=>exact dG
 | 1,5,_,_,_=>exact dS
 | 2,0,_,_,_=>exact ZI
 | 2,1,_,_,_=>exact bI
 | 2,2,_,_,_=>exact cY
 | 2,3,_,_,_=>exact eC
 | 2,4,_,_,_=>exact dE
 | 2,5,_,_,_=>exact ZD
 | 3,0,_,_,_=>exact fP
 | 3,1,_,_,_=>exact dY
 | 3,2,_,_,_=>exact dK
 | 3,3,_,_,_=>exact Z9
 | 3,4,_,_,_=>exact dZ
 | 3,5,_,_,_=>exact cR
 | 4,0,_,_,_=>exact aB
 | 4,1,_,_,_=>exact cG
 | 4,2,_,_,_=>exact ZU
 | 4,3,_,_,_=>exact fB
 | 4,4,_,_,_=>exact bZ
 | 4,5,_,_,_=>exact fT
theorem wH{R C:Nat}(z:Bool)(hR1:1≤R)(hR:R≤4)(hC:C≤5):BN R C z=true:=by
 cases z with
 | false =>
  match R,C,hR1,hR,hC with
  | 1,0,_,_,_=>exact WR
  | 1,1,_,_,_=>exact Ur
  | 1,2,_,_,_=>exact UA
  | 1,3,_,_,_=>exact Uo
  | 1,4,_,_,_=>exact VC
  | 1,5,_,_,_=>exact UX
  | 2,0,_,_,_=>exact UJ
  | 2,1,_,_,_=>exact Ua
  | 2,2,_,_,_=>exact Un
  | 2,3,_,_,_=>exact UU
  | 2,4,_,_,_=>exact Wp
  | 2,5,_,_,_=>exact Xg
  | 3,0,_,_,_=>exact Ue
  | 3,1,_,_,_=>exact VS
  | 3,2,_,_,_=>exact Wj
  | 3,3,_,_,_=>exact Xi
  | 3,4,_,_,_=>exact We
  | 3,5,_,_,_=>exact VY
  | 4,0,_,_,_=>exact Uz
  | 4,1,_,_,_=>exact Vh
  | 4,2,_,_,_=>exact Wq
  | 4,3,_,_,_=>exact VM
  | 4,4,_,_,_=>exact UD
  | 4,5,_,_,_=>exact W4
 | true =>
  match R,C,hR1,hR,hC with
  | 1,0,_,_,_=>exact Wv
  | 1,1,_,_,_=>exact WC
  | 1,2,_,_,_=>exact WM
  | 1,3,_,_,_=>exact Wy
  | 1,4,_,_,_=>exact Xh
  | 1,5,_,_,_=>exact Wo
  | 2,0,_,_,_=>exact Wa
  | 2,1,_,_,_=>exact Ve
  | 2,2,_,_,_=>exact VT
  | 2,3,_,_,_=>exact V_
  | 2,4,_,_,_=>exact U6
  | 2,5,_,_,_=>exact T_
  | 3,0,_,_,_=>exact Wc
  | 3,1,_,_,_=>exact U8
  | 3,2,_,_,_=>exact VO
  | 3,3,_,_,_=>exact Vz
  | 3,4,_,_,_=>exact Wg
  | 3,5,_,_,_=>exact Ud
  | 4,0,_,_,_=>exact VD
  | 4,1,_,_,_=>exact UZ
  | 4,2,_,_,_=>exact Wz
  | 4,3,_,_,_=>exact Vd
  | 4,4,_,_,_=>exact Uy
  | 4,5,_,_,_=>exact Vl
structure ChV (V:VL) (R:Nat):Prop where
 w:V.z 13=(V.z 3).tmod 4
 i:V.z 14=(V.z 4).tmod (R:Int)
 k:V.z 15=(V.z 5).tmod (R:Int)
 c:V.q 90=((V.z 6:Int):Rat)
section
variable {V : VL} {F : Fa} {R : Nat} {ρ : Bg} {M : Nat → Prop} {w : World} {r : AV}
theorem wW{k:IntKind}{p q:Int}{T T2:TypeId}{x y:Operand}{ρv:Operand→Value}(hx:ρv x = .int k p)(hy:ρv y = .int k q)(o:Oper)(ho:o.op = .binOp .neq T x y T2):(execOp ρv o).run Tryz.prog w = .ok (.value (.bool (!decide (p=q)))) w:=by
 unfold execOp;rw [ho];have e:(p != q) = !decide (p=q):=by
  rw [bne]
  congr 1
 simp [go_sem,hx,hy,e]
theorem Ajc{i d:CE}{v:Value}(h:@Bz (Ab V) ρ M w (.ext 1 false (.ap 55 i d)) v):v = .int .i8 (zD V i):=by
 have h:@Rp (Ab V) ρ M w (.ext 1 false (.ap 55 i d)) [v]:=h;unfold Rp at h;exact (List.cons.inj h.2.1).1
theorem dU(hF:Bi V F)(hV:ChV V R){k:PK}{xs:List AV}(h:chP F R k xs=some r){ρv:Operand→Value}{ys:List Operand}(hv:@CH (Ab V) ρ M w xs (ys.map ρv)) :
  ∃ v,(∀ o:Oper,o.op=MN k ys→(execOp ρv o).run Tryz.prog w = .ok (.value v) w) ∧ @RV (Ab V) ρ M w r v:=by
 letI:=Ab V
 have two:∀{x y:AV},@CH (Ab V) ρ M w [x,y] (ys.map ρv)→∃ a b,ys=[a,b] ∧ @Bz (Ab V) ρ M w x (ρv a) ∧ @Bz (Ab V) ρ M w y (ρv b):=fun {x y} ⟨va,_,e1,h1,vb,_,e2,h2,e3⟩=>by
  have e3:_=[]:=e3;subst e3;subst e2
  match ys,e1 with
  | [a,b],e1 =>
   simp only [List.map_cons,List.map_nil,List.cons.injEq,and_true] at e1;exact ⟨a,b,rfl,e1.1 ▸ h1,e1.2 ▸ h2⟩
 have one:∀{x:AV},@CH (Ab V) ρ M w [x] (ys.map ρv)→∃ a,ys=[a] ∧ @Bz (Ab V) ρ M w x (ρv a):=fun {x} ⟨va,_,e1,h1,e3⟩=>by
  have e3:_=[]:=e3;subst e3
  match ys,e1 with
  | [a],e1 =>
   simp only [List.map_cons,List.map_nil,List.cons.injEq,and_true] at e1;exact ⟨a,rfl,e1 ▸ h1⟩
 have rv:∀{a:AV}{v:Value},@Bz (Ab V) ρ M w a v → @RV (Ab V) ρ M w a v:=λh=>@Bz.rv (Ab V) ρ M w _ _ h
 have zi:∀ j,zD V (.ap 1 (.v j) (.lit 0))=V.z j:=λj=>by simp [zD]
 have wr:∀ j,IntKind.i64.wrap (V.z j)=V.z j:=λj=>Ew (by have:=hF.sm j; omega) (by have:=hF.sm j; omega)
 unfold chP at h;split at h
 ·obtain ⟨a,rfl,hx⟩:=one hv
  split at h
  ·rename_i hc
   cases h
   rw [Bool.and_eq_true] at hc;have hx:=Xc hx;rw [zi] at hx;refine ⟨_,λo ho=>WG (Ec hc.1) (Ec hc.2) hx o ho,rv (Iv ?_)⟩;rw [wr,Int.add_zero]
  ·cases h
 ·obtain ⟨a,b,rfl,hx,hy⟩:=two hv
  split at h
  ·rename_i hc
   rw [Bool.and_eq_true] at hc;have h1:=of_decide_eq_true hc.1;have h2:=Nat.le_of_ble_eq_true hc.2;subst h1;have hx:=MD hx;rw [Int.add_zero] at hx;refine ⟨_,λo ho=>Hh hx hy (by omega) o ho,?_⟩;rw [← hV.i];split at h
   ·rename_i n hn
    cases h
    show _=_;rw [DU hF hn]
   ·cases h
    exact rv (Iv (by rw [Int.add_zero]))
  ·cases h
 ·obtain ⟨a,b,rfl,hx,hy⟩:=two hv
  split at h
  ·rename_i hc
   rw [Bool.and_eq_true] at hc;have h1:=of_decide_eq_true hc.1;have h2:=Nat.le_of_ble_eq_true hc.2;subst h1;have hx:=MD hx;rw [Int.add_zero] at hx;refine ⟨_,λo ho=>Hh hx hy (by omega) o ho,?_⟩;rw [← hV.k];split at h
   ·rename_i n hn
    cases h
    show _=_;rw [DU hF hn]
   ·cases h
    exact rv (Iv (by rw [Int.add_zero]))
  ·cases h
 ·obtain ⟨a,b,rfl,hx,hy⟩:=two hv
  obtain ⟨n,hn,rfl⟩:=Option.map_eq_some_iff.1 h;have hx:=Xc hx;rw [zi] at hx;refine ⟨_,λo ho=>Hh hx hy (by decide) o ho,?_⟩;show _=_;rw [← hV.w,DU hF hn]
 ·obtain ⟨a,b,rfl,hx,hy⟩:=two hv
  obtain ⟨c,hc,rfl⟩:=Option.map_eq_some_iff.1 h;have hx:=Ajc hx;rw [zi] at hx;refine ⟨_,λo ho=>wW hx hy o ho,?_⟩;have hz:=hF.zr _ (Bu hc);dsimp only at hz;have hq:qD V (.v 90)=((V.z 6:Int):Rat):=by simp only [qD]; exact hV.c
  rw [hq] at hz;show _=_;rw [← hz]
  congr 2
  rw [decide_eq_decide];exact ⟨λh=>by rw [h]; rfl,λh=>Rat.intCast_inj.1 (by simpa using h)⟩
 ·cases h
theorem Adu(hF:Bi V F)(hV:ChV V R):@KC (Ab V) (chX F R):=by
 obtain ⟨_,x2,x3,x4,x5,x6,x7,x8⟩:=Fh hF;refine @KC.mk (Ab V) (chX F R) (λk xs r h ρ M w ρv ys _ hv=>?_) x2 x3 x4 x5 x6 x7 x8;have h:(match chP F R k xs with
  | some r=>some r
  | none=>My F k xs)=some r:=h
 split at h
 ·rename_i r' h1
  cases h
  exact dU hF hV h1 hv
 ·exact GW hF h hv
theorem uX(hV:ChV V R):@PE.ok (Ab V) wJ:=by
 intro xs r e;refine ⟨λ_ _=>by simp [wJ,go_sem],λρ M w vs hm0 hv=>?_⟩;unfold wJ at e;dsimp only at e;split at e
 ·cases e
  obtain ⟨va,_,rfl,k1,k5⟩:=hv;have k5:_=[]:=k5;subst k5;have k1:@Rp (Ab V) ρ M w (.ext 1 false (.ap 57 (.ap 1 (.v 6) (.lit 0)) _)) [va]:=k1;unfold Rp at k1;obtain ⟨_,k1,k2,k3⟩:=k1;have k1:=(List.cons.inj k1).1;have z6:zD V (.ap 1 (.v 6) (.lit 0))=V.z 6:=by simp [zD]
  rw [z6] at k1 k2 k3;subst k1;have hq:qD V (.v 90)=((V.z 6:Int):Rat):=by simp only [qD]; exact hV.c
  refine Calls.mono (Tp w (by omega) (by omega)) λe w' ⟨v,e1,e2,e3⟩=>⟨v,e1,@Bz.rv (Ab V) ρ M w' _ _ (Fk ?_ ?_),e3⟩
  ·rw [hq]
   exact e2
  ·rw [hq]
   exact Dy (by unfold Sm; omega) (by decide)
 ·cases e
end
def Su(m:List (List Rat))(n:Rat)(w i k r j:Nat):Rat:=if w=1∧r=i then fM m i j*n else if w=2∧r=i then fM m i j+n*fM m k j else fM m r j
def Ef(m:List (List Rat))(C:Nat)(n:Rat)(w i k r:Nat):List Rat:=(List.range C).map (Su m n w i k r)
def Sn(m:List (List Rat))(C:Nat)(n:Rat)(w i k:Nat)(z:Bool):List (List Rat):=match w with
 | 0=>(List.range m.length).map λr=>Ef m C n 0 i k (Gz i k r)
 | 1=>(List.range m.length).map (Ef m C n (if z then 0 else 1) i k)
 | 2=>(List.range m.length).map (Ef m C n (if Nat.beq i k then 0 else 2) i k)
 | _=>(List.range m.length).map (Ef m C n 3 i k) ++ [(List.range C).map λj=>fM m i j - n*fM m k j]
section
variable {m : List (List Rat)} {C : Nat} {n : Rat} {w i k r : Nat}
theorem Nc{R:Nat}(hi:i<R)(hk:k<R)(hr:r<R):Gz i k r<R:=by
 unfold Gz;split
 ·exact hk
 ·split
  ·exact hi
  ·exact hr
theorem mK:Gz i k (Gz i k r)=r:=by
 have hb:∀ a b:Nat,Nat.beq a b=decide (a=b):=λa b=>by
  rw [Bool.eq_iff_iff];simp
 simp only [Gz,hb,decide_eq_true_eq]
 grind
theorem Rf(hz:∀ a,C≤a→∀ r,fM m r a=0)(j:Nat):(Ef m C n w i k r).getD j 0=Su m n w i k r j:=by
 by_cases hj:j<C
 ·unfold Ef
  rw [List.getD_eq_getElem?_getD,List.getElem?_map,List.getElem?_range hj];rfl
 ·rw [Dx (by simp [Ef]; omega)]
  unfold Su;simp only [hz j (by omega)];split
  ·grind
  ·split
   ·grind
   ·rfl
theorem AfW(h:FG C m)(a:Nat)(ha:C≤a)(r:Nat):fM m r a=0:=by
 by_cases hr:r<m.length
 ·exact Dx (by rw [(h.ok.row hr).1]; exact ha)
 ·unfold fM
  have e:m.getD r []=[]:=by
   rw [List.getD_eq_getElem?_getD,List.getElem?_eq_none (by omega)];rfl
  rw [e];rfl
theorem VZ{R:Nat}{f:Nat→List Rat}(hr:r<R)(j:Nat):fM ((List.range R).map f) r j=(f r).getD j 0:=by
 unfold fM;have e:((List.range R).map f).getD r []=f r:=by
  rw [List.getD_eq_getElem?_getD,List.getElem?_map,List.getElem?_range hr];rfl
 rw [e]
theorem Adx{l:List (List Rat)}{x:List Rat}(hr:r<l.length)(j:Nat):fM (l ++ [x]) r j=fM l r j:=by
 unfold fM;have e:(l ++ [x]).getD r []=l.getD r []:=by rw [List.getD_eq_getElem?_getD,List.getElem?_append_left hr,← List.getD_eq_getElem?_getD]
 rw [e]
theorem sA{l:List (List Rat)}{x:List Rat}(j:Nat):fM (l ++ [x]) l.length j=x.getD j 0:=by
 unfold fM;have e:(l ++ [x]).getD l.length []=x:=by
  rw [List.getD_eq_getElem?_getD,List.getElem?_append_right (Nat.le_refl _)];simp
 rw [e]
theorem Aiy(h:FG C m)(hi:i<m.length)(hk:k<m.length){z:Bool}(hz:z=decide (n=0)):Sp m.length (fM m) (Sn m C n w i k z).length (fM (Sn m C n w i k z))∧Sp (Sn m C n w i k z).length (fM (Sn m C n w i k z)) m.length (fM m):=by
 have ho:=AfW h;have one:∀ w',(w'=1→n≠0)→(w'=2→i≠k)→w'≠3→Sp m.length (fM m) m.length (fM ((List.range m.length).map (Ef m C n w' i k)))∧Sp m.length (fM ((List.range m.length).map (Ef m C n w' i k))) m.length (fM m):=λw' h1 h2 h3=>by
  have at_:∀ r,r<m.length→∀ j,fM ((List.range m.length).map (Ef m C n w' i k)) r j=Su m n w' i k r j:=λr hr j=>by rw [VZ hr,Rf ho]
  generalize (List.range m.length).map (Ef m C n w' i k)=m' at at_;refine ⟨λr hr=>?_,λr hr=>?_⟩
  ·by_cases e1:w'=1∧r=i
   ·have hn:=h1 e1.1
    refine ((In.row (R:=fM m') hr).smul (1 / n)).congr λj=>?_
    rw [at_ r hr];unfold Su;rw [if_pos e1,e1.2]
    grind
   ·by_cases e2:w'=2∧r=i
    ·have hik:=h2 e2.1
     refine ((In.row (R:=fM m') hr).add ((In.row (R:=fM m') hk).smul (-n))).congr λj=>?_
     rw [at_ r hr,at_ k hk];unfold Su;rw [if_neg e1,if_pos e2,if_neg (by omega),if_neg (by omega),e2.2]
     grind
    ·refine (In.row (R:=fM m') hr).congr λj=>?_
     rw [at_ r hr];unfold Su;rw [if_neg e1,if_neg e2]
  ·by_cases e1:w'=1∧r=i
   ·refine ((In.row (R:=fM m) hi).smul n).congr λj=>?_
    rw [at_ r hr];unfold Su;rw [if_pos e1,Rat.mul_comm]
   ·by_cases e2:w'=2∧r=i
    ·refine ((In.row (R:=fM m) hi).add ((In.row (R:=fM m) hk).smul n)).congr λj=>?_
     rw [at_ r hr];unfold Su;rw [if_neg e1,if_pos e2]
    ·refine (In.row (R:=fM m) hr).congr λj=>?_
     rw [at_ r hr];unfold Su;rw [if_neg e1,if_neg e2]
 have hl:∀ f:Nat→List Rat,((List.range m.length).map f).length=m.length:=λf=>by simp
 match w with
 | 0 =>
  show Sp m.length (fM m) ((List.range m.length).map _).length _∧Sp ((List.range m.length).map _).length _ m.length (fM m);rw [hl];have at_:∀ r,r<m.length→∀ j,fM ((List.range m.length).map λr=>Ef m C n 0 i k (Gz i k r)) r j=fM m (Gz i k r) j:=λr hr j=>by
   rw [VZ hr,Rf ho];unfold Su;rw [if_neg (by omega),if_neg (by omega)]
  refine ⟨λr hr=>?_,λr hr=>?_⟩
  ·refine (In.row (i:=Gz i k r) (Nc hi hk hr)).congr λj=>?_
   show fM m r j=fM ((List.range m.length).map λr=>Ef m C n 0 i k (Gz i k r)) (Gz i k r) j;rw [at_ _ (Nc hi hk hr),mK]
  ·exact (In.row (R:=fM m) (Nc hi hk hr)).congr λj=>at_ r hr j
 | 1 =>
  show Sp m.length (fM m) ((List.range m.length).map _).length _∧Sp ((List.range m.length).map _).length _ m.length (fM m);rw [hl];refine one _ (λe=>?_) (λe=>?_) ?_
  ·split at e
   ·cases e
   ·rename_i hz1
    rw [hz] at hz1;simpa using hz1
  ·split at e <;> cases e
  ·split <;> omega
 | 2 =>
  show Sp m.length (fM m) ((List.range m.length).map _).length _∧Sp ((List.range m.length).map _).length _ m.length (fM m);rw [hl];refine one _ (λe=>?_) (λe=>?_) ?_
  ·split at e <;> cases e
  ·split at e
   ·cases e
   ·rename_i hb
    exact λq=>hb (by rw [q]; simp)
  ·split <;> omega
 | w+3 =>
  show Sp m.length (fM m) ((List.range m.length).map (Ef m C n 3 i k) ++ [_]).length _∧Sp ((List.range m.length).map (Ef m C n 3 i k) ++ [_]).length _ m.length (fM m);have at_:∀ r,r<m.length→∀ j,fM ((List.range m.length).map (Ef m C n 3 i k) ++ [(List.range C).map λj=>fM m i j - n*fM m k j]) r j=fM m r j:=λr hr j=>by
   rw [Adx (by rw [hl]; exact hr),VZ hr,Rf ho];unfold Su;rw [if_neg (by omega),if_neg (by omega)]
  refine ⟨λr hr=>?_,λr hr=>?_⟩
  ·exact (In.row (i:=r) (by simp; omega)).congr λj=>(at_ r hr j).symm
  ·by_cases hr2:r<m.length
   ·exact (In.row (R:=fM m) hr2).congr λj=>at_ r hr2 j
   ·have hr3:r=((List.range m.length).map (Ef m C n 3 i k)).length:=by
     simp at hr ⊢;omega
    refine ((In.row (R:=fM m) hi).add ((In.row (R:=fM m) hk).smul (-n))).congr λj=>?_
    show fM ((List.range m.length).map (Ef m C n 3 i k) ++ [(List.range C).map λj=>fM m i j - n*fM m k j]) r j=_;rw [hr3,sA]
    by_cases hj:j<C
    ·rw [List.getD_eq_getElem?_getD,List.getElem?_map,List.getElem?_range hj]
     show fM m i j - n*fM m k j=_
     grind
    ·rw [Dx (by simp; omega),ho j (by omega),ho j (by omega)]
     grind
theorem pQ(h:FG C m){y:Int}(hn:n=(y:Rat))(hy:Sm y 1)(w i k r j:Nat):∃ z:Int,Su m n w i k r j*((2:Int):Rat)=(z:Rat)∧Sm z 3:=by
 have at_:∀ r j,∃ z:Int,fM m r j*((2:Int):Rat)=(z:Rat)∧Sm z 1:=λr j=>by
  by_cases hr:r<m.length
  ·exact h.at_ hr j
  ·refine ⟨0,?_,by unfold Sm; decide⟩
   unfold fM;have e:m.getD r []=[]:=by
    rw [List.getD_eq_getElem?_getD,List.getElem?_eq_none (by omega)];rfl
   rw [e];simp
 obtain ⟨a,a1,a2⟩:=at_ i j;obtain ⟨b,b1,b2⟩:=at_ k j;obtain ⟨c,c1,c2⟩:=at_ r j;unfold Su;split
 ·refine ⟨a*y,?_,(a2.mul hy).mono (by decide)⟩
  rw [Rat.intCast_mul,← a1,hn]
  grind
 ·split
  ·refine ⟨a+y*b,?_,(a2.add (hy.mul b2)).mono (by decide)⟩
   rw [Rat.intCast_add,Rat.intCast_mul,← a1,← b1,hn]
   grind
  ·exact ⟨c,c1,c2.mono (by decide)⟩
theorem Aht(h:FG C m){y:Int}(hn:n=(y:Rat))(hy:Sm y 1)(z:Bool):CL C (Sn m C n w i k z):=by
 have row:∀ w' r,(Ef m C n w' i k r).length=C∧∃ D s,Ei D s (Ef m C n w' i k r)∧s≤300∧1≤s:=λw' r=>by
  refine ⟨by simp [Ef],2,3,⟨by decide,by unfold Sm; decide,λx hx=>?_⟩,by decide,by decide⟩;obtain ⟨j,_,rfl⟩:=List.mem_map.1 hx;exact pQ h hn hy _ _ _ _ _
 have last:((List.range C).map λj=>fM m i j - n*fM m k j).length=C∧∃ D s,Ei D s ((List.range C).map λj=>fM m i j - n*fM m k j)∧s≤300∧1≤s:=by
  refine ⟨by simp,2,3,⟨by decide,by unfold Sm; decide,λx hx=>?_⟩,by decide,by decide⟩;obtain ⟨j,_,rfl⟩:=List.mem_map.1 hx;obtain ⟨c,c1,c2⟩:=pQ (n:=-n) h (y:=-y) (by rw [hn,Rat.intCast_neg]) hy.neg 2 i k i j;refine ⟨c,?_,c2⟩;rw [← c1];unfold Su;rw [if_neg (by omega),if_pos ⟨rfl,rfl⟩]
  grind
 have all:∀ l∈Sn m C n w i k z,l.length=C∧∃ D s,Ei D s l∧s≤300∧1≤s:=λl hl=>by
  unfold Sn at hl;split at hl
  ·obtain ⟨r,_,rfl⟩:=List.mem_map.1 hl
   exact row _ _
  ·obtain ⟨r,_,rfl⟩:=List.mem_map.1 hl
   exact row _ _
  ·obtain ⟨r,_,rfl⟩:=List.mem_map.1 hl
   exact row _ _
  ·rcases List.mem_append.1 hl with hl | hl
   ·obtain ⟨r,_,rfl⟩:=List.mem_map.1 hl
    exact row _ _
   ·rw [List.mem_singleton] at hl
    subst hl;exact last
 exact ⟨λl hl=>(all l hl).1,λl hl=>(all l hl).2⟩
theorem AcT{z:Bool}:(Sn m C n w i k z).length=if w<3 then m.length else m.length+1:=by
 match w with
 | 0=>simp [Sn]
 | 1=>simp [Sn]
 | 2=>simp [Sn]
 | w+3=>simp [Sn]
end
def BT(m:List (List Rat))(zw zi zk zc:Int):VL:=⟨λj=>match j with
 | 3=>zw
 | 4=>zi
 | 5=>zk
 | 6=>zc
 | 13=>zw.tmod 4
 | 14=>zi.tmod (m.length:Int)
 | 15=>zk.tmod (m.length:Int)
 | _=>0,λk=>m.getD k [],λ_=>((zc:Int):Rat),λ_=>[]⟩
def T6(m:List (List Rat))(C:Nat)(zw zi zk zc:Int):List (List Rat):=if m.length=0 then m else Sn m C ((zc:Int):Rat) (zw.toNat % 4) (zi.toNat % m.length) (zk.toNat % m.length) (decide (((zc:Int):Rat)=0))
section
variable {m : List (List Rat)} {C : Nat} {zw zi zk zc : Int}
theorem O_{k j:Nat}:qD (BT m zw zi zk zc) (Ej k j)=fM m k j:=by
 have:zD (BT m zw zi zk zc) (.i 0 (j:Int))=(j:Int):=by
  show (0:Int)+(j:Int)=_;omega
 simp only [Ej,qD];rw [this];simp only [lD,BT];rfl
theorem Xn:qD (BT m zw zi zk zc) (.v 90)=((zc:Int):Rat):=by simp only [qD,BT]
theorem X_(w i k r:Nat):lD (BT m zw zi zk zc) (bP w C i k r)=Ef m C ((zc:Int):Rat) w i k r:=by
 have hb:∀ a b:Nat,Nat.beq a b=decide (a=b):=λa b=>by
  rw [Bool.eq_iff_iff];simp
 unfold bP Ef;rw [Gs,List.map_map];refine List.map_congr_left λj _=>?_
 show qD _ (AcE w i k r j)=_;unfold AcE Su;simp only [hb,Bool.and_eq_true,decide_eq_true_eq];split
 ·have e:qD (BT m zw zi zk zc) (.ap 33 (Ej i j) (.v 90))=qD (BT m zw zi zk zc) (Ej i j)*qD (BT m zw zi zk zc) (.v 90):=by simp only [qD]
  rw [e,O_,Xn]
 ·split
  ·have e:qD (BT m zw zi zk zc) (.ap 31 (Ej i j) (.ap 33 (.v 90) (Ej k j)))=qD (BT m zw zi zk zc) (Ej i j)+qD (BT m zw zi zk zc) (.v 90)*qD (BT m zw zi zk zc) (Ej k j):=by simp only [qD]
   rw [e,O_,O_,Xn]
  ·exact O_
theorem AhS{w i k:Nat}{z:Bool}(hw:w<4):mD (BT m zw zi zk zc) (KE (AhF w m.length C i k z))=Sn m C ((zc:Int):Rat) w i k z:=by
 rw [QH]
 match w,hw with
 | 0,_ =>
  show ((List.range m.length).map _).map _=(List.range m.length).map _;rw [List.map_map];exact List.map_congr_left λr _=>X_ _ _ _ _
 | 1,_ =>
  show ((List.range m.length).map _).map _=(List.range m.length).map _;rw [List.map_map];exact List.map_congr_left λr _=>X_ _ _ _ _
 | 2,_ =>
  show ((List.range m.length).map _).map _=(List.range m.length).map _;rw [List.map_map];exact List.map_congr_left λr _=>X_ _ _ _ _
 | 3,_ =>
  show ((List.range m.length).map _ ++ [_]).map _=(List.range m.length).map _ ++ [_];rw [List.map_append,List.map_map]
  congr 1
  ·exact List.map_congr_left λr _=>X_ _ _ _ _
  ·rw [List.map_cons,List.map_nil,Gs,List.map_map]
   congr 1
   refine List.map_congr_left λj _=>?_
   show qD _ (.ap 31 (Ej i j) (.ap 34 (.ap 33 (.v 90) (Ej k j)) (.lit 0)))=_;have e:qD (BT m zw zi zk zc) (.ap 31 (Ej i j) (.ap 34 (.ap 33 (.v 90) (Ej k j)) (.lit 0)))=qD (BT m zw zi zk zc) (Ej i j) + -(qD (BT m zw zi zk zc) (.v 90)*qD (BT m zw zi zk zc) (Ej k j)):=by simp only [qD]
   rw [e,O_,O_,Xn]
   grind
theorem Ai6(hR:m.length≤9):mD (BT m zw zi zk zc) (gH 0 m.length)=m:=by
 rw [Yx];apply List.ext_getElem
 ·simp
 ·intro i h1 h2
  simp only [List.getElem_map,List.getElem_range',Nat.zero_add,Nat.one_mul];simp only [BT];rw [List.getD_eq_getElem?_getD,List.getElem?_eq_getElem h2];rfl
def AgL:Fa:=⟨[],[],[],[],[],[(.lit 3,0)],[]⟩
noncomputable def AiD:=BR AC (Dd (T8 AgL [] N6) AC 200) 33 [aM (.lit 0),.agg VB] [] 16 0
noncomputable def Abc:Bool:=match AiD with
 | some (a,U)=>(match tL U a with
  | some m=>CE.beq m (.lit 0)
  | none=>false)
 | none=>false
theorem zT:Abc=true:=by kernel_rfl
theorem AeY{n:Rat}{w i k k' r:Nat}(hw:w≠2):Ef m C n w i k r=Ef m C n w i k' r:=by
 unfold Ef;refine List.map_congr_left λj _=>?_
 unfold Su;rw [if_neg (c:=w=2∧r=i) (λh=>hw h.1),if_neg (c:=w=2∧r=i) (λh=>hw h.1)]
theorem F6{z:Int}(h:0≤z)(n:Nat):z.tmod (n:Int)=((z.toNat % n:Nat):Int):=by
 obtain ⟨a,rfl⟩:=Int.eq_ofNat_of_zero_le h;rfl
theorem qZ(h:FG C m)(hR:m.length≤4)(hC:C≤5)(h3:0≤zw∧zw≤255)(h4:0≤zi∧zi≤255)(h5:0≤zk∧zk≤255)(h6 : -128≤zc∧zc≤127){M:Nat→Prop}{w:World}{v vc:Value}(hm0:∀ b,M b→b<w.heap.size)(hv:(XP.mat m).p M w [v])(hvc:vc = .agg #[.int .u8 zw,.int .u8 zi,.int .u8 zk,.int .i8 zc]) :
  Calls Tryz.prog 33 #[v,vc] w λe w'=>∃ u,e = .returned u∧(XP.mat (T6 m C zw zi zk zc)).p M w' [u]∧Below w.heap.size w w':=by
 subst hvc;generalize hn:((zc:Int):Rat)=n;have hV:ChV (BT m zw zi zk zc) m.length:=⟨rfl,rfl,rfl,rfl⟩;have bd:∀ k,k<m.length→∀ x∈m.getD k [],AR x 1:=λk hk x hx=>by
  have hm:m.getD k []∈m:=by
   rw [List.getD_eq_getElem?_getD,List.getElem?_eq_getElem hk];exact List.getElem_mem hk
  exact (⟨by decide,by unfold Sm; decide,h.el _ hm⟩:Ei 2 1 (m.getD k [])).rsm hx
 have hF:∀(ww i k:Nat)(z:Bool),(m.length≠0→zw.toNat % 4=ww∧zi.toNat % m.length=i∧(ww≠1→zk.toNat % m.length=k)∧(ww=1→decide (n=0)=z))→(m.length=0→ww=0∧i=0∧k=0)→Bi (BT m zw zi zk zc) (if m.length=0 then ⟨[],[],[],[],[],[(.lit 3,0)],[]⟩ else eW ww m.length C i k z):=λww i k z hq h0=>by
  have sm:∀ j,-1152921504606846976≤(BT m zw zi zk zc).z j∧(BT m zw zi zk zc).z j≤1152921504606846976:=λj=>by
   have e4:=F6 h3.1 4;have e4:zw.tmod 4=((zw.toNat % 4:Nat):Int):=e4;have e5:=F6 h4.1 m.length;have e6:=F6 h5.1 m.length;have q1:=Nat.mod_le zi.toNat m.length;have q2:=Nat.mod_le zk.toNat m.length;simp only [BT];split <;> omega
  split
  ·exact ⟨rfl,sm,λx hx=>(by cases hx),λx hx=>(by cases hx),λx hx=>(by cases hx),λx hx=>(by cases hx),λx hx=>(by cases hx),λx hx=>by
    rw [List.mem_singleton] at hx;subst hx;intro y hy;simp [rD] at hy,λx hx=>(by cases hx)⟩
  ·rename_i hne
   obtain ⟨q1,q2,q3,q4⟩:=hq hne;have z13:(BT m zw zi zk zc).z 13=(ww:Int):=by
    show zw.tmod 4=_;rw [← q1];exact F6 h3.1 4
   have z14:(BT m zw zi zk zc).z 14=(i:Int):=by
    show zi.tmod (m.length:Int)=_;rw [← q2];exact F6 h4.1 _
   have z15:ww≠1→(BT m zw zi zk zc).z 15=(k:Int):=λhw=>by
    show zk.tmod (m.length:Int)=_;rw [← q3 hw];exact F6 h5.1 _
   have z0:(BT m zw zi zk zc).z 0=0:=rfl;refine ⟨rfl,sm,λx hx=>?_,λx hx=>?_,λx hx=>?_,λx hx=>?_,λx hx=>(by cases hx),λx hx=>?_,λx hx=>(by cases hx)⟩
   ·rcases List.mem_append.1 hx with hx | hx
    ·simp only [pin,List.cons_append,List.nil_append,List.mem_cons,List.not_mem_nil,or_false] at hx
     rcases hx with rfl | rfl | rfl | rfl
     all_goals dsimp only; omega
    ·split at hx
     ·cases hx
     ·rename_i hw
      have:=z15 hw;simp only [pin,List.mem_cons,List.not_mem_nil,or_false] at hx
      rcases hx with rfl | rfl
      all_goals dsimp only; omega
   ·obtain ⟨j,hj,rfl⟩:=List.mem_map.1 hx
    have hj:=List.mem_range.1 hj;show ((lD (BT m zw zi zk zc) (.v j)).length:Int)=0+C;simp only [lD,BT];rw [(h.ok.row hj).1];omega
   ·obtain ⟨j,hj,rfl⟩:=List.mem_map.1 hx
    have hj:=List.mem_range.1 hj;intro y hy;simp only [lD,BT] at hy;exact bd j hj y hy
   ·simp only [eW] at hx
    split at hx
    ·rename_i hw
     rw [List.mem_singleton] at hx;subst hx;dsimp only;rw [Xn,hn];exact q4 hw
    ·cases hx
   ·rw [show (eW ww m.length C i k z).full=[(.lit 3,0)] from rfl,List.mem_singleton] at hx
    subst hx;intro y hy;simp [rD] at hy
 have hvs:@CH (Ab (BT m zw zi zk zc)) BQ M w [aM (gH 0 m.length),.agg VB] [v,.agg #[.int .u8 zw,.int .u8 zi,.int .u8 zk,.int .i8 zc]]:=by
  refine ⟨v,_,rfl,JR (by rw [Ai6 (by omega)]; exact hv),_,_,rfl,⟨_,rfl,?_⟩,rfl⟩
  letI:=Ab (BT m zw zi zk zc)
  have z:∀ j,zD (BT m zw zi zk zc) (.i j 0)=(BT m zw zi zk zc).z j:=λj=>by simp [zD]
  refine AQ.app (l:=[_]) (cs:=[_]) (AQ.one ?_) (AQ.app (l:=[_]) (cs:=[_]) (AQ.one ?_) (AQ.app (l:=[_]) (cs:=[_]) (AQ.one ?_) (AQ.one ?_)))
  ·unfold Rp
   refine ⟨rfl,?_⟩;show (XP.ik .u8 (zD (BT m zw zi zk zc) (.i 3 0))).p _ w _;rw [z];exact rfl
  ·unfold Rp
   refine ⟨rfl,?_⟩;show (XP.ik .u8 (zD (BT m zw zi zk zc) (.i 4 0))).p _ w _;rw [z];exact rfl
  ·unfold Rp
   refine ⟨rfl,?_⟩;show (XP.ik .u8 (zD (BT m zw zi zk zc) (.i 5 0))).p _ w _;rw [z];exact rfl
  ·unfold Rp
   refine ⟨rfl,?_⟩;show (XP.i8 (zD (BT m zw zi zk zc) (.i 6 0))).p _ w _;rw [z];exact ⟨rfl,h6.1,h6.2⟩
 have fin:∀(ww i k:Nat)(z:Bool)(F:Fa),Bi (BT m zw zi zk zc) F→F=eW ww m.length C i k z→ww<4→eO ww m.length C i k z=true→T6 m C zw zi zk zc=Sn m C n ww i k z→Calls Tryz.prog 33 #[v,.agg #[.int .u8 zw,.int .u8 zi,.int .u8 zk,.int .i8 zc]] w λe w'=>∃ u,e = .returned u∧(XP.mat (T6 m C zw zi zk zc)).p M w' [u]∧Below w.heap.size w w':=λww i k z F hF he hww hrun hres=>by
  subst he;have hT:@EO (Ab (BT m zw zi zk zc)) (AgS ww m.length C i k z):=@EO.mk (Ab _) _ (El hF λe he=>by
   rw [List.mem_singleton] at he;subst he;exact uX hV) (Adu hF hV) (@DM (Ab _))
  unfold eO at hrun;split at hrun
  ·rename_i a U hw
   split at hrun
   ·rename_i mm hk
    refine Calls.mono (XK (vs:=[v,.agg #[.int .u8 zw,.int .u8 zi,.int .u8 zk,.int .i8 zc]]) hT hw hm0 hvs) λe w' ⟨u,ρ',M',e1,e2,e3,e4⟩=>⟨u,e1,?_,e4⟩
    have ha:@Bz (Ab (BT m zw zi zk zc)) ρ' M' w' a u:=by
     unfold tL at hk;split at hk
     ·exact e2
     ·cases hk
    have:=Kz (M:=M) hF hm0 e3 hk ha;have this:@Rp (Ab (BT m zw zi zk zc)) BQ M w' (aM mm) [u]:=this;unfold Rp at this;have h2:(XP.mat (mD (BT m zw zi zk zc) mm)).p M w' [u]:=this.2;rw [CE.beq_eq hrun,AhS hww,hn] at h2;rw [hres];exact h2
   ·cases hrun
  ·cases hrun
 by_cases h0:m.length=0
 ·have hm:=List.length_eq_zero_iff.1 h0
  have hF0:=hF 0 0 0 false (λq=>absurd h0 q) λ_=>⟨rfl,rfl,rfl⟩
  rw [if_pos h0] at hF0;have hrun:=zT;unfold Abc at hrun;split at hrun
  ·rename_i a U hw
   split at hrun
   ·rename_i mm hk
    rw [h0] at hvs;refine Calls.mono (AdL (vs:=[v,.agg #[.int .u8 zw,.int .u8 zi,.int .u8 zk,.int .i8 zc]]) hF0 (λ_ h=>by cases h) (@DM (Ab _)) hw hm0 hvs) λe w' ⟨u,ρ',M',e1,e2,e3,e4⟩=>⟨u,e1,?_,e4⟩
    have ha:@Bz (Ab (BT m zw zi zk zc)) ρ' M' w' a u:=by
     unfold tL at hk;split at hk
     ·exact e2
     ·cases hk
    have:=Kz (M:=M) hF0 hm0 e3 hk ha;have this:@Rp (Ab (BT m zw zi zk zc)) BQ M w' (aM mm) [u]:=this;unfold Rp at this;have h2:(XP.mat (mD (BT m zw zi zk zc) mm)).p M w' [u]:=this.2;rw [CE.beq_eq hrun] at h2;unfold T6;rw [if_pos h0,hm];simpa only [mD] using h2
   ·cases hrun
  ·cases hrun
 ·have hR1:1≤m.length:=by omega
  have hi:zi.toNat % m.length<m.length:=Nat.mod_lt _ (by omega);have hk:zk.toNat % m.length<m.length:=Nat.mod_lt _ (by omega);have hw:zw.toNat % 4<4:=Nat.mod_lt _ (by decide);have hres:T6 m C zw zi zk zc=Sn m C n (zw.toNat % 4) (zi.toNat % m.length) (zk.toNat % m.length) (decide (n=0)):=by
   unfold T6;rw [if_neg h0,hn]
  by_cases h1:zw.toNat % 4=1
  ·have:=hF 1 (zi.toNat % m.length) 0 (decide (n=0)) (λ_=>⟨h1,rfl,λq=>absurd rfl q,λ_=>rfl⟩) λq=>absurd q h0
   rw [if_neg h0] at this;refine fin 1 _ 0 _ _ this rfl (by decide) (rI (wH _ hR1 hR hC) hi) ?_;rw [hres,h1];unfold Sn;exact List.map_congr_left λr _=>AeY (by split <;> decide)
  ·have:=hF (zw.toNat % 4) (zi.toNat % m.length) (zk.toNat % m.length) false (λ_=>⟨rfl,rfl,λ_=>rfl,λq=>absurd q h1⟩) λq=>absurd q h0
   rw [if_neg h0] at this;refine fin _ _ _ _ _ this rfl hw ?_ ?_
   ·generalize zw.toNat % 4=ww at hw h1
    match ww,hw,h1 with
    | 0,_,_=>exact P_ (xG hR1 hR hC) hi hk
    | 2,_,_=>exact P_ (zQ hR1 hR hC) hi hk
    | 3,_,_=>exact P_ (xX hR1 hR hC) hi hk
   ·rw [hres]
    generalize zw.toNat % 4=ww at hw h1
    match ww,hw,h1 with
    | 0,_,_=>rfl
    | 2,_,_=>rfl
    | 3,_,_=>rfl
end
def OvE(E:Int)(b:Nat)(x:Rat):Prop:=∃ z:Int,x*(E:Rat)=(z:Rat)∧Sm z b
theorem Acp{E:Int}{b:Nat}{f:Nat→Rat}:∀{n:Nat},(∀ k,k<n→OvE E b (f k))→OvE E (b+n) (sg n f)
 | 0,_=>⟨0,by simp [sg],by unfold Sm; exact Nat.pow_pos (by decide)⟩
 | n+1,h=>by
  obtain ⟨z,h1,h2⟩:=Acp (n:=n) λk hk=>h k (by omega)
  obtain ⟨y,h3,h4⟩:=h n (by omega);refine ⟨z+y,?_,(h2.add h4).mono (by omega)⟩;unfold sg;rw [Rat.add_mul,h1,h3,Rat.intCast_add]
section
variable {t C S : Nat} {R F : Nat → Nat → Rat} {p : Nat → Nat}
theorem AbU(hR:∀ i,i<t→∀ j,OvE 1 63 (R i j))(hp:∀ i,i<t→R i (p i)≠0)(hF:∀ i,i<t→∀ j,F i j=aD t R F p i j)(ht:t≤4):∀ m i,t=i+m→∃ E:Int,E≠0∧Sm E (63*m+1)∧∀ k,i≤k→k<t→∀ j,OvE E (70*m) (F k j)
 | 0,i,h=>⟨1,by decide,by unfold Sm; decide,λk h1 h2=>by omega⟩
 | m+1,i,h=>by
  obtain ⟨E,e0,e1,e2⟩:=AbU hR hp hF ht m (i+1) (by omega);obtain ⟨P,q1,q2⟩:=hR i (by omega) (p i);have hP:R i (p i)=(P:Rat):=by
   rw [← q1];simp
  have hP0:P≠0:=λe=>hp i (by omega) (by rw [hP,e]; rfl)
  have hPr:(P:Rat)≠0:=λe=>hP0 (Rat.intCast_inj.1 (by simpa using e))
  refine ⟨P*E,Int.mul_ne_zero hP0 e0,(q2.mul e1).mono (by omega),λk h1 h2 j=>?_⟩
  by_cases hk:k=i
  ·subst hk
   obtain ⟨r,r1,r2⟩:=hR k (by omega) j;have hr:R k j=(r:Rat):=by
    rw [← r1];simp
   have hs:OvE E (63+70*m+t) (sg t λl=>if k<l then R k (p l)*F l j else 0):=Acp λl hl=>by
    split
    ·rename_i hkl
     obtain ⟨z,z1,z2⟩:=e2 l (by omega) hl j;obtain ⟨y,y1,y2⟩:=hR k (by omega) (p l);have hy:R k (p l)=(y:Rat):=by
      rw [← y1];simp
     refine ⟨y*z,?_,(y2.mul z2).mono (by omega)⟩;rw [hy,Rat.intCast_mul,← z1]
     grind
    ·exact ⟨0,by simp,by unfold Sm; exact Nat.pow_pos (by decide)⟩
   obtain ⟨z,z1,z2⟩:=hs;refine ⟨r*E - z,?_,((r2.mul e1).sub z2).mono (by omega)⟩;rw [hF k (by omega)];unfold aD;rw [hP,hr,Rat.intCast_sub,Rat.intCast_mul,Rat.intCast_mul,← z1]
   grind
  ·obtain ⟨z,z1,z2⟩:=e2 k (by omega) h2 j
   refine ⟨P*z,?_,(q2.mul z2).mono (by omega)⟩;rw [Rat.intCast_mul,Rat.intCast_mul,← z1]
   grind
end
section
variable {m : List (List Rat)} {C : Nat}
theorem AcZ:∀ C,C≤5→K6 1 C≤63
 | 0,_=>by unfold K6; omega
 | 1,_=>by simp only [K6]; omega
 | 2,_=>by simp only [K6]; omega
 | 3,_=>by simp only [K6]; omega
 | 4,_=>by simp only [K6]; omega
 | 5,_=>by simp only [K6]; omega
theorem AgK(h:FG C m)(hC:C≤5):∀ k,k<m.length→Dr 63 (zM m C k):=λk hk=>by
 have hlen:(Bw m).length=m.length:=by simp [Bw]
 have hL:∀ k,k<(Bw m).length→JL C 1 1 (Cc (Bw m) k):=λk hk=>by
  rw [hlen] at hk;have hm:m.getD k []∈m:=by
   rw [List.getD_eq_getElem?_getD,List.getElem?_eq_getElem hk];exact List.getElem_mem hk
  have hf:Ei 2 1 (m.getD k []):=⟨by decide,by unfold Sm; decide,h.el _ hm⟩;rw [Hk hk];exact ⟨by show (Cj _).length=C; rw [IX]; exact h.len _ hm,hf.whole,Fv hf _⟩
 have ok:=Jm (L0:=Bw m) (C:=C) (s:=1) (B:=1) (by decide) (by decide) hL C (by omega);rw [hlen] at ok;exact (ok.ln k hk).ints.mono (AcZ C hC)
theorem Aat(h:FG C m)(hC:C≤5)(ht4:A9 m C≤4):∃ E:Int,E≠0∧Sm E 280∧∀ i,i<A9 m C→∀ x∈IZ m C i,OvE E 280 x:=by
 have hO:=h.ok;have ha:=SO hO (by omega:C≤6);have hr:=(Ed hO (by omega:C≤6)).1;have hF:∀ i,i<A9 m C→∀ j,(λi j=>(IZ m C i).getD j 0) i j=aD (A9 m C) (λi j=>(zM m C i).getD j 0) (λi j=>(IZ m C i).getD j 0) (U7 m C) i j:=λi hi j =>
  mV (C:=C) (λi hi=>ha.len i (by omega)) (ha.nz _ (by omega)) ha.nz hi j
 have hR:∀ i,i<A9 m C→∀ j,OvE 1 63 ((zM m C i).getD j 0):=λi hi j=>by
  obtain ⟨z,h1,h2⟩:=(AgK h hC i (by omega)).at_ j;exact ⟨z,by rw [h1]; simp,h2⟩
 obtain ⟨E,e0,e1,e2⟩:=AbU hR ha.nz hF ht4 (A9 m C) 0 (by omega);refine ⟨E,e0,e1.mono (by omega),λi hi x hx=>?_⟩;obtain ⟨j,hj,rfl⟩:=List.getElem_of_mem hx;obtain ⟨z,z1,z2⟩:=e2 i (Nat.zero_le _) hi j;rw [List.getD_eq_getElem?_getD,List.getElem?_eq_getElem hj] at z1;exact ⟨z,z1,z2.mono (by omega)⟩
theorem XU(h:FG C m)(hC:C≤5)(ht4:A9 m C≤4):CL C (BO m C):=by
 have hO:=h.ok;obtain ⟨E,e0,e1,e2⟩:=Aat h hC ht4;refine ⟨λl hl=>?_,λl hl=>?_⟩
 ·obtain ⟨i,hi,rfl⟩:=List.mem_map.1 hl
  exact F8 hO (by omega) (List.mem_range.1 hi)
 ·obtain ⟨i,hi,rfl⟩:=List.mem_map.1 hl
  exact ⟨E,280,⟨e0,e1,λx hx=>e2 i (List.mem_range.1 hi) x hx⟩,by decide,by decide⟩
theorem Oh{m':List (List Rat)}(h:CL C m)(h':CL C m')(hC:C≤6)(s:Sp m.length (fM m) m'.length (fM m'))(s':Sp m'.length (fM m') m.length (fM m)):A9 m C=A9 m' C∧BO m C=BO m' C∧MR m C=MR m' C:=by
 obtain ⟨r1,a1,b1,_⟩:=EZ h hC;obtain ⟨r2,a2,b2,_⟩:=EZ h' hC;obtain ⟨e1,e2,e3⟩:=Um r1 r2 ((b1.trans s).trans a2) ((b2.trans s').trans a1);refine ⟨e1,?_,?_⟩
 ·apply List.ext_getElem
  ·rw [BU,BU,e1]
  ·intro i i1 i2
   rw [BU] at i1 i2;have q1:=Cz (m:=m) (C:=C) i1;have q2:=Cz (m:=m') (C:=C) i2;rw [List.getD_eq_getElem?_getD,List.getElem?_eq_getElem (by rw [BU]; exact i1)] at q1;rw [List.getD_eq_getElem?_getD,List.getElem?_eq_getElem (by rw [BU]; exact i2)] at q2;have q1:(BO m C)[i]=IZ m C i:=q1;have q2:(BO m' C)[i]=IZ m' C i:=q2;rw [q1,q2];apply List.ext_getElem
   ·rw [F8 h hC i1,F8 h' hC i2]
   ·intro j j1 j2
    have:=e3 i i1 j;unfold fM at this;rw [Cz i1,Cz i2,List.getD_eq_getElem?_getD,List.getElem?_eq_getElem j1,List.getD_eq_getElem?_getD,List.getElem?_eq_getElem j2] at this;exact this
 ·unfold MR
  rw [← e1];exact List.map_congr_left λi hi=>e2 i (List.mem_range.1 hi)
theorem cD(h:FG C m)(hC:C≤5)(ht4:A9 m C≤4):A9 (BO m C) C=A9 m C∧BO (BO m C) C=BO m C∧MR (BO m C) C=MR m C:=by
 obtain ⟨_,a1,b1,_⟩:=EZ h.ok (by omega:C≤6);refine Oh (XU h hC ht4) h.ok (by omega) ?_ ?_
 ·rw [BU]
  exact b1
 ·rw [BU]
  exact a1
end
end Go.Proofs.YtdopbgnkneeceaaGreat
