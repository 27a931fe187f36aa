/- Layer 5: the number of pivots is the rank: the mathematics. -/
import Derived.Test.YtegaedfdddapnaaGreatqN4
set_option linter.unusedSectionVars false
set_option linter.unusedVariables false
set_option linter.unusedSimpArgs false
set_option maxRecDepth 100000
namespace Go.Proofs.YtegaedfdddapnaaGreat
open Go.RowKit
def fM(m:List (List Rat)):Nat→Nat→Rat:=λi j=>(m.getD i []).getD j 0
def fL(L:List Ln):Nat→Nat→Rat:=λi j=>(Cd L i).2.getD j 0
theorem JW{f:Rat→Rat}(h0:f 0=0)(l:List Rat)(j:Nat):(l.map f).getD j 0=f (l.getD j 0):=by
 rw [List.getD_eq_getElem?_getD,List.getD_eq_getElem?_getD,List.getElem?_map]
 cases l[j]? with
 | none=>exact h0.symm
 | some x=>rfl
theorem On(l:List Rat)(j:Nat):(Cp l).getD j 0=l.getD j 0 / Ef l:=JW (f:=λx=>x / Ef l) (by rw [Rat.div_def,Rat.zero_mul]) l j
theorem GC{l:List Rat}{j:Nat}(h:l.length≤j):l.getD j 0=0:=by
 rw [List.getD_eq_getElem?_getD,List.getElem?_eq_none h];rfl
theorem nB{c d:Rat}{l p:List Rat}(he:p.length=l.length)(j:Nat):(NX c l d p).getD j 0=c*l.getD j 0 - d*p.getD j 0:=by
 by_cases hj:j<l.length
 ·unfold NX
  rw [List.getD_eq_getElem?_getD,List.getElem?_map,List.getElem?_range hj];rfl
 ·rw [GC (by rw [K5]; omega),GC (by omega),GC (by omega)]
  grind
theorem qA{c:Rat}{l p:List Rat}{col s:Nat}(hl:Ds s l)(hp:Ds s p)(hs:1≤s)(hz:p.getD col 0≠0)(he:p.length=l.length):∃ a b:Rat,a≠0∧(∀ j,(EN c l p col).2.getD j 0=a*l.getD j 0+b*p.getD j 0)∧(EN c l p col).2.getD col 0=0:=by
 unfold EN;split
 ·rename_i h
  exact ⟨1,0,by decide,λj=>by grind,h⟩
 ·rename_i h
  obtain ⟨s1,s2⟩:=Nx hl hp hz;have hfr:=(Lu hl hp s1 s2).frac (by omega);generalize hf:l.getD col 0 / p.getD col 0=f at s1 s2 hfr;generalize hr:NX ((f.den:Int):Rat) l (f.num:Rat) p=r at hfr;have hu:Ef r≠0:=Ra hfr _;have hd:=J4 f;have hm:=LL f;have key:∀ j,(Cp r).getD j 0=(((f.den:Int):Rat)*l.getD j 0 - (f.num:Rat)*p.getD j 0) / Ef r:=λj=>by
   rw [On,← hr,nB he,hr]
  refine ⟨((f.den:Int):Rat) / Ef r,-(f.num:Rat) / Ef r,?_,λj=>?_,?_⟩
  ·intro e
   apply hd
   grind
  ·show (Cp (NX ((f.den:Int):Rat) l (f.num:Rat) p)).getD j 0=_
   rw [hr,key]
   grind
  ·show (Cp (NX ((f.den:Int):Rat) l (f.num:Rat) p)).getD col 0=_
   rw [hr,key,← hm,← hf]
   grind
section
variable {L : List Ln} {C s B n t : Nat}
theorem fK{g:List Nat × List Ln}(h:Nu L.length C s B n g)(hs1:1≤s)(ha:Ce g.2 g.1.length n<g.2.length):Piv g.1.length L.length (Ce g.2 g.1.length n) n (fL g.2) (fL (Fy g.2 g.1.length (Ce g.2 g.1.length n) n)):=by
 obtain ⟨p1,p2,p3,p4⟩:=DY (L:=g.2) (t:=g.1.length) (col:=n) (by rw [h.len]; exact h.tR);have hlen:=h.len;have hz:=p4 ha;have at_:∀ k,k<L.length→fL (Fy g.2 g.1.length (Ce g.2 g.1.length n) n) k=λj=>(if k=g.1.length then Cd g.2 (Ce g.2 g.1.length n) else if k=Ce g.2 g.1.length n then (-(Cd g.2 g.1.length).1,(Cd g.2 g.1.length).2) else if Ce g.2 g.1.length n<k then EN (Cd g.2 k).1 (Cd g.2 k).2 (Cd g.2 (Ce g.2 g.1.length n)).2 n else Cd g.2 k).2.getD j 0:=λk hk=>by
  funext j
  unfold fL;rw [J8 (by omega)]
 refine ⟨p1,by omega,hz,λk h1 h2=>p3 k h1 h2,λk hk=>?_,?_,λk h1 h2=>?_,λk h1 h2=>?_⟩
 ·rw [at_ k (by omega)]
  funext j
  rw [if_neg (by omega),if_neg (by omega),if_neg (by omega)];rfl
 ·refine ⟨1,by decide,λj=>?_⟩
  rw [at_ _ (by omega)];dsimp only;rw [if_pos rfl,Rat.one_mul];rfl
 ·refine ⟨1,by decide,λj=>?_⟩
  rw [at_ k (by omega)];dsimp only;rw [if_neg (by omega),Rat.one_mul]
  by_cases e:k=Ce g.2 g.1.length n
  ·rw [if_pos e,if_pos e]
   rfl
  ·rw [if_neg e,if_neg e,if_neg (by omega)]
   rfl
 ·have hk:=h.ln k h2
  have hA:=h.ln _ (by omega:Ce g.2 g.1.length n<L.length);obtain ⟨a,b,h3,h4,h5⟩:=qA (c:=(Cd g.2 k).1) hk.ints hA.ints (RX hs1 n) hz (by rw [hA.len,hk.len]);refine ⟨a,b,h3,λj=>?_,?_⟩
  ·rw [at_ k (by omega)]
   dsimp only;rw [if_neg (by omega),if_neg (by omega),if_pos h1];exact h4 j
  ·rw [at_ k (by omega)]
   dsimp only;rw [if_neg (by omega),if_neg (by omega),if_pos h1];exact h5
theorem R6{M:Nat→Nat→Rat}(hs:s≤300)(hs1:1≤s)(hL:∀ k,k<L.length→J9 C s B (Cd L k))(h1:Sp L.length M L.length (fL L))(h2:Sp L.length (fL L) L.length M):∀ n,n≤6→sF M L.length (Bm L n).1.length n (fL (Bm L n).2) (λi=>(Bm L n).1.getD i 0)
 | 0,_=>⟨Nat.zero_le _,λi h=>absurd h (Nat.not_lt_zero i),λi k _ h=>absurd h (Nat.not_lt_zero k),λi h=>absurd h (Nat.not_lt_zero i),λi k h=>absurd h (Nat.not_lt_zero i),λk j _ _ h=>absurd h (Nat.not_lt_zero j),λi j h=>absurd h (Nat.not_lt_zero i),h1,h2⟩
 | n+1,hn=>by
  have ih:=R6 hs hs1 hL h1 h2 n (by omega);have ok:=Ls hs hs1 hL n (by omega);have hlen:=ok.len;obtain ⟨p1,p2,p3,p4⟩:=DY (L:=(Bm L n).2) (t:=(Bm L n).1.length) (col:=n) (by rw [ok.len]; exact ok.tR);rw [Kk];split
  ·rename_i ha
   have:=ih.pivot (p':=λi=>((Bm L n).1 ++ [n]).getD i 0) (fK ok hs1 ha) (by simp) λi hi=>by
    rw [List.getD_eq_getElem?_getD,List.getElem?_append_left hi,← List.getD_eq_getElem?_getD]
   simpa using this
  ·rename_i ha
   exact ih.skip λk h1 h2=>p3 k h1 (by omega)
end
theorem kS{m:List (List Rat)}{C:Nat}(h:BU C m):Sp m.length (fM m) m.length (fL (BE m))∧Sp m.length (fL (BE m)) m.length (fM m):=by
 have at_:∀ i,i<m.length→∃ u:Rat,u≠0∧∀ j,fL (BE m) i j=fM m i j / u:=λi hi=>by
  obtain ⟨_,D,s,h2,_,_⟩:=h.row hi;refine ⟨Ef (m.getD i []),Ra h2 _,λj=>?_⟩;unfold fL fM;rw [JO hi];exact On _ _
 refine ⟨λi hi=>?_,λi hi=>?_⟩
 ·obtain ⟨u,h1,h2⟩:=at_ i hi
  refine ((In.row (R:=fL (BE m)) hi).smul u).congr λj=>?_
  rw [h2]
  grind
 ·obtain ⟨u,h1,h2⟩:=at_ i hi
  refine ((In.row (R:=fM m) hi).smul (1 / u)).congr λj=>?_
  rw [h2]
  grind
def maO(U:HP):Nat→List AV→Option CE
 | 0,_=>some (.lit 0)
 | k+1,.sl o 0 n c :: l=>match Z5 U .L (.sl o 0 n c),maO U k l with
  | some (.ext 1 false (.ap 51 e (.lit 0))),some m=>some (.ap 81 e m)
  | _,_=>none
 | _+1,_=>none
def zU(U:HP):AV→Option CE
 | .sl o 0 n _=>match lk U o with
  | some b=>if b.bl.isNone then maO U n b.cs else none
  | none=>none
 | _=>none
section
variable {V : VL} {F : Fa} {ρ : Bi} {M M' : Nat → Prop} {w w0 : World}
theorem OG(hF:Bq V F)(hm0:∀ b,M b→b<w0.heap.size){U:HP}(hR:@RH (Ab V) ρ M' (Dc BP w0 (lk [])) w (CQ (lk []) U)):∀{k:Nat}{l:List AV}{m:CE}{cs:List Value},maO U k l=some m → @AW (Ab V) ρ M' w l cs→(mD V m).length=k∧∃ xs ys,cs=xs ++ ys∧D_ M w (mD V m) xs
 | 0,_,_,cs,h,_=>by
  unfold maO at h
  cases h
  exact ⟨by simp [mD],[],cs,rfl,by simp [mD,D_]⟩
 | k+1,[],_,_,h,_=>by
  unfold maO at h
  cases h
 | k+1,a :: l,m,cs,h,hv=>by
  unfold maO at h;split at h
  ·rename_i hh; cases hh
  ·rename_i k2 o n c l' hk hh
   cases hk
   cases hh
   split at h
   ·rename_i e m' h1 h2
    cases h
    unfold AW at hv;obtain ⟨x,y,rfl,r1,r2⟩:=hv;have r1:=slF (M:=M) hF hm0 hR h1 r1;obtain ⟨i1,xs,ys,rfl,i2⟩:=OG hF hm0 hR h2 r2;unfold Rp at r1;obtain ⟨r0,r1⟩:=r1;obtain ⟨v,rfl⟩:=List.length_eq_one_iff.1 r0;have e:mD V (.ap 81 e m')=lD V e :: mD V m':=by simp only [mD]
    rw [e];exact ⟨by rw [List.length_cons,i1],v :: xs,ys,rfl,v,xs,rfl,r1,i2⟩
   ·cases h
  ·cases h
theorem OJ(hF:Bq V F)(hm0:∀ b,M b→b<w0.heap.size){U:HP}(hR:@RH (Ab V) ρ M' (Dc BP w0 (lk [])) w (CQ (lk []) U)){a:AV}{m:CE}{v:Value}(h:zU U a=some m)(hv:@BA (Ab V) ρ M' w a v):@BA (Ab V) BP M w (aM m) v:=by
 unfold zU at h;split at h
 ·rename_i o n cap
  split at h
  ·rename_i b hb
   split at h
   ·rename_i hbl
    have hbl:=Option.isNone_iff_eq_none.1 hbl;have hv:@Rp (Ab V) ρ M' w (.sl o 0 n cap) [v]:=hv;unfold Rp at hv;obtain ⟨g,c,kk,q1,q2,q3,_⟩:=hv;have hU:CQ (lk []) U o=some b:=by
     letI:=Ab V
     rw [← CT,List.append_nil];exact hb
    obtain ⟨hobj,_⟩:=id hR;obtain ⟨g2,c2,arr,cs,k1,k2,k3,k4,k5,k6,k7,k8⟩:=hobj o b hU;rw [q1] at k1;have hg:g=g2:=congrArg Prod.fst (Option.some.inj k1);subst hg;have hge:w0.heap.size≤g:=by
     rcases k3 with h1 | ⟨_,_,_,h1,_⟩
     ·exact h1
     ·cases h1
    have nM:¬ M g:=λhm=>by
     have:=hm0 g hm;omega
    have hcells:=@Bu.rps (Ab V) _ _ _ _ _ k6 hbl;obtain ⟨tl,he,_⟩:=k7;have hra:=(letI:=Ab V; Er k4 he);have hsz:=AI k4;obtain ⟨i1,xs,ys,e1,i2⟩:=OG (M:=M) hF hm0 hR h hcells;have hq2:v = .slice (some ⟨g,0,none⟩) n kk:=(List.cons.inj q2).1;refine KJ ⟨some ⟨g,0,none⟩,kk,by rw [hq2,i1],by rw [i1]; exact q3,λ_=>⟨g,0,xs,rfl,nM,hsz,λj x hj=>hra j x (by
     rw [e1];have:=(List.getElem?_eq_some_iff.1 hj).1;rw [List.getElem?_append_left this];exact hj),i2⟩⟩
   ·cases h
  ·cases h
 ·cases h
theorem AcA{L:List PE}{C:BC}{f m:Nat}{xs:List AV}{a:AV}{U:HP}(hF:Bq V F)(hL:∀ e∈L,@PE.ok (Ab V) e)(hC:@BZ (Ab V) C)(hr:BW AK (DC (TT F L C) AK m) f xs [] 16 0=some (a,U)){vs:List Value}(hm0:∀ b,M b→b<w.heap.size)(hv:@CH (Ab V) BP M w xs vs) :
  Calls Tryz.prog f vs.toArray w λe w'=>∃ u ρ' M',e = .returned u ∧ @RV (Ab V) ρ' M' w' a u ∧ @RH (Ab V) ρ' M' (Dc BP w (lk [])) w' (CQ (lk []) U)∧Below w.heap.size w w':=by
 letI:=Ab V
 obtain ⟨_,hcall⟩:=DE Bp (EP (T:=TT F L C) (@Fo.mk (Ab V) _ (EC hF hL) (F7 hF) hC) Bp m).1 f xs [] 16 0 _ _ hr;have hs:CL BP M (Dc BP w (lk [])) w 0 (lk []):=⟨⟨λo b e=>(by cases e),λo o' b b' g c c' e=>(by cases e)⟩,hm0,λ_ _ _=>rfl,λb hb=>.inl hb⟩;refine Calls.mono (hcall BP M w vs hs (λo p e=>(by cases e)) (by decide) hv) λe w' ⟨v,e1,ρ',M',ht,hv',hR,_,hsup,_,_,hfr,_⟩=>⟨v,ρ',M',e1,hv',hR,⟨hfr.os,hfr.tape,hfr.output,hfr.size,λb hb=>hfr.keep b hb ?_⟩⟩
 rintro (h1 | ⟨_,_,_,h1,_⟩)
 ·omega
 ·cases h1
end
def Sd:List CE→CE
 | []=>.lit 0
 | e :: l=>.ap 81 e (Sd l)
theorem Rb(V:VL):∀ l:List CE,mD V (Sd l)=l.map (lD V)
 | []=>by simp [Sd,mD]
 | e :: l=>by
  unfold Sd;rw [List.map_cons,← Rb V l];simp only [mD]
structure wG (C:Nat) (m:List (List Rat)):Prop where
 len:∀ l∈m,l.length=C
 el:∀ l∈m,∀ x∈l,∃ z:Int,x*((2:Int):Rat)=(z:Rat)∧Sm z 1
theorem wG.ok{C:Nat}{m:List (List Rat)}(h:wG C m):BU C m:=⟨h.len,λl hl=>⟨2,1,⟨by decide,by unfold Sm; decide,h.el l hl⟩,by decide,by decide⟩⟩
def fT(l:List Rat)(c:Rat):List Rat:=l.map λx=>x*c
def SD(l:List Rat)(c:Rat):List Rat:=l.map λx=>x / c
def Fk(p:Nat→Nat)(G:Nat→List Rat)(row:List Rat)(c:Rat)(i:Nat):Nat→List Rat
 | 0=>fT row c
 | n+1=>NX 1 (Fk p G row c i n) (row.getD (p (i+1+n)) 0) (G (i+1+n))
def oF(row:Nat→List Rat)(p:Nat→Nat)(c:Rat)(t:Nat):Nat→Nat→List Rat
 | 0,_=>[]
 | m+1,i=>if t≤i+m then oF row p c t m i else SD (Fk p (oF row p c t m) (row i) c i (t - 1 - i)) ((row i).getD (p i) 0)
def NP(row:Nat→List Rat)(p:Nat→Nat)(c:Rat)(t i:Nat):List Rat:=oF row p c t t i
def oG:Nat→Nat
 | 0=>60000
 | m+1=>60000+(m+1)*(20001+oG m+1)
theorem dN:∀ m,m<4→oG m≤1900000
 | 0,_=>by decide
 | 1,_=>by decide
 | 2,_=>by decide
 | 3,_=>by decide
section
variable {row : Nat → List Rat} {p : Nat → Nat} {c : Rat} {t : Nat} {G G' : Nat → List Rat} {r : List Rat} {i : Nat}
theorem Mf:∀{n:Nat},(∀ m,m<n→G (i+1+m)=G' (i+1+m))→Fk p G r c i n=Fk p G' r c i n
 | 0,_=>rfl
 | n+1,h=>by
  unfold Fk;rw [Mf λm hm=>h m (by omega),h n (by omega)]
theorem aD{m:Nat}(h:t≤i+m):∀ k,oF row p c t (m+k) i=oF row p c t m i
 | 0=>rfl
 | k+1=>by
  show oF row p c t (m+k+1) i=_;rw [oF,if_pos (by omega),aD h k]
theorem zZ{m:Nat}(h:t≤i+m)(hm:m≤t):oF row p c t m i=NP row p c t i:=by
 unfold NP;obtain ⟨k,rfl⟩:∃ k,t=m+k:=⟨t - m,by omega⟩;exact (aD h k).symm
theorem M7(hi:i<t):NP row p c t i=SD (Fk p (NP row p c t) (row i) c i (t - 1 - i)) ((row i).getD (p i) 0):=by
 obtain ⟨m,hm⟩:∃ m,t=i+m+1:=⟨t - 1 - i,by omega⟩;have e:NP row p c t i=oF row p c t (m+1) i:=(zZ (by omega) (by omega)).symm;rw [e,oF,if_neg (by omega)];rw [Mf (G':=NP row p c t) λk hk=>zZ (by omega) (by omega)]
theorem FD:∀{n:Nat},(Fk p G r c i n).length=r.length
 | 0=>by simp [Fk,fT]
 | n+1=>by
  unfold Fk;rw [K5,FD]
theorem RF(hi:i<t):(NP row p c t i).length=(row i).length:=by
 rw [M7 hi];simp [SD,FD]
theorem dG(a b:List Rat):NX 1 a 0 b=a:=by
 unfold NX;apply List.ext_getElem
 ·simp
 ·intro k h1 h2
  simp only [List.getElem_map,List.getElem_range];rw [List.getD_eq_getElem?_getD,List.getElem?_eq_getElem h2];simp only [Option.getD_some]
  grind
theorem jG{s:Nat}(hs:1≤s):AQ 0 s:=(DL (w:=0) (s:=1) (by unfold Sm; decide) (by decide):AQ ((0:Int):Rat) 1).mono hs
theorem Gc{l:List Rat}{s:Nat}(hs:1≤s)(h:∀ x∈l,AQ x s)(k:Nat):AQ (l.getD k 0) s:=by
 by_cases hk:k<l.length
 ·rw [List.getD_eq_getElem?_getD,List.getElem?_eq_getElem hk]
  exact h _ (List.getElem_mem hk)
 ·rw [GC (by omega)]
  exact jG hs
theorem Jn{g:Nat}(hr:∀ x∈r,AQ x 20000)(hc:AQ c 20000):∀{n:Nat},(∀ m,m<n→∀ x∈G (i+1+m),AQ x g)→∀ x∈Fk p G r c i n,AQ x (40000+n*(20001+g+1))
 | 0,_=>λx hx=>by
  obtain ⟨y,hy,rfl⟩:=List.mem_map.1 hx;exact ((hr y hy).mul hc).mono (by omega)
 | n+1,h=>λx hx=>by
  have ih:=Jn hr hc (n:=n) λm hm=>h m (by omega)
  unfold Fk at hx;obtain ⟨k,_,rfl⟩:=List.mem_map.1 hx;rw [Rat.one_mul];refine ((Gc (by omega) ih k).sub ((Gc (by omega) hr _).mul (Gc (s:=g+1) (by omega) (λx hx=>(h n (by omega) x hx).mono (by omega)) k))).mono ?_;rw [Nat.succ_mul];omega
theorem Vm(hr:∀ i,i<t→∀ x∈row i,AQ x 20000)(hc:AQ c 20000):∀ m i,i<t→t≤i+m+1→∀ x∈NP row p c t i,AQ x (oG m)
 | 0,i,h1,h2=>λx hx=>by
  rw [M7 h1,show t - 1 - i=0 by omega] at hx;obtain ⟨y,hy,rfl⟩:=List.mem_map.1 hx;have:=Jn (p:=p) (G:=NP row p c t) (i:=i) (g:=0) (hr i h1) hc (n:=0) (λm hm=>by omega) y hy;exact (this.div (Gc (by omega) (hr i h1) _)).mono (by simp [oG])
 | m+1,i,h1,h2=>λx hx=>by
  rw [M7 h1] at hx;obtain ⟨y,hy,rfl⟩:=List.mem_map.1 hx;have:=Jn (p:=p) (G:=NP row p c t) (i:=i) (g:=oG m) (hr i h1) hc (n:=t - 1 - i) (λk hk=>Vm hr hc m _ (by omega) (by omega)) y hy;refine (this.div (Gc (by omega) (hr i h1) _)).mono ?_;have hm:t - 1 - i≤m+1:=by omega
  have:=Nat.mul_le_mul_right (20001+oG m+1) hm;simp only [oG];omega
def OP(b:Nat→Bool):Nat→Nat
 | 0=>0
 | n+1=>if b n then OP b n else n+1
theorem SE(b:Nat→Bool):∀ n,OP b n≤n
 | 0=>Nat.le_refl _
 | n+1=>by
  unfold OP;split
  ·have:=SE b n
   omega
  ·exact Nat.le_refl _
theorem OZ{b:Nat→Bool}:∀{n:Nat},(∀ m,m<n→b m=true→r.getD (p (i+1+m)) 0=0)→Fk p G r c i (OP b n)=Fk p G r c i n
 | 0,_=>rfl
 | n+1,h=>by
  unfold OP;split
  ·rename_i hb
   rw [OZ λm hm=>h m (by omega),Fk,h n (by omega) hb,dG]
  ·rfl
theorem uW(l:List Rat)(c:Rat)(j:Nat):(fT l c).getD j 0=l.getD j 0*c:=JW (f:=λx=>x*c) (by rw [Rat.zero_mul]) l j
theorem WA(l:List Rat)(c:Rat)(j:Nat):(SD l c).getD j 0=l.getD j 0 / c:=JW (f:=λx=>x / c) (by rw [Rat.div_def,Rat.zero_mul]) l j
theorem WY(j:Nat):∀{n:Nat},(∀ m,m<n→(G (i+1+m)).length=r.length)→(Fk p G r c i n).getD j 0=r.getD j 0*c - sg n λm=>r.getD (p (i+1+m)) 0*(G (i+1+m)).getD j 0
 | 0,_=>by
  show (fT r c).getD j 0=_ - 0;rw [uW]
  grind
 | n+1,h=>by
  unfold Fk sg;rw [nB (by rw [h n (by omega),FD]),WY j λm hm=>h m (by omega)]
  grind
theorem Sg{f:Nat→Rat}{i:Nat}:∀{n:Nat},sg (i+1+n) (λk=>if i<k then f k else 0)=sg n λm=>f (i+1+m)
 | 0=>HJ λk hk=>if_neg (by omega)
 | n+1=>by
  show sg (i+1+n) _+_=sg n _+_;rw [Sg (n:=n)];show _+(if i<i+1+n then f (i+1+n) else 0)=_;rw [if_pos (by omega)]
def kH(row:Nat→List Rat)(p:Nat→Nat)(c:Rat)(t i:Nat):List Rat:=SD (NP row p c t i) c
theorem Acy{C:Nat}(hl:∀ i,i<t→(row i).length=C)(hc:c≠0)(hp:∀ i,i<t→(row i).getD (p i) 0≠0)(hi:i<t)(j:Nat) :
  (kH row p c t i).getD j 0=oI t (λi j=>(row i).getD j 0) (λi j=>(kH row p c t i).getD j 0) p i j:=by
 have e1:∀ k,(kH row p c t k).getD j 0=(NP row p c t k).getD j 0 / c:=λk=>WA _ _ _
 unfold oI;dsimp only;obtain ⟨n,hn⟩:∃ n,t=i+1+n:=⟨t - 1 - i,by omega⟩;have e2:(sg t λk=>if i<k then (row i).getD (p k) 0*(kH row p c t k).getD j 0 else 0)=sg n (λm=>(row i).getD (p (i+1+m)) 0*(NP row p c t (i+1+m)).getD j 0) / c:=by
  rw [show (sg t λk=>if i<k then (row i).getD (p k) 0*(kH row p c t k).getD j 0 else 0)=sg (i+1+n) λk=>if i<k then (row i).getD (p k) 0*(kH row p c t k).getD j 0 else 0 from by rw [← hn],Sg,Rat.div_def,Rat.mul_comm,← Gb];refine CA λm _=>?_
  rw [e1,Rat.div_def]
  grind
 rw [e2,e1,M7 hi,WA,WY j λm hm=>by rw [RF (by omega),hl _ (by omega),hl i hi],show t - 1 - i=n by omega];have:=hp i hi
 grind
end
def cL(n:Nat)(z:List (CE × Bool)):Fa:=⟨[],[(.v 0,0,(n:Int))],[(.v 0,2000001)],z,[],[],[]⟩
def AaJ:List AV:=[aL (.v 0),aQ (.v 0) 2000001]
noncomputable def Aip(n:Nat):Option AV:=Z7 [.L] (BW AK (DC (Yx (cL n []) []) AK 200) 72 AaJ [] 16 0)
noncomputable def Ah5(n:Nat):Option AV:=Z7 [.L] (BW AK (DC (Yx (cL n [(.v 0,false)]) [OE (cL n [(.v 0,false)])]) AK 200) 74 AaJ [] 16 0)
def wK(f:Nat)(i:Nat):CE:=.ap f (GU 0 i) (.v 0)
noncomputable def Ach:Bool:=(List.range 7).all λn=>isL ((List.range n).map (wK 33)) (Aip n) && isL ((List.range n).map (wK 46)) (Ah5 n)
theorem aV:Ach=true:=by kernel_rfl
def FU(l:List Rat)(c:Rat):VL:=⟨λ_=>0,λk=>match k with | 0=>l | _=>[],λk=>match k with | 0=>c | _=>0,λ_=>[]⟩
theorem AaL{l:List Rat}{c:Rat}{z:List (CE × Bool)}(hl:∀ x∈l,AQ x 2000001)(hz:∀ x∈z,decide (qD (FU l c) x.1=0)=x.2):Bq (FU l c) (cL l.length z):=Ej (λ_=>rfl) (λx hx=>by
 rw [List.mem_singleton] at hx;subst hx;simp [lD,FU]) (λx hx=>by
 rw [List.mem_singleton] at hx;subst hx;simpa [lD,FU] using hl) hz (λx hx=>by cases hx)
theorem Aav{l:List Rat}{c:Rat}{f:Nat}{g:Rat→Rat→Rat}(hg:∀ a b,qD (FU l c) (.ap f a b)=g (qD (FU l c) a) (qD (FU l c) b)):lD (FU l c) (Fw ((List.range l.length).map (wK f)))=l.map λx=>g x c:=by
 rw [F0,List.map_map];apply List.ext_getElem
 ·simp
 ·intro i h1 h2
  simp only [List.getElem_map,List.getElem_range,Function.comp,wK];rw [hg];have e1:qD (FU l c) (GU 0 i)=l.getD i 0:=by simp [GU,qD,lD,zD,FU]
  have e2:qD (FU l c) (.v 0)=c:=by simp only [qD,FU]
  rw [e1,e2,List.getD_eq_getElem?_getD,List.getElem?_eq_getElem (by simpa using h2)];rfl
theorem Ah7{l:List Rat}{c:Rat}(hl:∀ x∈l,AQ x 2000001)(hc:AQ c 2000001)(hn:l.length≤6){M:Nat→Prop}{w:World}{vl vc:Value}(hm0:∀ b,M b→b<w.heap.size)(hvl:(XP.rats l).p M w [vl])(hvc:(An c).p vc w) :
  Calls Tryz.prog 72 #[vl,vc] w λe w'=>∃ u,e = .returned u∧(XP.rats (fT l c)).p M w' [u]∧Below w.heap.size w w':=by
 have hr:=List.all_eq_true.1 aV l.length (List.mem_range.2 (by omega));rw [Bool.and_eq_true] at hr;refine Calls.mono (NC (M:=M) (w:=w) (vs:=[vl,vc]) (AaL hl λx hx=>by cases hx) (λ_ h=>by cases h) (G8 hr.1) hm0 ⟨vl,_,rfl,Eh (V:=FU l c) (e:=.v 0) hvl,vc,_,rfl,FG (V:=FU l c) (q:=.v 0) hvc hc,rfl⟩) λe w' ⟨u,e1,e2,e3⟩=>⟨u,e1,?_,e3⟩
 have e2:=CK (ρ:=BP) (M:=M) e2;rw [Aav (g:=λx y=>x*y) λa b=>by simp only [qD]] at e2;exact e2
theorem AhY{l:List Rat}{c:Rat}(hl:∀ x∈l,AQ x 2000001)(hc:AQ c 2000001)(h0:c≠0)(hn:l.length≤6){M:Nat→Prop}{w:World}{vl vc:Value}(hm0:∀ b,M b→b<w.heap.size)(hvl:(XP.rats l).p M w [vl])(hvc:(An c).p vc w) :
  Calls Tryz.prog 74 #[vl,vc] w λe w'=>∃ u,e = .returned u∧(XP.rats (SD l c)).p M w' [u]∧Below w.heap.size w w':=by
 have hr:=List.all_eq_true.1 aV l.length (List.mem_range.2 (by omega));rw [Bool.and_eq_true] at hr;have hF:Bq (FU l c) (cL l.length [(.v 0,false)]):=AaL hl λx hx=>by
  rw [List.mem_singleton] at hx;subst hx;have:qD (FU l c) (.v 0)=c:=by simp only [qD,FU]
  rw [this];exact decide_eq_false h0
 refine Calls.mono (NC (M:=M) (w:=w) (vs:=[vl,vc]) hF (λe he=>by
  rw [List.mem_singleton] at he;subst he;exact I1 hF) (G8 hr.2) hm0 ⟨vl,_,rfl,Eh (V:=FU l c) (e:=.v 0) hvl,vc,_,rfl,FG (V:=FU l c) (q:=.v 0) hvc hc,rfl⟩) λe w' ⟨u,e1,e2,e3⟩=>⟨u,e1,?_,e3⟩
 have e2:=CK (ρ:=BP) (M:=M) e2;rw [Aav (g:=λx y=>x / y) λa b=>by simp only [qD]] at e2;exact e2
def lk2:List ((CE × CE) × CE)→CE→CE→Option CE
 | [],_,_=>none
 | x :: r,a,b=>if CE.beq x.1.1 a && CE.beq x.1.2 b then some x.2 else lk2 r a b
theorem Rr:∀{l:List ((CE × CE) × CE)}{a b c:CE},lk2 l a b=some c→((a,b),c)∈l
 | [],_,_,_,h=>by cases h
 | x :: r,a,b,c,h=>by
  unfold lk2 at h;split at h
  ·rename_i hb
   rw [Bool.and_eq_true] at hb
   cases h
   rw [← CE.beq_eq hb.1,← CE.beq_eq hb.2];exact List.mem_cons_self ..
  ·exact List.mem_cons_of_mem _ (Rr h)
def tb2(f:Nat)(tab:List ((CE × CE) × CE)):PE:=⟨f,λxs=>match xs with
 | [.ext 1 false (.ap 51 e _),x]=>(match FM x with
  | some p=>(lk2 tab e p.1).map aL
  | none=>none)
 | _=>none⟩
noncomputable def tb3(tab:List (CE × List ((CE × CE) × CE))):PE:=⟨73,λxs=>match xs with
 | [o,.ext 1 false (.ap 51 e _),x,.ext 1 false (.ap 51 b _)]=>if U9 o (.ap 36 (.lit 1) (.lit 1)) then (match FM x,JG tab b with
  | some p,some tb=>(lk2 tb e p.1).map aL
  | _,_=>none) else none
 | _=>none⟩
section
variable {V : VL}
theorem mM{f:Nat}{tab:List ((CE × CE) × CE)}(pl:Bf f)(h:∀ x∈tab,∀(M:Nat→Prop)(w:World)(vl vc:Value),(∀ b,M b→b<w.heap.size)→(XP.rats (lD V x.1.1)).p M w [vl]→(An (qD V x.1.2)).p vc w→Calls Tryz.prog f #[vl,vc] w λe w'=>∃ u,e = .returned u∧(XP.rats (lD V x.2)).p M w' [u]∧Below w.heap.size w w'):@PE.ok (Ab V) (tb2 f tab):=by
 intro xs r e;refine ⟨pl,λρ M w vs hm0 hv=>?_⟩;unfold tb2 at e;dsimp only at e;split at e
 ·rename_i ee d x
  split at e
  ·rename_i p hp
   obtain ⟨c,hc,rfl⟩:=Option.map_eq_some_iff.1 e;obtain ⟨va,_,rfl,k1,vb,_,rfl,k2,k5⟩:=hv;have k5:_=[]:=k5;subst k5;have q1:=CK k1;have q2:=(Bj hp (@BA.rv (Ab V) ρ M w _ _ k2)).1;exact Calls.mono (h _ (Rr hc) M w va vb hm0 q1 q2) λe w' ⟨u,e1,e2,e3⟩=>⟨u,e1,@BA.rv (Ab V) ρ M w' _ _ (Eh e2),e3⟩
  ·cases e
 ·cases e
theorem Ad8{tab:List (CE × List ((CE × CE) × CE))}(h:∀ y∈tab,∀ x∈y.2,lD V x.2=NX 1 (lD V x.1.1) (qD V x.1.2) (lD V y.1)∧(∀ z∈lD V x.1.1,AQ z 2000001)∧(∀ z∈lD V y.1,AQ z 2000001)∧AQ (qD V x.1.2) 2000001∧(lD V x.1.1).length≤6∧(lD V y.1).length=(lD V x.1.1).length):@PE.ok (Ab V) (tb3 tab):=by
 intro xs r e;refine ⟨λ_ _=>by simp [tb3,go_sem],λρ M w vs hm0 hv=>?_⟩;unfold tb3 at e;dsimp only at e;split at e
 ·rename_i o ee d x b d2
  split at e
  ·rename_i ho
   split at e
   ·rename_i p tb hp ht
    obtain ⟨c,hc,rfl⟩:=Option.map_eq_some_iff.1 e;obtain ⟨vo,_,rfl,k0,va,_,rfl,k1,vb,_,rfl,k2,vc,_,rfl,k3,k5⟩:=hv;have k5:_=[]:=k5;subst k5;obtain ⟨m,hm⟩:=EK ho;have q0:=(Bj hm (@BA.rv (Ab V) ρ M w _ _ k0)).1;rw [show qD V (.ap 36 (.lit 1) (.lit 1))=1 by simp only [qD]; decide] at q0;have q1:=CK k1;have q2:=(Bj hp (@BA.rv (Ab V) ρ M w _ _ k2)).1;have q3:=CK k3;obtain ⟨h1,h2,h3,h4,h5,h6⟩:=h _ (BB ht) _ (Rr hc);dsimp only at h1 h2 h3 h4 h5 h6;refine Calls.mono (AhZ h2 h3 ((DL (w:=1) (s:=1) (by unfold Sm; decide) (by decide):AQ ((1:Int):Rat) 1).mono (by decide)) h4 h5 h6 hm0 q0 q1 q2 q3) λe w' ⟨u,e1,e2,e3⟩=>⟨u,e1,@BA.rv (Ab V) ρ M w' _ _ (Eh ?_),e3⟩
    rw [h1];exact e2
   ·cases e
  ·cases e
 ·cases e
end
def LO(i k:Nat):CE:=.ap 30 (.v i) (.i (1+k) 0)
def Vj(i n:Nat):CE:=.v (30+8*i+n)
def gG(i:Nat):CE:=.v (10+i)
def YK(i:Nat):CE:=.v (20+i)
def kJ(bits:List Bool)(i k:Nat):Bool:=bits.getD (k*(k - 1) / 2+i) false
def vB(bits:List Bool)(i n:Nat):Nat:=OP (λm=>kJ bits i (i+1+m)) n
def AcB(t:Nat):CE:=LO (t - 1) (t - 1)
def Ago(t:Nat):List ((CE × CE) × CE):=(List.range t).map λi=>((.v i,AcB t),Vj i 0)
def Afu(t:Nat)(bits:List Bool):List ((CE × CE) × CE):=((List.range t).map λi=>((Vj i (vB bits i (t - 1 - i)),LO i i),gG i)) ++ (List.range t).map λi=>((gG i,AcB t),YK i)
def AhS(t:Nat)(bits:List Bool):List (CE × List ((CE × CE) × CE)):=(List.range t).map λk=>(gG k,(List.range k).map λi=>((Vj i (vB bits i (k - 1 - i)),LO i k),Vj i (k - i)))
def tI(R t:Nat)(bits:List Bool):Fa:=⟨(List.range t).flatMap λk=>[(0,1+k,0),(1+k,20,-1)],(List.range R).map λk=>(.v k,20,0),(List.range R).map λk=>(.v k,20000),(List.range t).flatMap λk=>(List.range k).map λi=>(LO i k,kJ bits i k),[],[],[]⟩
noncomputable def nE(t:Nat)(bits:List Bool):List PE:=[tb2 72 (Ago t),tb2 74 (Afu t bits),tb3 (AhS t bits)]
def TF(R t:Nat):HP:=[(16,L4 ((List.range R).flatMap sQ)),(17,TN t)]
def eU(R t:Nat):List AV:=[.sl 16 0 R none,.sl 17 0 t none]
noncomputable def Ab3(R t:Nat)(bits:List Bool):=BW AK (DC (Yx (tI R t bits) (nE t bits)) AK 300) 44 (eU R t) (TF R t) 32 0
def fQ:Nat→List (List Bool)
 | 0=>[[]]
 | n+1=>(fQ n).flatMap λl=>[true :: l,false :: l]
theorem Nd:∀{n:Nat}{l:List Bool},l.length=n→l∈fQ n
 | 0,l,h=>by
  rw [List.length_eq_zero_iff.1 h];exact List.mem_singleton.2 rfl
 | n+1,[],h=>by cases h
 | n+1,b :: l,h=>by
  unfold fQ;refine List.mem_flatMap.2 ⟨l,Nd (by simpa using h),?_⟩
  cases b <;> simp
def Wt(t:Nat):List AV:=(List.range t).map λi=>aI (1+i) 0
def RN(cs:List AV):Option OB:=some ⟨40,1,cs,false,none⟩
def OY(t:Nat):List AV:=(List.range t).map λi=>aL (YK i)
def tQ(t:Nat)(o:Option (AV × HP)):Bool:=match o with
 | some (.sl 0 0 n (some n2),[(0,some ⟨T,1,cs,false,none⟩)])=>Nat.beq n t && Nat.beq n2 t && Nat.beq T 40 && GS cs (OY t)
 | _=>false
theorem Mq{t:Nat}{o:Option (AV × HP)}(h:tQ t o=true):o=some (.sl 0 0 t (some t),[(0,RN (OY t))]):=by
 unfold tQ at h;split at h
 ·rename_i n n2 T cs
  simp only [Bool.and_eq_true] at h;obtain ⟨⟨⟨h1,h4⟩,h2⟩,h3⟩:=h;rw [Nat.eq_of_beq_eq_true h1,Nat.eq_of_beq_eq_true h4,Nat.eq_of_beq_eq_true h2,DF h3];rfl
 ·cases h
noncomputable def Ad0(R t:Nat):Bool:=(fQ (t*(t - 1) / 2)).all λbits=>tQ t (Ab3 R t bits)
noncomputable def AiR(R:Nat):Bool:=(List.range (min R 3)).all λt=>Ad0 R (t+1)
noncomputable def Qh(R:Nat)(a b:Bool):Bool:=(fQ 4).all λl=>tQ 4 (Ab3 R 4 (a :: b :: l))
theorem Ah8:∀ R,R<6→AiR R=true
 | 0,_=>by kernel_rfl
 | 1,_=>by kernel_rfl
 | 2,_=>by kernel_rfl
 | 3,_=>by kernel_rfl
 | 4,_=>by kernel_rfl
 | 5,_=>by kernel_rfl
theorem Aeh:Qh 4 true true=true:=by kernel_rfl
theorem Ade:Qh 4 true false=true:=by kernel_rfl
theorem Aep:Qh 4 false true=true:=by kernel_rfl
theorem Abe:Qh 4 false false=true:=by kernel_rfl
theorem Ab9:Qh 5 true true=true:=by kernel_rfl
theorem Aci:Qh 5 true false=true:=by kernel_rfl
theorem Adw:Qh 5 false true=true:=by kernel_rfl
theorem Aa0:Qh 5 false false=true:=by kernel_rfl
theorem AbE{R t:Nat}{bits:List Bool}(hR:R≤5)(ht:1≤t)(ht4:t≤4)(htR:t≤R)(hb:bits.length=t*(t - 1) / 2):Ab3 R t bits=some (.sl 0 0 t (some t),[(0,RN (OY t))]):=by
 by_cases h4:t=4
 ·subst h4
  match bits,hb with
  | a :: b :: l,hb =>
   have hl:l.length=4:=by
    have:l.length+1+1=6:=hb;omega
   have key:Qh R a b=true:=by
    rcases (by omega:R=4 ∨ R=5) with rfl | rfl
    ·cases a <;> cases b
     ·exact Abe
     ·exact Aep
     ·exact Ade
     ·exact Aeh
    ·cases a <;> cases b
     ·exact Aa0
     ·exact Adw
     ·exact Aci
     ·exact Ab9
   exact Mq (List.all_eq_true.1 key l (Nd hl))
 ·have h:=List.all_eq_true.1 (Ah8 R (by omega)) (t - 1) (List.mem_range.2 (by omega))
  rw [show t - 1+1=t by omega] at h;exact Mq (List.all_eq_true.1 h bits (Nd hb))
structure Acz (R:Nat) (row:Nat→List Rat) (p:Nat→Nat) (t C:Nat):Prop where
 len:∀ i,i<R→(row i).length=C
 bd:∀ i,i<R→∀ x∈row i,AQ x 20000
 nz:∀ i,i<t→(row i).getD (p i) 0≠0
 lt:∀ i,i<t→p i<C
def FX(row:Nat→List Rat)(p:Nat→Nat)(t:Nat):Rat:=(row (t - 1)).getD (p (t - 1)) 0
def Dn(row:Nat→List Rat)(fac:Nat→Rat)(p:Nat→Nat)(t C:Nat):VL:=⟨λk=>if k=20 then (C:Int) else if 1≤k∧k≤t then ((p (k - 1):Nat):Int) else 0,
 λk=>if k<10 then row k else if k<20 then NP row p (FX row p t) t (k - 10) else if k<30 then kH row p (FX row p t) t (k - 20) else Fk p (NP row p (FX row p t) t) (row ((k - 30) / 8)) (FX row p t) ((k - 30) / 8) ((k - 30) % 8),
 fac,λ_=>[]⟩
section
variable {R t C : Nat} {row : Nat → List Rat} {fac : Nat → Rat} {p : Nat → Nat} {bits : List Bool}
theorem Oz{k:Nat}(h:k<10):lD (Dn row fac p t C) (.v k)=row k:=by
 simp only [lD,Dn];rw [if_pos h]
theorem jR{k:Nat}(h:k<10):lD (Dn row fac p t C) (gG k)=NP row p (FX row p t) t k:=by
 simp only [lD,Dn,gG];rw [if_neg (by omega),if_pos (by omega),show 10+k - 10=k by omega]
theorem zF{k:Nat}(h:k<10):lD (Dn row fac p t C) (YK k)=kH row p (FX row p t) t k:=by
 simp only [lD,Dn,YK];rw [if_neg (by omega),if_neg (by omega),if_pos (by omega),show 20+k - 20=k by omega]
theorem nX{i n:Nat}(h:n<8):lD (Dn row fac p t C) (Vj i n)=Fk p (NP row p (FX row p t) t) (row i) (FX row p t) i n:=by
 simp only [lD,Dn,Vj];rw [if_neg (by omega),if_neg (by omega),if_neg (by omega),show (30+8*i+n - 30) / 8=i by omega,show (30+8*i+n - 30) % 8=n by omega]
theorem WG{k:Nat}(h:k<t)(ht:t≤4):(Dn row fac p t C).z (1+k)=(p k:Int):=by
 simp only [Dn];rw [if_neg (by omega),if_pos (by omega),show 1+k - 1=k by omega]
theorem Yh{i k:Nat}(hi:i<10)(h:k<t)(ht:t≤4):qD (Dn row fac p t C) (LO i k)=(row i).getD (p k) 0:=by
 have e:qD (Dn row fac p t C) (LO i k)=(lD (Dn row fac p t C) (.v i)).getD (zD (Dn row fac p t C) (.i (1+k) 0)).toNat 0:=by simp only [LO,qD]
 rw [e,Oz hi];have:zD (Dn row fac p t C) (.i (1+k) 0)=(p k:Int):=by
  show (Dn row fac p t C).z (1+k)+0=_;rw [WG h ht,Int.add_zero]
 rw [this];rfl
variable (h : Acz R row p t C) (hR : R ≤ 5) (ht : 1 ≤ t) (ht4 : t ≤ 4) (htR : t ≤ R) (hC : C ≤ 6) (hb : ∀ i k, i < k → k < t → kJ bits i k = decide ((row i).getD (p k) 0 = 0))
include h hR ht ht4 htR hC
theorem Af4:FX row p t≠0:=h.nz _ (by omega)
theorem OC:AQ (FX row p t) 20000:=Gc (by omega) (h.bd _ (by omega)) _
theorem kP{i:Nat}(hi:i<t):∀ x∈NP row p (FX row p t) t i,AQ x 1900000:=λx hx =>
 (Vm (λi hi=>h.bd i (by omega)) (OC h hR ht ht4 htR hC) (t - 1 - i) i hi (by omega) x hx).mono (dN _ (by omega))
theorem AaN{i n:Nat}(hi:i<t)(hn:n≤t - 1 - i):∀ x∈Fk p (NP row p (FX row p t) t) (row i) (FX row p t) i n,AQ x 1900000:=λx hx=>by
 by_cases h0:t - 1 - i=0
 ·obtain rfl:n=0:=by omega
  exact (Jn (g:=0) (h.bd i (by omega)) (OC h hR ht ht4 htR hC) (n:=0) (λm hm=>by omega) x hx).mono (by omega)
 ·obtain ⟨m,hm⟩:∃ m,t - 1 - i=m+1:=⟨t - 1 - i - 1,by omega⟩
  refine (Jn (g:=oG m) (h.bd i (by omega)) (OC h hR ht ht4 htR hC) (λk hk=>Vm (λi hi=>h.bd i (by omega)) (OC h hR ht ht4 htR hC) m _ (by omega) (by omega)) x hx).mono ?_;have h1:=Nat.mul_le_mul_right (20001+oG m+1) (show n≤m+1 by omega);have h2:=dN (m+1) (by omega);simp only [oG] at h2;omega
theorem nC{i:Nat}(hi:i<t):(NP row p (FX row p t) t i).length=C:=by rw [RF hi,h.len i (by omega)]
theorem AhU(k:Nat) : -1152921504606846976≤(Dn row fac p t C).z k∧(Dn row fac p t C).z k≤1152921504606846976:=by
 simp only [Dn];split
 ·omega
 ·split
  ·have:=h.lt (k - 1) (by omega)
   omega
  ·omega
include hb
theorem Ahn:Bq (Dn row fac p t C) (tI R t bits):=by
 have z0:(Dn row fac p t C).z 0=0:=rfl;have zC:(Dn row fac p t C).z 20=(C:Int):=rfl;refine ⟨rfl,AhU h hR ht ht4 htR hC,λx hx=>?_,λx hx=>?_,λx hx=>?_,λx hx=>?_,λx hx=>(by cases hx),λx hx=>(by cases hx),λx hx=>(by cases hx)⟩
 ·obtain ⟨k,hk,hx⟩:=List.mem_flatMap.1 hx
  have hk:=List.mem_range.1 hk;have hz:=WG (row:=row) (fac:=fac) (p:=p) (C:=C) hk ht4;have hp:=h.lt k hk;simp only [List.mem_cons,List.not_mem_nil,or_false] at hx
  rcases hx with rfl | rfl
  ·dsimp only
   rw [z0,hz];omega
  ·dsimp only
   rw [zC,hz];omega
 ·obtain ⟨k,hk,rfl⟩:=List.mem_map.1 hx
  have hk:=List.mem_range.1 hk;dsimp only;rw [Oz (by omega),h.len k hk,zC];omega
 ·obtain ⟨k,hk,rfl⟩:=List.mem_map.1 hx
  have hk:=List.mem_range.1 hk;intro y hy;dsimp only at hy;rw [Oz (by omega)] at hy;exact h.bd k hk y hy
 ·obtain ⟨k,hk,hx⟩:=List.mem_flatMap.1 hx
  have hk:=List.mem_range.1 hk;obtain ⟨i,hi,rfl⟩:=List.mem_map.1 hx;have hi:=List.mem_range.1 hi;dsimp only;rw [Yh (by omega) hk ht4,hb i k hi hk]
theorem XZ{i n:Nat}(hi:i+n<t):lD (Dn row fac p t C) (Vj i (vB bits i n))=Fk p (NP row p (FX row p t) t) (row i) (FX row p t) i n:=by
 have:=SE (λm=>kJ bits i (i+1+m)) n;rw [nX (by unfold vB; omega)];refine OZ λm hm e=>?_
 rw [hb i (i+1+m) (by omega) (by omega)] at e;exact of_decide_eq_true e
theorem Abk:∀ e∈nE t bits,@PE.ok (Ab (Dn row fac p t C)) e:=λe he=>by
 have hcq:qD (Dn row fac p t C) (AcB t)=FX row p t:=Yh (by omega) (by omega) ht4;have c0:=Af4 h hR ht ht4 htR hC;have cb:=OC h hR ht ht4 htR hC;simp only [nE,List.mem_cons,List.not_mem_nil,or_false] at he
 rcases he with rfl | rfl | rfl
 ·refine mM (λ_ _=>by simp [go_sem]) λx hx M w vl vc hm0 h1 h2=>?_
  obtain ⟨i,hi,rfl⟩:=List.mem_map.1 hx;have hi:=List.mem_range.1 hi;dsimp only at h1 h2 ⊢;rw [Oz (by omega)] at h1;rw [hcq] at h2;rw [nX (by omega)];exact Ah7 (λx hx=>(h.bd i (by omega) x hx).mono (by omega)) (cb.mono (by omega)) (by rw [h.len i (by omega)]; exact hC) hm0 h1 h2
 ·refine mM (λ_ _=>by simp [go_sem]) λx hx M w vl vc hm0 h1 h2=>?_
  rcases List.mem_append.1 hx with hx | hx
  ·obtain ⟨i,hi,rfl⟩:=List.mem_map.1 hx
   have hi:=List.mem_range.1 hi;dsimp only at h1 h2 ⊢;rw [XZ h hR ht ht4 htR hC hb (by omega)] at h1;rw [Yh (by omega) hi ht4] at h2;rw [jR (by omega),M7 hi];exact AhY (λx hx=>(AaN h hR ht ht4 htR hC hi (Nat.le_refl _) x hx).mono (by omega)) ((Gc (by omega) (h.bd i (by omega)) _).mono (by omega:20000≤2000001)) (h.nz i hi) (by rw [FD,h.len i (by omega)]; exact hC) hm0 h1 h2
  ·obtain ⟨i,hi,rfl⟩:=List.mem_map.1 hx
   have hi:=List.mem_range.1 hi;dsimp only at h1 h2 ⊢;rw [jR (by omega)] at h1;rw [hcq] at h2;rw [zF (by omega)];exact AhY (λx hx=>(kP h hR ht ht4 htR hC hi x hx).mono (by omega)) (cb.mono (by omega)) c0 (by rw [nC h hR ht ht4 htR hC hi]; exact hC) hm0 h1 h2
 ·refine Ad8 λy hy x hx=>?_
  obtain ⟨k,hk,rfl⟩:=List.mem_map.1 hy;have hk:=List.mem_range.1 hk;obtain ⟨i,hi,rfl⟩:=List.mem_map.1 hx;have hi:=List.mem_range.1 hi;dsimp only;obtain ⟨m,hm⟩:∃ m,k=i+1+m:=⟨k - 1 - i,by omega⟩;rw [jR (by omega),Yh (by omega) hk ht4,show k - 1 - i=m by omega,show k - i=m+1 by omega,XZ h hR ht ht4 htR hC hb (by omega),nX (by omega)];refine ⟨?_,λz hz=>(AaN h hR ht ht4 htR hC (by omega) (by omega) z hz).mono (by omega),λz hz=>(kP h hR ht ht4 htR hC hk z hz).mono (by omega),(Gc (by omega) (h.bd i (by omega)) _).mono (by omega:20000≤2000001),by rw [FD,h.len i (by omega)]; exact hC,by rw [FD,h.len i (by omega),nC h hR ht ht4 htR hC hk]⟩;rw [Fk,← hm]
end
theorem pZ(f:Nat→Nat→Bool)(t:Nat)(ht:t≤4):∃ bits:List Bool,bits.length=t*(t - 1) / 2∧∀ i k,i<k→k<t→kJ bits i k=f i k:=by
 match t,ht with
 | 0,_=>exact ⟨[],rfl,λi k _ h=>by omega⟩
 | 1,_=>exact ⟨[],rfl,λi k _ h=>by omega⟩
 | 2,_=>exact ⟨[f 0 1],rfl,λi k h1 h2=>by
   obtain rfl:k=1:=by omega
   obtain rfl:i=0:=by omega
   rfl⟩
 | 3,_=>exact ⟨[f 0 1,f 0 2,f 1 2],rfl,λi k h1 h2=>by
   match k,i,h1,h2 with
   | 1,0,_,_=>rfl
   | 2,0,_,_=>rfl
   | 2,1,_,_=>rfl⟩
 | 4,_=>exact ⟨[f 0 1,f 0 2,f 1 2,f 0 3,f 1 3,f 2 3],rfl,λi k h1 h2=>by
   match k,i,h1,h2 with
   | 1,0,_,_=>rfl
   | 2,0,_,_=>rfl
   | 2,1,_,_=>rfl
   | 3,0,_,_=>rfl
   | 3,1,_,_=>rfl
   | 3,2,_,_=>rfl⟩
def asC(R t:Nat)(ins:List (CE × CE))(pcs:List AV)(outs:List CE):BC:=λf xs H _ t0=>match xs with
 | [.sl o 0 n none,.sl o2 0 n2 none]=>(match lk H o,lk H o2 with
  | some ⟨T,5,cs,true,none⟩,some ⟨T2,1,cs2,true,none⟩=>if Nat.ble 1 t && Nat.beq f 44 && Nat.beq n R && Nat.beq n2 t && !Nat.beq o o2 && Nat.beq T 78 && Nat.beq T2 3 && GS cs (ins.flatMap lnO) && GS cs2 pcs && H.all (λz=>Nat.beq z.1 o || Nat.beq z.1 o2) then some (.sl t0 0 t (some t),[(t0,RN (outs.map aL))]) else none
  | _,_=>none)
 | _=>none
section
variable {V V' : VL}
theorem AaD:∀{ins:List (CE × CE)}{k0:Nat},(∀(j:Nat)(p:CE × CE),ins[j]? = some p→qD V p.1=qD V' (.v (k0+j))∧lD V p.2=lD V' (.v (k0+j)))→Rc (Ab V) (Ab V') (ins.flatMap lnO) ((List.range' k0 ins.length).flatMap sQ)
 | [],k0,_=>IE
 | p :: l,k0,hp=>by
  obtain ⟨e1,e2⟩:=hp 0 p rfl;rw [List.length_cons,List.range'_succ,List.flatMap_cons,List.flatMap_cons];refine CS (Ads (by rw [e1,Nat.add_zero])) (CS (JR (by rw [e2,Nat.add_zero])) ?_);refine AaD λj p hj=>?_
  have:=hp (j+1) p (by simpa using hj);rw [show k0+(j+1)=k0+1+j by omega] at this;exact this
theorem Aai:∀{outs:List CE}{k0:Nat},(∀(j:Nat)(e:CE),outs[j]? = some e→lD V' (YK (k0+j))=lD V e)→Rc (Ab V') (Ab V) ((List.range' k0 outs.length).map λi=>aL (YK i)) (outs.map aL)
 | [],k0,_=>IE
 | e :: l,k0,hp=>by
  have e1:=hp 0 e rfl;rw [List.length_cons,List.range'_succ,List.map_cons,List.map_cons];refine CS (JR (by rw [← e1,Nat.add_zero])) ?_;refine Aai λj e hj=>?_
  have:=hp (j+1) e (by simpa using hj);rw [show k0+(j+1)=k0+1+j by omega] at this;exact this
end
theorem Adg{V:VL}{R t C:Nat}{row:Nat→List Rat}{fac:Nat→Rat}{p:Nat→Nat}{ins:List (CE × CE)}{pcs:List AV}{outs:List CE}(h:Acz R row p t C)(hR:R≤5)(ht:1≤t)(ht4:t≤4)(htR:t≤R)(hC:C≤6)
  (hi:ins.length=R) (hin:∀(j:Nat)(x:CE × CE),ins[j]? = some x→qD V x.1=fac j∧lD V x.2=row j) (ho:outs.length=t) (hout:∀(j:Nat)(e:CE),outs[j]? = some e→lD V e=kH row p (FX row p t) t j)
  (hp1:Rc (Ab V) (Ab (Dn row fac p t C)) pcs (Wt t)) (hp2:Rc (Ab (Dn row fac p t C)) (Ab V) (Wt t) pcs):@BZ (Ab V) (asC R t ins pcs outs):=by
 intro f xs H n0 t0 r U hr;unfold asC at hr;split at hr
 ·rename_i o n o2 n2
  split at hr
  ·rename_i T cs T2 cs2 eo eo2
   split at hr
   ·rename_i hcond
    cases hr
    simp only [Bool.and_eq_true] at hcond;obtain ⟨⟨⟨⟨⟨⟨⟨⟨⟨c0,c1⟩,c2⟩,c3⟩,c4⟩,c5⟩,c6⟩,c7⟩,c8⟩,c9⟩:=hcond;have c1:=Nat.eq_of_beq_eq_true c1;have c2:=Nat.eq_of_beq_eq_true c2;have c3:=Nat.eq_of_beq_eq_true c3;have c5:=Nat.eq_of_beq_eq_true c5;have c6:=Nat.eq_of_beq_eq_true c6;have c7:=DF c7;have c8:=DF c8;subst c1;subst c2;subst c3;subst c5;subst c6;subst c7;subst c8;have hne:o≠o2:=λe=>by
     subst e;simp at c4
    have hkeys:∀ x b,lk H x=some b→x=o ∨ x=o2:=λx b e=>by
     obtain ⟨z,hz,rfl⟩:=fV e;have:=List.all_eq_true.1 c9 z hz;rw [Bool.or_eq_true] at this
     rcases this with h | h
     ·exact .inl (Nat.eq_of_beq_eq_true h)
     ·exact .inr (Nat.eq_of_beq_eq_true h)
    obtain ⟨bits,hbl,hb⟩:=pZ (λi k=>decide ((row i).getD (p k) 0=0)) n2 ht4;generalize hV':Dn row fac p n2 C=V' at hp1 hp2;have hF:Bq V' (tI n n2 bits):=by rw [← hV']; exact Ahn h hR ht ht4 htR hC hb
    have hL:∀ e∈nE n2 bits,@PE.ok (Ab V') e:=by rw [← hV']; exact Abk h hR ht ht4 htR hC hb
    have hrun:BW AK (DC (Yx (tI n n2 bits) (nE n2 bits)) AK 300) 44 (eU n n2) (TF n n2) 32 0=_:=AbE hR ht ht4 htR hbl;obtain ⟨hpl,hcall⟩:=@DE (Ab V') _ _ Bp _ (@EP (Ab V') _ _ (QG hF hL) Bp 300).1 _ _ (TF n n2) 32 0 _ _ hrun;refine ⟨hpl,λρ M w vs hs hdom htn hv=>?_⟩;have l1:Rc (Ab V) (Ab V') (ins.flatMap lnO) ((List.range n).flatMap sQ):=by
     have:=AaD (V:=V) (V':=V') (ins:=ins) (k0:=0) λj x hj=>by
      have hjl:j<n:=by
       rw [← hi];exact (List.getElem?_eq_some_iff.1 hj).1
      obtain ⟨a1,a2⟩:=hin j x hj;rw [Nat.zero_add,← hV',Oz (by omega),a1,a2];exact ⟨by simp only [qD,Dn],rfl⟩
     rw [hi,← List.range_eq_range'] at this;exact this
    have l2:Rc (Ab V') (Ab V) ((List.range n).flatMap sQ) (ins.flatMap lnO):=by
     have:=jM (V:=V) (V':=V') (outs:=ins) (k0:=0) λj x hj=>by
      have hjl:j<n:=by
       rw [← hi];exact (List.getElem?_eq_some_iff.1 hj).1
      obtain ⟨a1,a2⟩:=hin j x hj;rw [Nat.zero_add,← hV',Oz (by omega),a1,a2];exact ⟨by simp only [qD,Dn],rfl⟩
     rw [hi,← List.range_eq_range'] at this;exact this
    have l3:Rc (Ab V') (Ab V) (OY n2) (outs.map aL):=by
     have:=Aai (V:=V) (V':=V') (outs:=outs) (k0:=0) λj e hj=>by
      have hjl:j<n2:=by
       rw [← ho];exact (List.getElem?_eq_some_iff.1 hj).1
      rw [Nat.zero_add,← hV',zF (by omega),hout j e hj]
     rw [ho,← List.range_eq_range'] at this;exact this
    let σ:Nat→Option Nat:=λk=>if k=16 then some o else if k=17 then some o2 else none
    have hcan:Mt (Ab V) (Ab V') H (TF n n2) σ:=by
     refine ⟨λx y o h1 h2=>?_,λx o h1=>?_,λx b' e=>?_,λx b e=>?_⟩
     ·dsimp only [σ] at h1 h2
      split at h1 <;> split at h2 <;> simp_all
     ·dsimp only [σ] at h1
      split at h1
      ·omega
      ·split at h1
       ·omega
       ·cases h1
     ·unfold TF lk at e
      split at e
      ·rename_i hx
       have hx:=Nat.eq_of_beq_eq_true hx;subst hx
       cases e
       exact ⟨o,_,_,rfl,eo,rfl,rfl,l1⟩
      ·unfold lk at e
       split at e
       ·rename_i hx
        have hx:=Nat.eq_of_beq_eq_true hx;subst hx
        cases e
        exact ⟨o2,_,_,rfl,eo2,rfl,rfl,hp1⟩
       ·cases e
     ·rcases hkeys x b e with rfl | rfl
      ·exact ⟨16,_,rfl,rfl⟩
      ·exact ⟨17,_,rfl,rfl⟩
    have hs':=hcan.st0 hs;obtain ⟨va,_,rfl,h1,vb,_,rfl,h2,h5⟩:=hv;have h5:_=[]:=h5;subst h5;have hv':@CH (Ab V') (DJ σ ρ) M w (eU n n2) [va,vb]:=by
     refine ⟨va,_,rfl,?_,vb,_,rfl,?_,rfl⟩
     ·have h1:@Rp (Ab V) ρ M w (.sl o 0 n none) [va]:=h1
      show @Rp (Ab V') (DJ σ ρ) M w (.sl 16 0 n none) [va];unfold Rp at h1 ⊢;exact h1
     ·have h2:@Rp (Ab V) ρ M w (.sl o2 0 n2 none) [vb]:=h2
      show @Rp (Ab V') (DJ σ ρ) M w (.sl 17 0 n2 none) [vb];unfold Rp at h2 ⊢;exact h2
    have hd':∀ x p,DJ σ ρ x=some p→x<32:=λx p e=>by
     unfold DJ at e;obtain ⟨o,ho,_⟩:=Option.bind_eq_some_iff.1 e;dsimp only [σ] at ho;split at ho
     ·omega
     ·split at ho
      ·omega
      ·cases ho
    have hno:∀ x b,lk H x=some b→t0≠x:=λx b e q=>by
     obtain ⟨⟨hobj,_⟩,_,hnew,_⟩:=id hs;obtain ⟨g,c',arr,cs',q1,_⟩:=hobj x b e;rw [hnew x (by omega) (by omega)] at q1
     cases q1
    refine Calls.mono (hcall (DJ σ ρ) M w _ hs' hd' (by decide) hv') λe w' ⟨v,e1,hpost⟩=>⟨v,e1,hcan.back hs hpost (λρ' ρ2 M' hτ hr=>?_) (λx b e=>?_) (λx b' e hy=>?_)⟩
    ·have hr:@Rp (Ab V') ρ' M' w' (.sl 0 0 n2 (some n2)) [v]:=hr
     show @Rp (Ab V) ρ2 M' w' (.sl t0 0 n2 (some n2)) [v];unfold Rp at hr ⊢;obtain ⟨g,c',k,q1,q2⟩:=hr;exact ⟨g,c',k,hτ 0 t0 _ rfl q1,q2⟩
    ·simp only [CQ] at e
     split at e
     ·rename_i hx
      cases e
      have hx:=Nat.eq_of_beq_eq_true hx;subst hx;exact ⟨0,_,_,rfl,rfl,rfl,rfl,l3⟩
     ·rcases hkeys x b e with rfl | rfl
      ·rw [eo] at e
       cases e
       exact ⟨16,_,_,rfl,rfl,rfl,rfl,l2⟩
      ·rw [eo2] at e
       cases e
       exact ⟨17,_,_,rfl,rfl,rfl,rfl,hp2⟩
    ·obtain ⟨y,hy,rfl⟩:=hy
     have:y=(0,RN (OY n2)):=by
      have hy:y∈[(0,RN (OY n2))]:=hy;simpa using hy
     subst this
     cases e
   ·cases hr
  ·cases hr
 ·cases hr
def NQ(t:Nat):List CE:=(List.range t).map λi=>.v (60+i)
def Aik(R C t:Nat):BC:=orC (loC (fC R C)) (orC (deC R C (OM R C) (GG R) (GN t)) (asC R t (GG R) (GN t) (NQ t)))
noncomputable def Aif(R C t:Nat):=BW AK (DC (TT (Afe R C) [] (Aik R C t)) AK 200) 12 [aM (Mp 0 R)] [] 16 0
def kdX(U:HP):AV→Option CE
 | .val (.slice none 0 0)=>some (.lit 0)
 | a=>match Z5 U .X a with
  | some (.ext 1 false (.ap 65 e (.lit 0)))=>some e
  | _=>none
def kdN(U:HP):AV→Option CE
 | .val (.slice none 0 0)=>some (.lit 0)
 | a=>match Z5 U .M a with
  | some (.ext 1 false (.ap 64 e (.lit 0)))=>some e
  | _=>none
def ixC:List CE→CE
 | []=>.lit 0
 | e :: l=>.ap 82 e (ixC l)
def AgX(t:Nat):CE:=ixC ((List.range t).map λi=>.i (1+i) 0)
noncomputable def Ack(R C t:Nat):Bool:=match Aif R C t with
 | some (.tup [a,b],U)=>(match kdN U a,kdX U b with
  | some m,some x=>CE.beq m (Sd (NQ t)) && CE.beq x (AgX t)
  | _,_=>false)
 | _=>false
noncomputable def Vg(R C:Nat):Bool:=(List.range (min (min R C) 4+1)).all λt=>Ack R C t
noncomputable def Tl(R c n:Nat):Bool:=(List.range n).all λC=>Vg R (c+C)
theorem AiH:Tl 1 0 6=true:=by kernel_rfl
theorem AiC:Tl 2 0 6=true:=by kernel_rfl
theorem AiQ:Tl 3 0 6=true:=by kernel_rfl
theorem Ain:Tl 4 0 4=true:=by kernel_rfl
theorem Ahp:Tl 4 4 2=true:=by kernel_rfl
theorem Aio:Tl 5 0 4=true:=by kernel_rfl
theorem Ahc:Tl 5 4 2=true:=by kernel_rfl
def rwN(m:List (List Rat))(C i:Nat):List Rat:=(Cd (Bm (BE m) C).2 i).2
def fcN(m:List (List Rat))(C i:Nat):Rat:=(Cd (Bm (BE m) C).2 i).1
def NJ(m:List (List Rat))(C i:Nat):Nat:=(Bm (BE m) C).1.getD i 0
def SS(m:List (List Rat))(C i:Nat):List Rat:=kH (rwN m C) (NJ m C) (FX (rwN m C) (NJ m C) (A8 m C)) (A8 m C) i
def BV(m:List (List Rat))(C:Nat):List (List Rat):=(List.range (A8 m C)).map (SS m C)
def Db(m:List (List Rat))(C:Nat):VL:=⟨(Jr m C).z,λk=>if 60≤k then (BV m C).getD (k - 60) [] else (Jr m C).l k,(Jr m C).q,λ_=>[]⟩
section
variable {m : List (List Rat)} {C : Nat}
theorem MF(h:BU C m)(hC:C≤6):Nu m.length C 300 300 C (Bm (BE m) C):=by
 have hlen:(BE m).length=m.length:=by simp [BE]
 have:=Ls (L0:=BE m) (C:=C) (s:=300) (B:=300) (by decide) (by decide) (λk hk=>h.ln (by rw [← hlen]; exact hk)) C hC;rw [hlen] at this;exact this
theorem Wl(h:BU C m)(hC:C≤6):sF (fM m) m.length (A8 m C) C (λi j=>(rwN m C i).getD j 0) (NJ m C):=by
 have hlen:(BE m).length=m.length:=by simp [BE]
 obtain ⟨s1,s2⟩:=kS h;rw [← hlen] at s1 s2;have:=R6 (L:=BE m) (by decide) (by decide) (λk hk=>h.ln (by omega)) s1 s2 C hC;rw [hlen] at this;exact this
theorem XL(h:BU C m)(hC:C≤6):Acz m.length (rwN m C) (NJ m C) (A8 m C) C:=by
 have ok:=MF h hC;have he:=Wl h hC;exact ⟨λi hi=>(ok.ln i hi).len,λi hi x hx=>((ok.ln i hi).ints.rsm (RX (by decide) C) hx).mono (PM (by decide) C hC),λi hi=>he.piv i hi,λi hi=>he.lt i hi⟩
theorem D7(h:BU C m)(hC:C≤6):A8 m C≤m.length∧A8 m C≤C:=⟨(MF h hC).tR,(MF h hC).tn⟩
theorem GL{i:Nat}(hi:i<A8 m C):(BV m C).getD i []=SS m C i:=by
 unfold BV;rw [List.getD_eq_getElem?_getD,List.getElem?_map,List.getElem?_range hi];rfl
theorem iF(h:BU C m)(hC:C≤6){i:Nat}(hi:i<A8 m C):(SS m C i).length=C:=by
 have hr:=(D7 h hC).1;unfold SS kH;rw [show ∀(l:List Rat) c,(SD l c).length=l.length from λl c=>by simp [SD],RF hi,(XL h hC).len i (by omega)]
theorem Red.congr{t:Nat}{F F':Nat→Nat→Rat}{p:Nat→Nat}(h:Red t F p)(e:∀ i,i<t→∀ j,F' i j=F i j):Red t F' p:=
 ⟨λi hi=>by rw [e i hi]; exact h.one i hi,λi k hi hk hik=>by rw [e i hi]; exact h.zero i k hi hk hik,λi j hi hj=>by rw [e i hi]; exact h.low i j hi hj,h.inc⟩
theorem Sp.congrR{r t:Nat}{M F F':Nat→Nat→Rat}(h:Sp r M t F)(e:∀ i,i<t→∀ j,F' i j=F i j):Sp r M t F':=λi hi=>by
 obtain ⟨k,hk⟩:=h i hi;exact ⟨k,λj=>(hk j).trans (CA λl hl=>by rw [e l hl])⟩
theorem Gw(h:BU C m)(hC:C≤6):Red (A8 m C) (fM (BV m C)) (NJ m C)∧Sp m.length (fM m) (A8 m C) (fM (BV m C))∧Sp (A8 m C) (fM (BV m C)) m.length (fM m)∧∀ i,i<A8 m C→NJ m C i<C:=by
 have he:=Wl h hC;have ok:=MF h hC;have ha:=XL h hC;have hr:=(D7 h hC).1;have e1:∀ i,i<A8 m C→∀ j,fM (BV m C) i j=(SS m C i).getD j 0:=λi hi j=>by
  unfold fM;rw [GL hi]
 have hF:∀ i,i<A8 m C→∀ j,(λi j=>(SS m C i).getD j 0) i j=oI (A8 m C) (λi j=>(rwN m C i).getD j 0) (λi j=>(SS m C i).getD j 0) (NJ m C) i j:=λi hi j =>
  Acy (C:=C) (λi hi=>ha.len i (by omega)) (ha.nz _ (by omega)) ha.nz hi j
 obtain ⟨r1,r2⟩:=AaS he hF;have z:∀ k,A8 m C≤k→k<m.length→∀ j,(rwN m C k).getD j 0=0:=λk h1 h2 j=>by
  by_cases hj:j<C
  ·exact he.zero k j h1 h2 hj
  ·exact GC (by rw [ha.len k h2]; omega)
 refine ⟨r1.congr e1,((Sp.cut he.to he.tr z).trans r2).congrR e1,λi hi=>?_,he.lt⟩;refine In.congr ((lP hF i hi).trans λk hk=>he.fro k (by omega)) (e1 i hi)
theorem ZH{k:Nat}(hk:k<60):(Db m C).l k=(Jr m C).l k:=by
 show (if 60≤k then _ else _)=_;rw [if_neg (by omega)]
theorem AcY{k:Nat}(hk:k<10)(hl:(m.getD k []).length=C):lD (Db m C) (Ac2 k C)=m.getD k []:=by
 have e:∀ i,qD (Db m C) (GU k i)=(m.getD k []).getD i 0:=λi=>by
  simp only [GU,qD,lD];rw [ZH (by omega),sK hk];simp only [zD,Db,Jr]
  congr 1
  simp
 unfold Ac2;rw [F0,List.map_map];generalize m.getD k []=r at e hl;apply List.ext_getElem
 ·simp [hl]
 ·intro i h1 h2
  simp only [List.getElem_map,List.getElem_range,Function.comp];rw [e,List.getD_eq_getElem?_getD,List.getElem?_eq_getElem h2];rfl
theorem AiG(hR:m.length≤9):mD (Db m C) (Mp 0 m.length)=m:=by
 rw [OI];apply List.ext_getElem
 ·simp
 ·intro i h1 h2
  simp only [List.getElem_map,List.getElem_range',Nat.zero_add,Nat.one_mul];rw [ZH (by omega),sK (by omega),List.getD_eq_getElem?_getD,List.getElem?_eq_getElem h2];rfl
theorem yV(V:VL):∀ l:List CE,iL V (ixC l)=l.map (zD V)
 | []=>by simp [ixC,iL]
 | e :: l=>by
  unfold ixC;rw [List.map_cons,← yV V l];simp only [iL]
theorem YC{R C t:Nat}(hR:R≤5)(hR1:1≤R)(hC:C≤5)(ht:t≤R)(htC:t≤C)(ht4:t≤4):Ack R C t=true:=by
 have pick:∀{R c n:Nat},Tl R c n=true→c≤C→C<c+n→Vg R C=true:=fun {R c n} h h1 h2=>by
  have:=List.all_eq_true.1 h (C - c) (List.mem_range.2 (by omega));rwa [show c+(C - c)=C by omega] at this
 have hall:Vg R C=true:=by
  match R,hR,hR1 with
  | 1,_,_=>exact pick AiH (by omega) (by omega)
  | 2,_,_=>exact pick AiC (by omega) (by omega)
  | 3,_,_=>exact pick AiQ (by omega) (by omega)
  | 4,_,_ =>
   by_cases h:C<4
   ·exact pick Ain (by omega) (by omega)
   ·exact pick Ahp (by omega) (by omega)
  | 5,_,_ =>
   by_cases h:C<4
   ·exact pick Aio (by omega) (by omega)
   ·exact pick Ahc (by omega) (by omega)
 exact List.all_eq_true.1 hall t (List.mem_range.2 (by omega))
theorem xS{V:VL}{F:Fa}{ρ:Bi}{M M':Nat→Prop}{w w0:World}(hF:Bq V F)(hm0:∀ b,M b→b<w0.heap.size){U:HP}(hR:@RH (Ab V) ρ M' (Dc BP w0 (lk [])) w (CQ (lk []) U))(hsup:∀ b,M b→M' b){a:AV}{e:CE}{v:Value}(h:kdX U a=some e)(hv:@BA (Ab V) ρ M' w a v):(XP.ixs (iL V e)).p M w [v]:=by
 unfold kdX at h;split at h
 ·cases h
  have hv:v = .slice none 0 0:=hv;subst hv;exact ⟨none,0,rfl,Nat.le_refl _,λh=>absurd rfl h⟩
 ·split at h
  ·rename_i e' hk
   cases h
   have:=Dl (M:=M) hF hm0 hsup hR hk hv;have this:@Rp (Ab V) BP M w _ [v]:=this;unfold Rp at this;exact this.2
  ·cases h
theorem zY{V:VL}{F:Fa}{ρ:Bi}{M M':Nat→Prop}{w w0:World}(hF:Bq V F)(hm0:∀ b,M b→b<w0.heap.size){U:HP}(hR:@RH (Ab V) ρ M' (Dc BP w0 (lk [])) w (CQ (lk []) U))(hsup:∀ b,M b→M' b){a:AV}{e:CE}{v:Value}(h:kdN U a=some e)(hv:@BA (Ab V) ρ M' w a v):(XP.mat (mD V e)).p M w [v]:=by
 unfold kdN at h;split at h
 ·cases h
  have hv:v = .slice none 0 0:=hv;subst hv;exact ⟨none,0,rfl,Nat.le_refl _,λh=>absurd rfl h⟩
 ·split at h
  ·rename_i e' hk
   cases h
   have:=Dl (M:=M) hF hm0 hsup hR hk hv;have this:@Rp (Ab V) BP M w _ [v]:=this;unfold Rp at this;exact this.2
  ·cases h
theorem X4{V:VL}{F:Fa}{M:Nat→Prop}{w:World}{L:List PE}{C:BC}{f m:Nat}{xs:List AV}{a:AV}{U:HP}(hF:Bq V F)(hL:∀ e∈L,@PE.ok (Ab V) e)(hC:@BZ (Ab V) C)(hr:BW AK (DC (TT F L C) AK m) f xs [] 16 0=some (a,U)){vs:List Value}(hm0:∀ b,M b→b<w.heap.size)(hv:@CH (Ab V) BP M w xs vs) :
  Calls Tryz.prog f vs.toArray w λe w'=>∃ u ρ' M',e = .returned u ∧ @RV (Ab V) ρ' M' w' a u ∧ @RH (Ab V) ρ' M' (Dc BP w (lk [])) w' (CQ (lk []) U)∧(∀ b,M b→M' b)∧Below w.heap.size w w':=by
 letI:=Ab V
 obtain ⟨_,hcall⟩:=DE Bp (EP (T:=TT F L C) (@Fo.mk (Ab V) _ (EC hF hL) (F7 hF) hC) Bp m).1 f xs [] 16 0 _ _ hr;have hs:CL BP M (Dc BP w (lk [])) w 0 (lk []):=⟨⟨λo b e=>(by cases e),λo o' b b' g c c' e=>(by cases e)⟩,hm0,λ_ _ _=>rfl,λb hb=>.inl hb⟩;refine Calls.mono (hcall BP M w vs hs (λo p e=>(by cases e)) (by decide) hv) λe w' ⟨v,e1,ρ',M',ht,hv',hR,_,hsup,_,_,hfr,_⟩=>⟨v,ρ',M',e1,hv',hR,hsup,⟨hfr.os,hfr.tape,hfr.output,hfr.size,λb hb=>hfr.keep b hb ?_⟩⟩
 rintro (h1 | ⟨_,_,_,h1,_⟩)
 ·omega
 ·cases h1
theorem AeW(h:BU C m)(hR:m.length≤5)(hR1:1≤m.length)(hC:C≤5)(ht4:A8 m C≤4){M:Nat→Prop}{w:World}{v:Value}(hm0:∀ b,M b→b<w.heap.size)(hv:(XP.mat m).p M w [v]) :
  Calls Tryz.prog 12 #[v] w λe w'=>∃ u1 u2,e = .returned (.tuple #[u1,u2])∧(XP.mat (BV m C)).p M w' [u1]∧(XP.ixs ((List.range (A8 m C)).map λi=>(NJ m C i:Int))).p M w' [u2]∧Below w.heap.size w w':=by
 have hlen:(BE m).length=m.length:=by simp [BE]
 have hok:=MF h (by omega:C≤6);obtain ⟨htR,htC⟩:=D7 h (by omega:C≤6);have hzr:(Db m C).z=(Jr m C).z:=rfl;have hF:Bq (Db m C) (Afe m.length C):=by
  refine ⟨rfl,λk=>?_,λx hx=>(by cases hx),λx hx=>?_,λx hx=>?_,λx hx=>(by cases hx),λx hx=>(by cases hx),λx hx=>(by cases hx),λx hx=>(by cases hx)⟩
  ·rw [hzr]
   simp only [Jr];split
   ·have:(Bm (BE m) C).1.getD (k - 1) 0≤6:=by
     by_cases hk:k - 1<(Bm (BE m) C).1.length
     ·rw [List.getD_eq_getElem?_getD,List.getElem?_eq_getElem hk]
      have:=hok.lt _ (List.getElem_mem hk);simp only [Option.getD_some];omega
     ·rw [List.getD_eq_getElem?_getD,List.getElem?_eq_none (by omega)]
      simp
    omega
   ·omega
  ·obtain ⟨k,hk,rfl⟩:=List.mem_map.1 hx
   have hk:=List.mem_range.1 hk;show ((lD _ (.v k)).length:Int)=(Db m C).z 0+C;rw [show lD (Db m C) (.v k)=m.getD k [] by simp only [lD]; rw [ZH (by omega)]; exact sK (by omega),(h.row hk).1];simp [Db,Jr]
  ·obtain ⟨k,hk,rfl⟩:=List.mem_map.1 hx
   have hk:=List.mem_range.1 hk;intro y hy;have hy:y∈lD (Db m C) (.v k):=hy;rw [show lD (Db m C) (.v k)=m.getD k [] by simp only [lD]; rw [ZH (by omega)]; exact sK (by omega)] at hy;obtain ⟨_,D,s,h2,h3,_⟩:=h.row hk;exact (h2.rsm hy).mono h3
 have hrun:=YC hR hR1 hC htR htC ht4;have hq1:∀ k,k<10→qD (Db m C) (.v k)=Ef (m.getD k []):=λk hk=>by
  simp only [qD,Db,Jr];rw [if_pos hk]
 have hl1:∀ k,k<10→lD (Db m C) (.v (10+k))=Cp (m.getD k []):=λk hk=>by
  simp only [lD];rw [ZH (by omega)];simp only [Jr];rw [if_neg (by omega),if_pos (by omega),show 10+k - 10=k by omega]
 have hq2:∀ k,k<10→qD (Db m C) (.v (20+k))=(Cd (Bm (BE m) C).2 k).1:=λk hk=>by
  simp only [qD,Db,Jr];rw [if_neg (by omega),if_neg (by omega),show 20+k - 20=k by omega]
 have hl2:∀ k,k<10→lD (Db m C) (.v (20+k))=(Cd (Bm (BE m) C).2 k).2:=λk hk=>by
  simp only [lD];rw [ZH (by omega)];simp only [Jr];rw [if_neg (by omega),if_neg (by omega),show 20+k - 20=k by omega]
 have hzp:∀ i,i<6→(Db m C).z (1+i)=(NJ m C i:Int):=λi hi=>by
  rw [hzr];simp only [Jr];rw [if_pos (by omega),show 1+i - 1=i by omega];rfl
 have hl3:∀ i,lD (Db m C) (.v (60+i))=(BV m C).getD i []:=λi=>by
  simp only [lD,Db];rw [if_pos (by omega),show 60+i - 60=i by omega]
 have hC1:@BZ (Ab (Db m C)) (loC (fC m.length C)):=AbM hF λx hx=>by
  obtain ⟨k,hk,rfl⟩:=List.mem_map.1 hx;have hk:=List.mem_range.1 hk;obtain ⟨r1,D,s,r2,r3,r4⟩:=h.row hk;dsimp only;rw [AcY (by omega) r1];exact ⟨⟨D,s,r2,by omega,r4⟩,by omega,hq1 k (by omega),hl1 k (by omega)⟩
 have hC2:@BZ (Ab (Db m C)) (deC m.length C (OM m.length C) (GG m.length) (GN (A8 m C))):=by
  have:=Abl (V:=Db m C) (L0:=BE m) (C:=C) (s:=300) (B:=300) (ins:=OM m.length C) (outs:=GG m.length) (pcs:=GN (A8 m C)) rfl (by omega) (by omega) (by omega) (by decide) (by decide) (by decide) (λk hk=>h.ln (by rw [← hlen]; exact hk)) (by simp [OM,hlen]) (λj p hj=>?_) (by simp [GG,hlen]) (λj p hj=>?_) (by simp [GN,A8]) ?_
  ·rw [hlen] at this
   exact this
  ·have hjl:j<m.length:=by
    have:=(List.getElem?_eq_some_iff.1 hj).1;simpa [OM] using this
   unfold OM at hj;rw [List.getElem?_map,List.getElem?_range hjl] at hj
   cases hj
   dsimp only;rw [JO hjl]
   by_cases c0:C=0
   ·have e0:m.getD 0 []=m.getD j []:=by
     have h0:=(h.row (k:=0) (by omega)).1;have h1:=(h.row hjl).1;rw [List.length_eq_zero_iff.1 (h0.trans c0),List.length_eq_zero_iff.1 (h1.trans c0)]
    have:Zt C j=0:=by
     unfold Zt;rw [if_pos c0]
    rw [this,hq1 0 (by omega),hl1 0 (by omega),e0];exact ⟨rfl,rfl⟩
   ·have:Zt C j=j:=by
     unfold Zt;rw [if_neg c0]
    rw [this,hq1 j (by omega),hl1 j (by omega)];exact ⟨rfl,rfl⟩
  ·have hjl:j<m.length:=by
    have:=(List.getElem?_eq_some_iff.1 hj).1;simpa [GG] using this
   unfold GG at hj;rw [List.getElem?_map,List.getElem?_range hjl] at hj
   cases hj
   dsimp only;exact ⟨hq2 j (by omega),hl2 j (by omega)⟩
  ·have hpl:(GN (A8 m C)).length=A8 m C:=by simp [GN]
   rw [hpl];unfold GN;refine RJ λi hi=>S0 ?_
   have hi:=List.mem_range.1 hi;unfold iD;rw [XB (by omega),hzp i (by omega)];rfl
 have hC3:@BZ (Ab (Db m C)) (asC m.length (A8 m C) (GG m.length) (GN (A8 m C)) (NQ (A8 m C))):=by
  by_cases h0:A8 m C=0
  ·intro f xs H n0 t0 r U hr
   rw [h0] at hr;unfold asC at hr;split at hr
   ·split at hr
    ·split at hr
     ·rename_i hcond
      simp at hcond
     ·cases hr
    ·cases hr
   ·cases hr
  ·have ha:=XL h (by omega:C≤6)
   refine Adg (V:=Db m C) (fac:=fcN m C) ha hR (by omega) ht4 htR (by omega) (by simp [GG]) (λj x hj=>?_) (by simp [NQ]) (λj e hj=>?_) ?_ ?_
   ·have hjl:j<m.length:=by
     have:=(List.getElem?_eq_some_iff.1 hj).1;simpa [GG] using this
    unfold GG at hj;rw [List.getElem?_map,List.getElem?_range hjl] at hj
    cases hj
    dsimp only;exact ⟨hq2 j (by omega),hl2 j (by omega)⟩
   ·have hjl:j<A8 m C:=by
     have:=(List.getElem?_eq_some_iff.1 hj).1;simpa [NQ] using this
    unfold NQ at hj;rw [List.getElem?_map,List.getElem?_range hjl] at hj
    cases hj
    dsimp only;rw [hl3,GL hjl];rfl
   ·unfold GN Wt
    refine RJ λi hi=>S0 ?_
    have hi:=List.mem_range.1 hi;unfold iD;rw [WG hi ht4,hzp i (by omega)]
   ·unfold GN Wt
    refine RJ λi hi=>S0 ?_
    have hi:=List.mem_range.1 hi;unfold iD;rw [WG hi ht4,hzp i (by omega)]
 unfold Ack at hrun;split at hrun
 ·rename_i a b U hw
  split at hrun
  ·rename_i mm xx hk1 hk2
   rw [Bool.and_eq_true] at hrun;refine Calls.mono (X4 (M:=M) (w:=w) (vs:=[v]) hF (λ_ h=>by cases h) (@UB (Ab (Db m C)) _ _ hC1 (@UB (Ab (Db m C)) _ _ hC2 hC3)) hw hm0 ⟨v,_,rfl,KJ (by rw [AiG (by omega)]; exact hv),rfl⟩) λe w' ⟨u,ρ',M',e1,e2,e3,e4,e5⟩=>?_
   obtain ⟨vs,rfl,va,r1,q1,k1,vb,r2,q2,k2,k5⟩:=e2;have k5:_=[]:=k5;subst k5;subst q2;have q1:vs = #[va,vb]:=Array.toList_inj.1 q1;subst q1;have k1:=zY (M:=M) hF hm0 e3 e4 hk1 k1;have k2:=xS (M:=M) hF hm0 e3 e4 hk2 k2;refine ⟨va,vb,e1,?_,?_,e5⟩
   ·have:mD (Db m C) mm=BV m C:=by
     rw [CE.beq_eq hrun.1,Rb];unfold NQ;rw [List.map_map];apply List.ext_getElem
     ·simp [BV]
     ·intro i i1 i2
      simp only [List.getElem_map,List.getElem_range,Function.comp];rw [hl3,List.getD_eq_getElem?_getD,List.getElem?_eq_getElem i2];rfl
    rw [← this];exact k1
   ·have:iL (Db m C) xx=(List.range (A8 m C)).map λi=>(NJ m C i:Int):=by
     rw [CE.beq_eq hrun.2];unfold AgX;rw [yV,List.map_map];refine List.map_congr_left λi hi=>?_
     have hi:=List.mem_range.1 hi;show (Db m C).z (1+i)+0=_;rw [hzp i (by omega),Int.add_zero]
    rw [← this];exact k2
  ·cases hrun
 ·cases hrun
end
noncomputable def So(R:Nat)(ps:List Nat):PE:=⟨12,λxs=>match xs with
 | [.ext 1 false (.ap 64 mm _)]=>if CE.beq mm (Mp 0 R) then some (.tup [aM (Sd (NQ ps.length)),.row ps.length (ps.map λp:Nat=>.val (.int .i64 (p:Int)))]) else none
 | _=>none⟩
def AfD(R C t:Nat):Fa:=⟨[],((List.range R).map λk=>(.v k,0,(C:Int))) ++ (List.range t).map λk=>(.v (60+k),0,(C:Int)),((List.range R).map λk=>(.v k,300)) ++ (List.range t).map λk=>(.v (60+k),1920000),[],[],[],[]⟩
noncomputable def Aid(R C:Nat)(ps:List Nat):=BW AK (DC (TT (AfD R C ps.length) [So R ps] Oy) AK 300) 22 [aM (Mp 0 R),.val (.int .i64 (C:Int))] [] 16 0
def q1C:CE:=.ap 36 (.lit 1) (.lit 1)
def q0C:CE:=.ap 36 (.lit 0) (.lit 1)
def VP(f j:Nat):Nat→List Nat→CE
 | _,[]=>if j=f then q1C else q0C
 | i,p :: ps=>if j=p then .ap 34 (GU (60+i) f) (.lit 0) else VP f j (i+1) ps
def Cb(C:Nat)(ps:List Nat):List Nat:=(List.range C).filter λf=>!memN f ps
def Acw(C:Nat)(ps:List Nat):CE:=Sd ((Cb C ps).map λf=>Fw ((List.range C).map λj=>VP f j 0 ps))
def kdO(U:HP):AV→Option CE
 | .val (.slice none 0 0)=>some (.lit 0)
 | a=>zU U a
noncomputable def kC(R C:Nat)(ps:List Nat):Bool:=match Aid R C ps with
 | some (a,U)=>(match kdO U a with
  | some m=>CE.beq m (Acw C ps)
  | none=>false)
 | none=>false
def LQ(C:Nat):Nat→Nat→List (List Nat)
 | 0,_=>[[]]
 | n+1,c=>[] :: ((List.range (C - c)).flatMap λd=>(LQ C n (c+d+1)).map ((c+d) :: ·))
noncomputable def J5(R C:Nat):Bool:=(LQ C (min R 4) 0).all λps=>kC R C ps
noncomputable def Y8(R n:Nat):Bool:=(List.range n).all λC=>J5 R C
noncomputable def zP(R C n:Nat):Bool:=((LQ C (min R 4) 0).take n).all λps=>kC R C ps
noncomputable def zG(R C n:Nat):Bool:=((LQ C (min R 4) 0).drop n).all λps=>kC R C ps
theorem J3{α:Type}{l:List α}{p:α→Bool}{n:Nat}(h1:(l.take n).all p=true)(h2:(l.drop n).all p=true):l.all p=true:=by
 rw [← List.take_append_drop n l,List.all_append,h1,h2];rfl
theorem AiF:Y8 0 6=true:=by kernel_rfl
theorem Aij:Y8 1 6=true:=by kernel_rfl
theorem AiL:Y8 2 5=true:=by kernel_rfl
theorem AeP:J5 2 5=true:=by kernel_rfl
theorem Aic:Y8 3 5=true:=by kernel_rfl
theorem Aib:Y8 4 5=true:=by kernel_rfl
theorem Ab0:zP 3 5 13=true:=by kernel_rfl
theorem Acp:zG 3 5 13=true:=by kernel_rfl
theorem AcK:zP 4 5 16=true:=by kernel_rfl
theorem Abr:zG 4 5 16=true:=by kernel_rfl
theorem Afd:J5 3 5=true:=J3 Ab0 Acp
theorem Ae8:J5 4 5=true:=J3 AcK Abr
theorem Tj{C:Nat}:∀{n c:Nat}{ps:List Nat},ps.length≤n→(∀ x∈ps,c≤x∧x<C)→ps.Pairwise (· < ·)→ps∈LQ C n c
 | 0,c,ps,h,_,_=>by
  rw [List.length_eq_zero_iff.1 (Nat.le_zero.1 h)];exact List.mem_singleton.2 rfl
 | n+1,c,[],_,_,_=>List.mem_cons_self ..
 | n+1,c,x :: ps,h,hx,hp=>by
  unfold LQ;obtain ⟨h1,h2⟩:=hx x (List.mem_cons_self ..);have hp:=List.pairwise_cons.1 hp;refine List.mem_cons_of_mem _ (List.mem_flatMap.2 ⟨x - c,List.mem_range.2 (by omega),List.mem_map.2 ⟨ps,?_,by rw [show c+(x - c)=x by omega]⟩⟩);rw [show c+(x - c)=x by omega];exact Tj (by simpa using h) (λy hy=>⟨hp.1 y hy,(hx y (List.mem_cons_of_mem _ hy)).2⟩) hp.2
noncomputable def AeC:=BW AK (DC (TT ⟨[],[],[],[],[],[],[]⟩ [] Oy) AK 200) 12 [aM (.lit 0)] [] 16 0
noncomputable def zL:Bool:=match AeC with
 | some (.tup [a,b],U)=>(match kdN U a,kdX U b with
  | some m,some x=>CE.beq m (.lit 0) && CE.beq x (.lit 0)
  | _,_=>false)
 | _=>false
theorem rZ:zL=true:=by kernel_rfl
theorem vL{V:VL}(hz:∀ k,V.z k=0):Bq V ⟨[],[],[],[],[],[],[]⟩:=Ej hz (λx hx=>by cases hx) (λx hx=>by cases hx) (λx hx=>by cases hx) (λx hx=>by cases hx)
theorem Adq{M:Nat→Prop}{w:World}{v:Value}(hm0:∀ b,M b→b<w.heap.size)(hv:(XP.mat []).p M w [v]) :
  Calls Tryz.prog 12 #[v] w λe w'=>∃ u1 u2,e = .returned (.tuple #[u1,u2])∧(XP.mat []).p M w' [u1]∧(XP.ixs []).p M w' [u2]∧Below w.heap.size w w':=by
 let V:VL:=⟨λ_=>0,λ_=>[],λ_=>0,λ_=>[]⟩
 have hF:Bq V ⟨[],[],[],[],[],[],[]⟩:=vL λ_=>rfl
 have hrun:=rZ;unfold zL at hrun;split at hrun
 ·rename_i a b U hw
  split at hrun
  ·rename_i mm xx hk1 hk2
   rw [Bool.and_eq_true] at hrun;refine Calls.mono (X4 (V:=V) (M:=M) (w:=w) (vs:=[v]) hF (λ_ h=>by cases h) (@DU (Ab V)) hw hm0 ⟨v,_,rfl,KJ (by simp only [mD]; exact hv),rfl⟩) λe w' ⟨u,ρ',M',e1,e2,e3,e4,e5⟩=>?_
   obtain ⟨vs,rfl,va,r1,q1,k1,vb,r2,q2,k2,k5⟩:=e2;have k5:_=[]:=k5;subst k5;subst q2;have q1:vs = #[va,vb]:=Array.toList_inj.1 q1;subst q1;have k1:=zY (M:=M) hF hm0 e3 e4 hk1 k1;have k2:=xS (M:=M) hF hm0 e3 e4 hk2 k2;rw [CE.beq_eq hrun.1] at k1;rw [CE.beq_eq hrun.2] at k2;refine ⟨va,vb,e1,?_,?_,e5⟩
   ·simpa only [mD] using k1
   ·simpa only [iL] using k2
  ·cases hrun
 ·cases hrun
def GH(m:List (List Rat))(C:Nat):List Nat:=(List.range (A8 m C)).map (NJ m C)
section
variable {m : List (List Rat)} {C : Nat}
theorem G6:(GH m C).length=A8 m C:=by simp [GH]
theorem N7:(BV m C).length=A8 m C:=by simp [BV]
theorem fX(h:BU C m)(hR:m.length≤5)(hC:C≤5)(ht4:A8 m C≤4){M:Nat→Prop}{w:World}{v:Value}(hm0:∀ b,M b→b<w.heap.size)(hv:(XP.mat m).p M w [v]) :
  Calls Tryz.prog 12 #[v] w λe w'=>∃ u1 u2,e = .returned (.tuple #[u1,u2])∧(XP.mat (BV m C)).p M w' [u1]∧(XP.ixs ((GH m C).map λp:Nat=>(p:Int))).p M w' [u2]∧Below w.heap.size w w':=by
 by_cases h0:m.length=0
 ·have hm:=List.length_eq_zero_iff.1 h0
  have hle:=(D7 h (by omega)).1;have hr:A8 m C=0:=by omega
  have e1:BV m C=[]:=List.length_eq_zero_iff.1 (by rw [N7,hr]);have e2:GH m C=[]:=List.length_eq_zero_iff.1 (by rw [G6,hr]);rw [e1,e2];rw [hm] at hv;exact Adq hm0 hv
 ·have:=AeW h hR (by omega) hC ht4 hm0 hv
  unfold GH;rw [List.map_map];exact this
theorem AdA(h:BU C m)(hC:C≤6):(GH m C).Pairwise (· < ·):=by
 obtain ⟨r1,_⟩:=Gw h hC;unfold GH;rw [List.pairwise_map];rw [List.pairwise_iff_getElem];intro i j hi hj hij;simp only [List.getElem_range];exact r1.inc i j hij (by simpa using hj)
theorem Adh(h:BU C m)(hC:C≤6){x:Nat}(hx:x∈GH m C):x<C:=by
 obtain ⟨i,hi,rfl⟩:=List.mem_map.1 hx;exact (Gw h hC).2.2.2 i (List.mem_range.1 hi)
theorem Wq(h:BU C m)(hC:C≤5){n:Nat}(hn:A8 m C≤n):GH m C∈LQ C n 0:=Tj (by rw [G6]; exact hn) (λx hx=>⟨Nat.zero_le _,Adh h (by omega) hx⟩) (AdA h (by omega))
theorem XN(h:BU C m)(hR:m.length≤5)(hC:C≤6)(ht4:A8 m C≤4){i:Nat}(hi:i<A8 m C):∀ x∈SS m C i,AQ x 1920000:=λx hx=>by
 have ha:=XL h hC;have htR:=(D7 h hC).1;obtain ⟨y,hy,rfl⟩:=List.mem_map.1 hx;exact ((kP ha hR (by omega) ht4 htR hC hi y hy).div (OC ha hR (by omega) ht4 htR hC)).mono (by omega)
def NK(m:List (List Rat))(C:Nat):VL:=⟨λ_=>0,λk=>if 60≤k then (BV m C).getD (k - 60) [] else m.getD k [],λ_=>0,λ_=>[]⟩
theorem Acl{k:Nat}(hk:k<60):lD (NK m C) (.v k)=m.getD k []:=by
 simp only [lD,NK];rw [if_neg (by omega)]
theorem iE{k:Nat}:lD (NK m C) (.v (60+k))=(BV m C).getD k []:=by
 simp only [lD,NK];rw [if_pos (by omega),show 60+k - 60=k by omega]
theorem Aaa(hR:m.length≤9):mD (NK m C) (Mp 0 m.length)=m:=by
 rw [OI];apply List.ext_getElem
 ·simp
 ·intro i h1 h2
  simp only [List.getElem_map,List.getElem_range',Nat.zero_add,Nat.one_mul];have:=Acl (m:=m) (C:=C) (k:=i) (by omega);simp only [lD] at this;rw [this,List.getD_eq_getElem?_getD,List.getElem?_eq_getElem h2];rfl
theorem Afr{V:VL}(h:∀ i,i<A8 m C→lD V (.v (60+i))=(BV m C).getD i []):mD V (Sd (NQ (A8 m C)))=BV m C:=by
 rw [Rb];unfold NQ;rw [List.map_map];apply List.ext_getElem
 ·simp [BV]
 ·intro i i1 i2
  simp only [List.getElem_map,List.getElem_range,Function.comp];rw [h i (by rw [N7] at i2; exact i2),List.getD_eq_getElem?_getD,List.getElem?_eq_getElem i2];rfl
theorem oW{V:VL}{ps:List Nat}{M:Nat→Prop}{ρ:Bi}{w:World}{v:Value}(h:(XP.ixs (ps.map λp:Nat=>(p:Int))).p M w [v]):@BA (Ab V) ρ M w (.row ps.length (ps.map λp:Nat=>.val (.int .i64 (p:Int)))) v:=by
 obtain ⟨A,c,e,h1,h2⟩:=h;show @Rp (Ab V) ρ M w (.row _ _) [v];unfold Rp;rw [List.length_map] at e h1 h2;refine ⟨A,c,e,h1,λh0=>?_⟩;obtain ⟨g,off,q1,q2,q3,q4⟩:=h2 h0;refine ⟨g,off,_,q1,q2,q3,q4,?_⟩;rw [List.map_map];clear h0 h1 h2 q4 e
 induction ps with
 | nil =>
  unfold AW;rfl
 | cons p ps ih =>
  unfold AW;refine ⟨[_],_,rfl,?_,ih⟩;unfold Rp;exact ⟨rfl,rfl⟩
theorem Tp{V:VL}(h:BU C m)(hR:m.length≤5)(hC:C≤5)(ht4:A8 m C≤4)(hm:mD V (Mp 0 m.length)=m)(hf:∀ i,i<A8 m C→lD V (.v (60+i))=(BV m C).getD i []):@PE.ok (Ab V) (So m.length (GH m C)):=by
 intro xs r e;refine ⟨λ_ _=>by simp [So,go_sem],λρ M w vs hm0 hv=>?_⟩;unfold So at e;dsimp only at e;split at e
 ·split at e
  ·rename_i mm d hs
   cases e
   obtain ⟨va,_,rfl,k1,k5⟩:=hv;have k5:_=[]:=k5;subst k5;have k1:@Rp (Ab V) ρ M w (.ext 1 false (.ap 64 mm d)) [va]:=k1;unfold Rp at k1;have k1:(XP.mat (mD V mm)).p M w [va]:=k1.2;rw [CE.beq_eq hs,hm] at k1;refine Calls.mono (fX h hR hC ht4 hm0 k1) λe w' ⟨u1,u2,e1,e2,e3,e4⟩=>⟨_,e1,⟨_,rfl,u1,_,rfl,KJ ?_,u2,_,rfl,oW e3,rfl⟩,e4⟩
   rw [G6,Afr hf];exact e2
  ·cases e
 ·cases e
noncomputable def Gl(m:List (List Rat))(C:Nat):List (List Rat):=(Cb C (GH m C)).map λf=>(List.range C).map (Gk (A8 m C) (fM (BV m C)) (NJ m C) f)
theorem yU{V:VL}{f j:Nat}:∀{ps:List Nat}{i:Nat},(∀ k,ps.getD k C≠j ∨ ps.length≤k)∧qD V (VP f j i ps)=(if j=f then 1 else 0) ∨ ∃ k,k<ps.length∧ps.getD k C=j∧qD V (VP f j i ps) = -qD V (GU (60+(i+k)) f)
 | [],i=>.inl ⟨λk=>.inr (Nat.zero_le _),by
  unfold VP;split
  ·simp only [q1C,qD]; decide
  ·simp only [q0C,qD]; decide⟩
 | p :: ps,i=>by
  unfold VP
  by_cases hp:j=p
  ·rw [if_pos hp]
   exact .inr ⟨0,by simp,by simp [hp],by simp only [qD,Nat.add_zero]⟩
  ·rw [if_neg hp]
   rcases yU (V:=V) (f:=f) (j:=j) (ps:=ps) (i:=i+1) with ⟨h1,h2⟩ | ⟨k,h1,h2,h3⟩
   ·refine .inl ⟨λk=>?_,h2⟩
    cases k with
    | zero=>exact .inl λe=>hp (by simpa using e.symm)
    | succ k =>
     rcases h1 k with h | h
     ·exact .inl (by simpa using h)
     ·exact .inr (by simpa using h)
   ·exact .inr ⟨k+1,by simpa using h1,by simpa using h2,by rw [h3,show i+1+k=i+(k+1) by omega]⟩
theorem gJ{k:Nat}(hk:k<A8 m C):(GH m C).getD k C=NJ m C k:=by
 unfold GH;rw [List.getD_eq_getElem?_getD,List.getElem?_map,List.getElem?_range hk];rfl
theorem nV{C f:Nat}{ps:List Nat}(h:f∈Cb C ps):f<C∧f ∉ ps:=by
 obtain ⟨h1,h2⟩:=List.mem_filter.1 h;refine ⟨List.mem_range.1 h1,λhm=>?_⟩;rw [Bool.not_eq_true'] at h2;have:memN f ps=true:=by
  clear h h1 h2
  induction ps with
  | nil=>cases hm
  | cons x l ih =>
   unfold memN;split
   ·rfl
   ·rename_i hx
    rcases List.mem_cons.1 hm with rfl | hm
    ·exact absurd (by simp) hx
    ·exact ih hm
 rw [this] at h2
 cases h2
theorem Afy{V:VL}(h:BU C m)(hC:C≤5)(hz:∀ k,V.z k=0)(hf:∀ i,i<A8 m C→lD V (.v (60+i))=(BV m C).getD i []):mD V (Acw C (GH m C))=Gl m C:=by
 obtain ⟨hr,_⟩:=Gw h (by omega:C≤6);unfold Acw Gl;rw [Rb,List.map_map];refine List.map_congr_left λf hfm=>?_
 obtain ⟨f1,f2⟩:=nV hfm;show lD V (Fw _)=_;rw [F0,List.map_map];refine List.map_congr_left λj hj=>?_
 have hfp:∀ i,i<A8 m C→NJ m C i≠f:=λi hi e=>f2 (List.mem_map.2 ⟨i,List.mem_range.2 hi,e⟩)
 show qD V (VP f j 0 (GH m C))=_
 rcases yU (C:=C) (V:=V) (f:=f) (j:=j) (ps:=GH m C) (i:=0) with ⟨h1,h2⟩ | ⟨k,h1,h2,h3⟩
 ·rw [h2,Ix hfp λi hi e=>?_]
  rcases h1 i with q | q
  ·exact q (by rw [gJ hi]; exact e)
  ·rw [G6] at q
   omega
 ·rw [G6] at h1
  rw [gJ h1] at h2;rw [h3,← h2,O7 hr hfp h1,Nat.zero_add]
  congr 1
  have e:qD V (GU (60+k) f)=(lD V (.v (60+k))).getD (zD V (.i 0 (f:Int))).toNat 0:=by simp only [GU,qD]
  rw [e,hf k h1];have:zD V (.i 0 (f:Int))=(f:Int):=by
   show V.z 0+(f:Int)=_;rw [hz,Int.zero_add]
  rw [this];rfl
theorem AgK(h:BU C m)(hR:m.length≤5)(hC:C≤5)(ht4:A8 m C≤4):Bq (NK m C) (AfD m.length C (GH m C).length):=by
 rw [G6];refine Ej (λ_=>rfl) (λx hx=>?_) (λx hx=>?_) (λx hx=>(by cases hx)) (λx hx=>(by cases hx))
 ·rcases List.mem_append.1 hx with hx | hx
  ·obtain ⟨k,hk,rfl⟩:=List.mem_map.1 hx
   have hk:=List.mem_range.1 hk;dsimp only;rw [Acl (by omega),(h.row hk).1]
  ·obtain ⟨k,hk,rfl⟩:=List.mem_map.1 hx
   have hk:=List.mem_range.1 hk;dsimp only;rw [iE,GL hk,iF h (by omega) hk]
 ·rcases List.mem_append.1 hx with hx | hx
  ·obtain ⟨k,hk,rfl⟩:=List.mem_map.1 hx
   have hk:=List.mem_range.1 hk;intro y hy;dsimp only at hy;rw [Acl (by omega)] at hy;obtain ⟨_,D,s,h2,h3,_⟩:=h.row hk;exact (h2.rsm hy).mono h3
  ·obtain ⟨k,hk,rfl⟩:=List.mem_map.1 hx
   have hk:=List.mem_range.1 hk;intro y hy;dsimp only at hy;rw [iE,GL hk] at hy;exact XN h hR (by omega) ht4 hk y hy
theorem AaX(h:BU C m)(hR:m.length≤4)(hC:C≤5):kC m.length C (GH m C)=true:=by
 have hle:=(D7 h (by omega)).1;have hm:GH m C∈LQ C (min m.length 4) 0:=Wq h hC (by omega);have pick:∀{R n:Nat},Y8 R n=true→C<n→J5 R C=true:=fun {R n} h h1=>List.all_eq_true.1 h C (List.mem_range.2 h1)
 have hall:J5 m.length C=true:=by
  generalize m.length=R at hR
  match R,hR with
  | 0,_=>exact pick AiF (by omega)
  | 1,_=>exact pick Aij (by omega)
  | 2,_ =>
   by_cases h:C<5
   ·exact pick AiL h
   ·have:C=5:=by omega
    subst this;exact AeP
  | 3,_ =>
   by_cases h:C<5
   ·exact pick Aic h
   ·have:C=5:=by omega
    subst this;exact Afd
  | 4,_ =>
   by_cases h:C<5
   ·exact pick Aib h
   ·have:C=5:=by omega
    subst this;exact Ae8
 exact List.all_eq_true.1 hall _ hm
theorem Ahk(h:BU C m)(hR:m.length≤4)(hC:C≤5){M:Nat→Prop}{w:World}{v:Value}(hm0:∀ b,M b→b<w.heap.size)(hv:(XP.mat m).p M w [v]) :
  Calls Tryz.prog 22 #[v,.int .i64 (C:Int)] w λe w'=>∃ u,e = .returned u∧(XP.mat (Gl m C)).p M w' [u]∧Below w.heap.size w w':=by
 have ht4:A8 m C≤4:=by have:=(D7 h (by omega)).1; omega
 have hF:=AgK h (by omega) hC ht4;have hrun:=AaX h hR hC;have hf:∀ i,i<A8 m C→lD (NK m C) (.v (60+i))=(BV m C).getD i []:=λi _=>iE
 unfold kC at hrun;split at hrun
 ·rename_i a U hw
  split at hrun
  ·rename_i mm hk
   refine Calls.mono (AcA (vs:=[v,.int .i64 (C:Int)]) hF (λe he=>by
    rw [List.mem_singleton] at he;subst he;exact Tp h (by omega) hC ht4 (Aaa (by omega)) hf) (@DU (Ab _)) hw hm0 ⟨v,_,rfl,KJ (by rw [Aaa (by omega)]; exact hv),_,_,rfl,rfl,rfl⟩) λe w' ⟨u,ρ',M',e1,e2,e3,e4⟩=>⟨u,e1,?_,e4⟩
   have e:=Afy (V:=NK m C) h hC (λ_=>rfl) hf;rw [← CE.beq_eq hrun] at e;rw [← e];unfold kdO at hk;split at hk
   ·cases hk
    have e2:u = .slice none 0 0:=e2;subst e2;exact ⟨none,0,rfl,Nat.le_refl _,λh=>absurd rfl h⟩
   ·have ha:@BA (Ab (NK m C)) ρ' M' w' a u:=by
     unfold zU at hk;split at hk
     ·exact e2
     ·cases hk
    have:=OJ (M:=M) hF hm0 e3 hk ha;have this:@Rp (Ab (NK m C)) BP M w' (aM mm) [u]:=this;unfold Rp at this;exact this.2
  ·cases hrun
 ·cases hrun
end
noncomputable def oD(T:TypeId)(k:IntKind):Bool:=match NG T with
 | some (.int k')=>decide (k'=k)
 | _=>false
def Zg(F:Fa)(j:Nat):Nat→Option Nat
 | 0=>none
 | n+1=>if Es F (j,0) (0,(n:Int)) && Es F (0,(n:Int)) (j,0) then some n else Zg F j n
noncomputable def mdP(F:Fa)(k:PK)(xs:List AV):Option AV:=match k,xs with
 | .conv T U,[.ext 1 false (.ap 66 (.ap 1 (.v j) (.lit 0)) _)]=>if oD T .u8 && oD U .i64 then some (aI j 0) else none
 | .conv T U,[.ext 1 false (.ap 67 (.ap 1 (.v j) (.lit 0)) _)]=>if oD T .i16 && oD U .i64 then some (aI j 0) else none
 | .bin .rem _ _,[.ext 1 false (.ap 50 (.ap 1 (.v 1) (.lit 0)) _),.val (.int .i64 5)]=>(Zg F 11 5).map fun (n:Nat)=>.val (.int .i64 (n:Int))
 | .bin .rem _ _,[.ext 1 false (.ap 50 (.ap 1 (.v 2) (.lit 0)) _),.val (.int .i64 6)]=>(Zg F 12 6).map fun (n:Nat)=>.val (.int .i64 (n:Int))
 | .bin .rem _ _,[.ext 1 false (.ap 67 (.ap 2 (.v 0) (.lit (.ofNat e))) _),.val (.int .i16 10)]=>if Nat.blt e 100 then some (.ext 1 false (.ap 67 (.i (100+e) 0) (.lit 0))) else none
 | .bin .shr T _,[.ext 1 false (.ap 67 (.ap 2 (.v 0) (.lit (.ofNat e))) _),.val (.int _ 8)]=>if oD T .i16 && Nat.blt e 100 then some (.ext 1 false (.ap 67 (.i (200+e) 0) (.lit 0))) else none
 | .bin .and T _,[.ext 1 false (.ap 50 (.ap 1 (.v e) (.lit 0)) _),.val (.int .i64 1)]=>if Nat.ble 200 e && Nat.blt e 300 && oD T .i64 then some (aI (100+e) 0) else none
 | .bin .shr T _,[.val (.int .i16 0),.val (.int _ 8)]=>if oD T .i16 then some (.val (.int .i16 0)) else none
 | .bin .and T _,[.val (.int .i64 0),.val (.int .i64 1)]=>if oD T .i64 then some (.val (.int .i64 0)) else none
 | .blt .len [T],[.ext 1 false (.ap 68 (.v 0) _)]=>if C_ T then some (aI 13 0) else none
 | .idx T,[.ext 1 false (.ap 68 (.v 0) _),.val (.int .i64 (.ofNat i))]=>if Nj T && Es F (0,(i:Int)+1) (13,0) then some (.rptr [.ext 1 false (.ap 67 (.ap 2 (.v 0) (.lit (.ofNat i))) (.lit 0))]) else none
 | _,_=>none
noncomputable def mdX(F:Fa):XT:={ Vc F with pure:=λk xs=>match mdP F k xs with
 | some r=>some r
 | none=>SZ F k xs }
def pMd:PE:=⟨40,λxs=>match xs with
 | [.ext 1 false (.ap 50 (.ap 1 (.v i) (.lit 0)) _),.ext 1 false (.ap 50 (.ap 1 (.v j) (.lit 1)) _)]=>if Nat.ble 100 i && Nat.beq j (200+i) && Nat.blt i 200 then some (aQ (.v (i - 100)) 1) else none
 | [.val (.int .i64 0),.val (.int .i64 1)]=>some (aQ (.ap 36 (.lit 0) (.lit 1)) 1)
 | _=>none⟩
def Adu(R C L:Nat):Fa:=⟨([(11,0,(R:Int)),(0,11,-(R:Int)),(12,0,(C:Int)),(0,12,-(C:Int)),(0,13,-(L:Int))]:List (Nat × Nat × Int)) ++ (if L<R*C then [(13,0,(L:Int))] else []),[],[],[],[],[],[]⟩
noncomputable def AfW(R C L:Nat):Tb:=⟨Gq ([pMd] ++ W4 (Adu R C L)),mdX (Adu R C L),Oy⟩
def Aaj:List AV:=[.agg [.ext 1 false (.ap 66 (.i 1 0) (.lit 0)),.ext 1 false (.ap 66 (.i 2 0) (.lit 0)),.ext 1 false (.ap 68 (.v 0) (.lit 0))]]
noncomputable def Aer(R C L:Nat):=BW AK (DC (AfW R C L) AK 200) 11 Aaj [] 16 0
def Aa9(L:Nat)(q:CE):Bool:=match q with
 | .v e=>Nat.blt e L
 | .ap 36 (.lit 0) (.lit 1)=>true
 | _=>false
def isRow(L:Nat):Nat→CE→Bool
 | 0,.lit 0=>true
 | n+1,.ap 80 q r=>Aa9 L q && isRow L n r
 | _,_=>false
def TH(L C:Nat):Nat→CE→Bool
 | 0,.lit 0=>true
 | n+1,.ap 81 e m=>isRow L C e && TH L C n m
 | _,_=>false
noncomputable def YZ(R C L:Nat):Bool:=match Aer R C L with
 | some (.tup [a,.val (.int .i64 c)],U)=>(match zU U a with
  | some m=>TH L C R m && decide (c=(C:Int))
  | none=>false)
 | _=>false
noncomputable def Vh(R C a n:Nat):Bool:=(List.range n).all λi=>YZ R C (a+i)
noncomputable def Rw(R c n:Nat):Bool:=(List.range n).all λC=>Vh R (c+C) 0 (R*(c+C)+1)
structure MdV (V:VL):Prop where
 a:V.z 11=(V.z 1).tmod 5
 b:V.z 12=(V.z 2).tmod 6
 c:V.z 13=((V.l 0).length:Int)
 r:∀ e,e<100→V.z (100+e)=(((V.l 0).getD e 0).num).tmod 10
 s:∀ e,e<100→V.z (200+e)=((V.l 0).getD e 0).num / 256
 t:∀ e,e<100→V.z (300+e)=bits .and .i64 (V.z (200+e)) 1
theorem EW{T:TypeId}{k:IntKind}(h:oD T k=true):Tryz.prog.underlying T=some (.int k):=by
 unfold oD at h;split at h
 ·rename_i k' hk
  have:=of_decide_eq_true h;subst this;exact hk
 ·cases h
theorem It{V:VL}{F:Fa}(hF:Bq V F){j:Nat}:∀{n m:Nat},Zg F j n=some m→V.z j=(m:Int)
 | 0,m,h=>by
  unfold Zg at h
  cases h
 | n+1,m,h=>by
  unfold Zg at h;split at h
  ·rename_i hc
   cases h
   rw [Bool.and_eq_true] at hc;have h1:=AC hF hc.1;have h2:=AC hF hc.2;unfold iD at h1 h2;have:=hF.z0;dsimp only at h1 h2;omega
  ·exact It hF h
theorem Agv:AQ (mkRat 0 (1:Int).toNat) 1:=by
 have:AQ ((0:Int):Rat) 1:=DL (by unfold Sm; decide) (by decide);exact this
section
variable {V : VL} {F : Fa} {ρ : Bi} {M : Nat → Prop} {w : World} {r : AV}
theorem AbV{i d:CE}{v:Value}(h:@BA (Ab V) ρ M w (.ext 1 false (.ap 66 i d)) v):v = .int .u8 (zD V i):=by
 have h:@Rp (Ab V) ρ M w (.ext 1 false (.ap 66 i d)) [v]:=h;unfold Rp at h;exact (List.cons.inj h.2).1
theorem P0{i d:CE}{v:Value}(h:@BA (Ab V) ρ M w (.ext 1 false (.ap 67 i d)) v):v = .int .i16 (zD V i):=by
 have h:@Rp (Ab V) ρ M w (.ext 1 false (.ap 67 i d)) [v]:=h;unfold Rp at h;exact (List.cons.inj h.2).1
theorem W9{i d:CE}{v:Value}(h:v = .int .i16 (zD V i)):@BA (Ab V) ρ M w (.ext 1 false (.ap 67 i d)) v:=by
 show @Rp (Ab V) ρ M w (.ext 1 false (.ap 67 i d)) [v];unfold Rp;exact ⟨rfl,by rw [h]; rfl⟩
theorem Su{k:Nat}{c:Int}{d:CE}{v:Value}(h:@BA (Ab V) ρ M w (.ext 1 false (.ap 50 (.ap 1 (.v k) (.lit c)) d)) v):v = .int .i64 (V.z k+c):=by
 have h:@Rp (Ab V) ρ M w (.ext 1 false (.ap 50 (.ap 1 (.v k) (.lit c)) d)) [v]:=h;unfold Rp at h;exact (List.cons.inj h.2).1
theorem P9{k:IntKind}{p q:Int}{T T2:TypeId}{x y:Operand}{ρv:Operand→Value}(hx:ρv x = .int k p)(hy:ρv y = .int k q)(hq:q≠0)(o:Oper)(ho:o.op = .binOp .rem T x y T2):(execOp ρv o).run Tryz.prog w = .ok (.value (.int k (p.tmod q))) w:=by
 unfold execOp;rw [ho];simp [go_sem,hx,hy,hq]
theorem SI{kq:IntKind}{p:Int}{T T2:TypeId}{x y:Operand}{ρv:Operand→Value}(hT:Tryz.prog.underlying T=some (.int .i16))(hx:ρv x = .int .i16 p)(hy:ρv y = .int kq 8)(o:Oper)(ho:o.op = .binOp .shr T x y T2):(execOp ρv o).run Tryz.prog w = .ok (.value (.int .i16 (p / 256))) w:=by
 unfold execOp;rw [ho];simp [go_sem,hx,hy,run_underlying hT]
theorem Xr{p q:Int}{T T2:TypeId}{x y:Operand}{ρv:Operand→Value}(hT:Tryz.prog.underlying T=some (.int .i64))(hx:ρv x = .int .i64 p)(hy:ρv y = .int .i64 q)(o:Oper)(ho:o.op = .binOp .and T x y T2):(execOp ρv o).run Tryz.prog w = .ok (.value (.int .i64 (bits .and .i64 p q))) w:=by
 unfold execOp;rw [ho];simp [go_sem,hx,hy,run_underlying hT]
theorem cV{k:IntKind}{z:Int}{T U:TypeId}{x:Operand}{ρv:Operand→Value}(hT:Tryz.prog.underlying T=some (.int k))(hU:Tryz.prog.underlying U=some (.int .i64))(hx:ρv x = .int k z)(o:Oper)(ho:o.op = .convert T U x):(execOp ρv o).run Tryz.prog w = .ok (.value (.int .i64 (IntKind.i64.wrap z))) w:=by
 unfold execOp;rw [ho];simp [convert,Sem.run_bind,run_underlying hT,run_underlying hU,hx,go_sem]
theorem O_{p:Int}(h1 : -128≤p)(h2:p≤127):0≤bits .and .i64 p 1∧bits .and .i64 p 1≤1:=by
 have key:∀ n:Fin 256,0≤bits .and .i64 ((n.val:Int) - 128) 1∧bits .and .i64 ((n.val:Int) - 128) 1≤1:=by decide +kernel
 have:=key ⟨(p+128).toNat,by omega⟩;have e:(((p+128).toNat:Nat):Int) - 128=p:=by omega
 dsimp only at this;rw [e] at this;exact this
theorem Acu:bits .and .i64 0 1=0:=by decide +kernel
theorem Zb(hF:Bq V F)(hV:MdV V){k:PK}{xs:List AV}(h:mdP F k xs=some r){ρv:Operand→Value}{ys:List Operand}(hv:@CH (Ab V) ρ M w xs (ys.map ρv)) :
  ∃ v,(∀ o:Oper,o.op=NV k ys→(execOp ρv o).run Tryz.prog w = .ok (.value v) w) ∧ @RV (Ab V) ρ M w r v:=by
 letI:=Ab V
 have two:∀{x y:AV},@CH (Ab V) ρ M w [x,y] (ys.map ρv)→∃ a b,ys=[a,b] ∧ @BA (Ab V) ρ M w x (ρv a) ∧ @BA (Ab V) ρ M w y (ρv b):=fun {x y} ⟨va,_,e1,h1,vb,_,e2,h2,e3⟩=>by
  have e3:_=[]:=e3;subst e3;subst e2
  match ys,e1 with
  | [a,b],e1 =>
   simp only [List.map_cons,List.map_nil,List.cons.injEq,and_true] at e1;exact ⟨a,b,rfl,e1.1 ▸ h1,e1.2 ▸ h2⟩
 have one:∀{x:AV},@CH (Ab V) ρ M w [x] (ys.map ρv)→∃ a,ys=[a] ∧ @BA (Ab V) ρ M w x (ρv a):=fun {x} ⟨va,_,e1,h1,e3⟩=>by
  have e3:_=[]:=e3;subst e3
  match ys,e1 with
  | [a],e1 =>
   simp only [List.map_cons,List.map_nil,List.cons.injEq,and_true] at e1;exact ⟨a,rfl,e1 ▸ h1⟩
 have rv:∀{a:AV}{v:Value},@BA (Ab V) ρ M w a v → @RV (Ab V) ρ M w a v:=λh=>@BA.rv (Ab V) ρ M w _ _ h
 have zi:∀ j,zD V (.ap 1 (.v j) (.lit 0))=V.z j:=λj=>by simp [zD]
 have wr:∀ j,IntKind.i64.wrap (V.z j)=V.z j:=λj=>E7 (by have:=hF.sm j; omega) (by have:=hF.sm j; omega)
 unfold mdP at h;split at h
 ·-- a byte as int
  obtain ⟨a,rfl,hx⟩:=one hv;split at h
  ·rename_i hc
   cases h
   rw [Bool.and_eq_true] at hc;have hx:=AbV hx;rw [zi] at hx;refine ⟨_,λo ho=>cV (EW hc.1) (EW hc.2) hx o ho,rv (Ml ?_)⟩;rw [wr,Int.add_zero]
  ·cases h
 ·-- a small integer as int64
  obtain ⟨a,rfl,hx⟩:=one hv;split at h
  ·rename_i hc
   cases h
   rw [Bool.and_eq_true] at hc;have hx:=P0 hx;rw [zi] at hx;refine ⟨_,λo ho=>cV (EW hc.1) (EW hc.2) hx o ho,rv (Ml ?_)⟩;rw [wr,Int.add_zero]
  ·cases h
 ·obtain ⟨a,b,rfl,hx,hy⟩:=two hv
  obtain ⟨n,hn,rfl⟩:=Option.map_eq_some_iff.1 h;have hx:=Su hx;rw [Int.add_zero] at hx;refine ⟨_,λo ho=>P9 hx hy (by decide) o ho,?_⟩;show _=_;rw [← hV.a,It hF hn]
 ·obtain ⟨a,b,rfl,hx,hy⟩:=two hv
  obtain ⟨n,hn,rfl⟩:=Option.map_eq_some_iff.1 h;have hx:=Su hx;rw [Int.add_zero] at hx;refine ⟨_,λo ho=>P9 hx hy (by decide) o ho,?_⟩;show _=_;rw [← hV.b,It hF hn]
 ·rename_i e _
  obtain ⟨a,b,rfl,hx,hy⟩:=two hv;split at h
  ·rename_i hc
   cases h
   have hx:=P0 hx;refine ⟨_,λo ho=>P9 hx hy (by decide) o ho,rv (W9 ?_)⟩;have e1:zD V (.i (100+e) 0)=V.z (100+e):=zi _;have e2:zD V (.ap 2 (.v 0) (.lit (.ofNat e)))=((V.l 0).getD e 0).num:=rfl;rw [e1,e2,hV.r e (Nat.le_of_ble_eq_true hc)]
  ·cases h
 ·rename_i e _ _
  obtain ⟨a,b,rfl,hx,hy⟩:=two hv;split at h
  ·rename_i hc
   cases h
   rw [Bool.and_eq_true] at hc;have hx:=P0 hx;refine ⟨_,λo ho=>SI (EW hc.1) hx hy o ho,rv (W9 ?_)⟩;have e1:zD V (.i (200+e) 0)=V.z (200+e):=zi _;have e2:zD V (.ap 2 (.v 0) (.lit (.ofNat e)))=((V.l 0).getD e 0).num:=rfl;rw [e1,e2,hV.s e (Nat.le_of_ble_eq_true hc.2)]
  ·cases h
 ·rename_i e _
  obtain ⟨a,b,rfl,hx,hy⟩:=two hv;split at h
  ·rename_i hc
   cases h
   rw [Bool.and_eq_true,Bool.and_eq_true] at hc;have hx:=Su hx;rw [Int.add_zero] at hx;have h1:=Nat.le_of_ble_eq_true hc.1.1;have h2:e<300:=Nat.le_of_ble_eq_true hc.1.2;refine ⟨_,λo ho=>Xr (EW hc.2) hx hy o ho,rv (Ml ?_)⟩;have:=hV.t (e - 200) (by omega);rw [show 300+(e - 200)=100+e by omega,show 200+(e - 200)=e by omega] at this;rw [this,Int.add_zero]
  ·cases h
 ·obtain ⟨a,b,rfl,hx,hy⟩:=two hv
  split at h
  ·rename_i hc
   cases h
   exact ⟨_,λo ho=>SI (EW hc) hx hy o ho,rfl⟩
  ·cases h
 ·obtain ⟨a,b,rfl,hx,hy⟩:=two hv
  split at h
  ·rename_i hc
   cases h
   exact ⟨_,λo ho=>Xr (EW hc) hx hy o ho,congrArg (Value.int .i64) Acu⟩
  ·cases h
 ·rename_i T _
  obtain ⟨a,rfl,hx⟩:=one hv;split at h
  ·rename_i hc
   cases h
   obtain ⟨el,hd⟩:=Ck hc;have hx:@Rp (Ab V) ρ M w _ [ρv a]:=hx;unfold Rp at hx;obtain ⟨A,c,e1,_⟩:=hx.2;have ha:=(List.cons.inj e1).1;refine ⟨.int .i64 ((V.l 0).length:Int),λo ho=>?_,rv (Ml ?_)⟩
   ·have ho:o.op = .call { callee:=.builtin .len,args:=#[a],argTypes:=#[T] }:=ho
    unfold execOp;rw [ho];have ha:ρv a = .slice A (V.l 0).length c:=by
     rw [ha];simp only [lD]
    simp [resolve,invoke,builtin,Builtin.len_,Sem.run_bind,run_underlying hd,ha,goInt]
   ·rw [hV.c,Int.add_zero]
  ·cases h
 ·rename_i T _ i
  obtain ⟨a,b,rfl,hx,hy⟩:=two hv;split at h
  ·rename_i hc
   cases h
   rw [Bool.and_eq_true] at hc;obtain ⟨el,t1,t2⟩:=IB hc.1;have hle:=AC hF hc.2;unfold iD at hle;rw [hF.z0,hV.c] at hle;dsimp only at hle;have hi:i<(V.l 0).length:=by omega
   have hx:@Rp (Ab V) ρ M w _ [ρv a]:=hx;unfold Rp at hx;obtain ⟨A,c,e1,_,hb,hg⟩:=hx.2;have el0:lD V (.v 0)=V.l 0:=by simp only [lD]
   rw [el0] at e1 hb hg;obtain ⟨g,off,rfl,k2,k3,k4⟩:=hg (by omega);have ha:=(List.cons.inj e1).1;have hy:ρv b = .int .i64 (i:Int):=hy;refine ⟨.pointer (some ⟨g,off+(i:Int).toNat*1,none⟩),λo ho=>?_,rv ?_⟩
   ·have ho:o.op = .indexAddr T a b:=ho
    unfold execOp;rw [ho];show Sem.run _ (Instr.indexAt T (ρv a) (ρv b) >>= λx=>pure (Next.value x)) w=_;rw [ha,hy];exact Cz (DH t1 t2 ⟨by omega,by omega⟩)
   ·show @Rp (Ab V) ρ M w (.rptr _) [_]
    unfold Rp;have q1:zD V (.ap 2 (.v 0) (.lit (.ofNat i)))=((V.l 0)[i]).num:=by
     show ((V.l 0).getD i 0).num=_;rw [List.getD_eq_getElem?_getD,List.getElem?_eq_getElem hi];rfl
    refine ⟨g,off+i*1,[.int .i16 ((V.l 0)[i]).num],by simp,k2,k3,?_,@AW.one (Ab V) ρ M w _ _ ?_⟩
    ·have e6:(((V.l 0).map λq=>Value.int .i16 q.num).drop i).take 1=[.int .i16 ((V.l 0)[i]).num]:=by
      rw [← List.map_drop,← List.map_take,List.drop_eq_getElem_cons hi];rfl
     rw [← e6,Nat.mul_one];exact BI (BS k4)
    ·unfold Rp
     refine ⟨rfl,?_⟩;show [_]=[_];rw [q1]
  ·cases h
 ·cases h
theorem Acn(hF:Bq V F)(hV:MdV V):@MD (Ab V) (mdX F):=by
 obtain ⟨_,x2,x3,x4,x5,x6,x7⟩:=F7 hF;refine @MD.mk (Ab V) (mdX F) (λk xs r h ρ M w ρv ys _ hv=>?_) x2 x3 x4 x5 x6 x7;have h:(match mdP F k xs with
  | some r=>some r
  | none=>SZ F k xs)=some r:=h
 split at h
 ·rename_i r' h1
  cases h
  exact Zb hF hV h1 hv
 ·exact KC hF h hv
theorem AdI(sm:∀ k,-1152921504606846976≤V.z k∧V.z k≤1152921504606846976)(hd:∀ e,e<100→V.z (300+e)+1≠0∧V.q e=Rat.divInt (V.z (100+e)) (V.z (300+e)+1)∧AQ (V.q e) 1):@PE.ok (Ab V) pMd:=by
 intro xs r e;refine ⟨λ_ _=>by simp [pMd,go_sem],λρ M w vs hm0 hv=>?_⟩;unfold pMd at e;dsimp only at e;split at e
 ·rename_i i _ j _
  split at e
  ·rename_i hc
   simp only [Bool.and_eq_true] at hc
   cases e
   have c1:=Nat.le_of_ble_eq_true hc.1.1;have c2:=Nat.eq_of_beq_eq_true hc.1.2;have c3:i<200:=Nat.le_of_ble_eq_true hc.2;obtain ⟨va,_,rfl,k1,vb,_,rfl,k2,k5⟩:=hv;have k5:_=[]:=k5;subst k5;have k1:=Su k1;have k2:=Su k2;rw [Int.add_zero] at k1;subst k1;subst k2;obtain ⟨d1,d2,d3⟩:=hd (i - 100) (by omega);rw [show 300+(i - 100)=j by omega,show 100+(i - 100)=i by omega] at d2;rw [show 300+(i - 100)=j by omega] at d1;have s1:=sm i;have s2:=sm j;refine Calls.mono (Kb w (by omega) (by omega) (by omega) (by omega) d1) λe w' ⟨v,e1,e2,e3⟩=>⟨v,e1,@BA.rv (Ab V) ρ M w' _ _ (FG ?_ ?_),e3⟩
   ·simp only [qD]
    rw [d2];exact e2
   ·simp only [qD]
    exact d3
  ·cases e
 ·cases e
  obtain ⟨va,_,rfl,k1,vb,_,rfl,k2,k5⟩:=hv;have k5:_=[]:=k5;subst k5;have k1:va = .int .i64 0:=k1;have k2:vb = .int .i64 1:=k2;subst k1;subst k2;refine Calls.mono (Kb (x:=0) (y:=1) w (by decide) (by decide) (by decide) (by decide) (by decide)) λe w' ⟨v,e1,e2,e3⟩=>⟨v,e1,@BA.rv (Ab V) ρ M w' _ _ (FG ?_ ?_),e3⟩
  ·simp only [qD]
   exact e2
  ·simp only [qD]
   exact Agv
 ·cases e
end
theorem wL{V:VL}{M:Nat→Prop}{w:World}{T:Tb}{f m:Nat}{xs:List AV}{a:AV}{U:HP}(hT:@Fo (Ab V) T)(hr:BW AK (DC T AK m) f xs [] 16 0=some (a,U)){vs:List Value}(hm0:∀ b,M b→b<w.heap.size)(hv:@CH (Ab V) BP M w xs vs) :
  Calls Tryz.prog f vs.toArray w λe w'=>∃ u ρ' M',e = .returned u ∧ @RV (Ab V) ρ' M' w' a u ∧ @RH (Ab V) ρ' M' (Dc BP w (lk [])) w' (CQ (lk []) U)∧Below w.heap.size w w':=by
 letI:=Ab V
 obtain ⟨_,hcall⟩:=DE Bp (EP hT Bp m).1 f xs [] 16 0 _ _ hr;have hs:CL BP M (Dc BP w (lk [])) w 0 (lk []):=⟨⟨λo b e=>(by cases e),λo o' b b' g c c' e=>(by cases e)⟩,hm0,λ_ _ _=>rfl,λb hb=>.inl hb⟩;refine Calls.mono (hcall BP M w vs hs (λo p e=>(by cases e)) (by decide) hv) λe w' ⟨v,e1,ρ',M',ht,hv',hR,_,hsup,_,_,hfr,_⟩=>⟨v,ρ',M',e1,hv',hR,⟨hfr.os,hfr.tape,hfr.output,hfr.size,λb hb=>hfr.keep b hb ?_⟩⟩
 rintro (h1 | ⟨_,_,_,h1,_⟩)
 ·omega
 ·cases h1
def yZ(x:Rat):Prop:=∃ z:Int,x*((2:Int):Rat)=(z:Rat)∧Sm z 1
theorem AiJ:yZ 0:=⟨0,by simp,by unfold Sm; decide⟩
theorem pO{n d:Int}(h1 : -9≤n)(h2:n≤9)(hd:d=1 ∨ d=2):yZ (Rat.divInt n d)∧AQ (Rat.divInt n d) 1:=by
 have sn:∀ z:Int,-18≤z→z≤18→Sm z 1:=λz a b=>by
  unfold Sm;have:z.natAbs≤18:=by omega
  exact Nat.lt_of_le_of_lt this (by decide)
 rcases hd with rfl | rfl
 ·refine ⟨⟨2*n,?_,sn _ (by omega) (by omega)⟩,AQ.of (sn _ (by omega) (by omega)) (sn _ (by decide) (by decide)) (by decide)⟩
  rw [Rat.divInt_eq_div,Rat.intCast_mul];have:((1:Int):Rat)=1:=rfl;rw [this]
  grind
 ·refine ⟨⟨n,?_,sn _ (by omega) (by omega)⟩,AQ.of (sn _ (by omega) (by omega)) (sn _ (by decide) (by decide)) (by decide)⟩
  rw [Rat.divInt_eq_div];have:((2:Int):Rat)≠0:=by decide
  grind
section
variable {V : VL} {L C : Nat}
theorem Vd(hq:∀ e,e<L→yZ (V.q e)){q:CE}(h:Aa9 L q=true):yZ (qD V q):=by
 unfold Aa9 at h;split at h
 ·simp only [qD]
  exact hq _ (Nat.le_of_ble_eq_true h)
 ·simp only [qD]
  exact AiJ
 ·cases h
theorem Kv(hq:∀ e,e<L→yZ (V.q e)):∀{n:Nat}{e:CE},isRow L n e=true→(lD V e).length=n∧∀ x∈lD V e,yZ x
 | 0,e,h=>by
  unfold isRow at h;split at h
  ·simp [lD]
  ·rename_i hh
   cases hh
  ·cases h
 | n+1,e,h=>by
  unfold isRow at h;split at h
  ·rename_i hh
   cases hh
  ·rename_i n' q r hh
   cases hh
   rw [Bool.and_eq_true] at h;obtain ⟨i1,i2⟩:=Kv hq h.2;have e:lD V (.ap 80 q r)=qD V q :: lD V r:=by simp only [lD]
   rw [e];refine ⟨by rw [List.length_cons,i1],λx hx=>?_⟩
   rcases List.mem_cons.1 hx with rfl | hx
   ·exact Vd hq h.1
   ·exact i2 x hx
  ·cases h
theorem KQ(hq:∀ e,e<L→yZ (V.q e)):∀{n:Nat}{m:CE},TH L C n m=true→(mD V m).length=n∧wG C (mD V m)
 | 0,e,h=>by
  unfold TH at h;split at h
  ·simp only [mD]
   exact ⟨rfl,⟨λl hl=>(by cases hl),λl hl=>(by cases hl)⟩⟩
  ·rename_i hh
   cases hh
  ·cases h
 | n+1,e,h=>by
  unfold TH at h;split at h
  ·rename_i hh
   cases hh
  ·rename_i n' q r hh
   cases hh
   rw [Bool.and_eq_true] at h;obtain ⟨i1,i2⟩:=KQ hq h.2;obtain ⟨j1,j2⟩:=Kv hq h.1;have e:mD V (.ap 81 q r)=lD V q :: mD V r:=by simp only [mD]
   rw [e];refine ⟨by rw [List.length_cons,i1],λl hl=>?_,λl hl=>?_⟩
   ·rcases List.mem_cons.1 hl with rfl | hl
    ·exact j1
    ·exact i2.len l hl
   ·rcases List.mem_cons.1 hl with rfl | hl
    ·exact j2
    ·exact i2.el l hl
  ·cases h
end
def Dm(zr zc:Int)(l:List Rat):VL:=⟨λk=>if k=1 then zr else if k=2 then zc else if k=11 then zr.tmod 5 else if k=12 then zc.tmod 6 else if k=13 then (l.length:Int) else if 100≤k∧k<200 then ((l.getD (k - 100) 0).num).tmod 10 else if 200≤k∧k<300 then (l.getD (k - 200) 0).num / 256 else if 300≤k∧k<400 then bits .and .i64 ((l.getD (k - 300) 0).num / 256) 1 else 0,
 λk=>if k=0 then l else [],λe=>Rat.divInt (((l.getD e 0).num).tmod 10) (bits .and .i64 ((l.getD e 0).num / 256) 1+1),λ_=>[]⟩
section
variable {zr zc : Int} {l : List Rat}
theorem AaG{e:Nat}(he:e<100):(Dm zr zc l).z (100+e)=((l.getD e 0).num).tmod 10:=by
 simp only [Dm];rw [if_neg (by omega),if_neg (by omega),if_neg (by omega),if_neg (by omega),if_neg (by omega),if_pos (by omega),show 100+e - 100=e by omega]
theorem xN{e:Nat}(he:e<100):(Dm zr zc l).z (200+e)=(l.getD e 0).num / 256:=by
 simp only [Dm];rw [if_neg (by omega),if_neg (by omega),if_neg (by omega),if_neg (by omega),if_neg (by omega),if_neg (by omega),if_pos (by omega),show 200+e - 200=e by omega]
theorem AaC{e:Nat}(he:e<100):(Dm zr zc l).z (300+e)=bits .and .i64 ((l.getD e 0).num / 256) 1:=by
 simp only [Dm];rw [if_neg (by omega),if_neg (by omega),if_neg (by omega),if_neg (by omega),if_neg (by omega),if_neg (by omega),if_neg (by omega),if_pos (by omega),show 300+e - 300=e by omega]
theorem Qv(hl:∀ q∈l,-32768≤q.num∧q.num≤32767)(e:Nat) : -32768≤(l.getD e 0).num∧(l.getD e 0).num≤32767:=by
 rw [List.getD_eq_getElem?_getD]
 cases hg:l[e]? with
 | none=>decide
 | some x=>exact hl x (List.mem_of_getElem? hg)
theorem PL(z:Int){b:Int}(hb:0<b) : -b<z.tmod b:=by
 have h:=Int.tmod_lt_of_pos (-z) hb;rw [Int.neg_tmod] at h;omega
theorem bG(z:Int) : -9≤z.tmod 10∧z.tmod 10≤9:=by
 have h:=Int.tmod_lt_of_pos z (b:=10) (by decide);have h2:=PL z (b:=10) (by decide);omega
theorem Acj:MdV (Dm zr zc l):=
 ⟨rfl,rfl,rfl,λe he=>by rw [AaG he]; rfl,λe he=>by rw [xN he]; rfl,λe he=>by rw [AaC he,xN he]⟩
theorem zR(h1:0≤zr∧zr≤255)(h2:0≤zc∧zc≤255)(hl:∀ q∈l,-32768≤q.num∧q.num≤32767)(hlen:l.length≤1000000000000000)(k:Nat) : -1152921504606846976≤(Dm zr zc l).z k∧(Dm zr zc l).z k≤1152921504606846976:=by
 simp only [Dm];split
 ·omega
 ·split
  ·omega
  ·split
   ·have a:=Int.tmod_lt_of_pos zr (b:=5) (by decide)
    have b:=PL zr (b:=5) (by decide);omega
   ·split
    ·have a:=Int.tmod_lt_of_pos zc (b:=6) (by decide)
     have b:=PL zc (b:=6) (by decide);omega
    ·split
     ·omega
     ·split
      ·have:=bG (l.getD (k - 100) 0).num
       omega
      ·split
       ·have:=Qv hl (k - 200)
        omega
       ·split
        ·have:=Qv hl (k - 300)
         have:=O_ (p:=(l.getD (k - 300) 0).num / 256) (by omega) (by omega);omega
        ·omega
theorem Aax(hl:∀ q∈l,-32768≤q.num∧q.num≤32767)(e:Nat):yZ ((Dm zr zc l).q e)∧AQ ((Dm zr zc l).q e) 1:=by
 have:=Qv hl e;have a:=O_ (p:=(l.getD e 0).num / 256) (by omega) (by omega);have b:=bG (l.getD e 0).num;exact pO b.1 b.2 (by omega)
end
end Go.Proofs.YtegaedfdddapnaaGreat
