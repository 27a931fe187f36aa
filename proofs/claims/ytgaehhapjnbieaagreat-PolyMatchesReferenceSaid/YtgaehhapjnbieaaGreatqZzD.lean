/- PolyMatchesReference: all functions except Squarefree and Resultant agree with the reference implementation. No condition. -/
import Derived.Test.YtgaehhapjnbieaaGreatqZy
import Derived.Test.YtgaehhapjnbieaaGreatqZo
set_option linter.unusedSectionVars false
set_option linter.unusedVariables false
set_option linter.unusedSimpArgs false
set_option maxRecDepth 100000
namespace Go.Proofs.YtgaehhapjnbieaaGreat
open Go.RowKit
section
variable {V : VL} {P : List (AV × AV)} {e e' : CE} {r m : Nat} {f : Nat}
theorem IG(pl:Br f)(hP:∀ p∈P,Le V V p)(h:∀(M:Nat→Prop)(w:World)(va vb:Value),(∀ b,M b→b<w.heap.size)→(XP.rats (lD V e)).p M w [va]→(XP.rats (lD V e')).p M w [vb]→Bv f M w [va,vb] (V.l r)):@PE.ok (Ae V) (BE f P [aL e,aL e'] (Ag r)):=by
 refine AO pl rfl rfl hP λM w vs hm0 hv=>?_
 obtain ⟨va,_,rfl,h1,vb,_,rfl,h2,h3⟩:=hv;have h3:_=[]:=h3;subst h3;exact (h _ _ _ _ hm0 (AL h1) (AL h2)).rv rfl
theorem dM(pl:Br f)(hP:∀ p∈P,Le V V p)(h:∀(M:Nat→Prop)(w:World)(va:Value),(∀ b,M b→b<w.heap.size)→(XP.rats (lD V e)).p M w [va]→Bv f M w [va] (V.l r)):@PE.ok (Ae V) (BE f P [aL e] (Ag r)):=by
 refine AO pl rfl rfl hP λM w vs hm0 hv=>?_
 obtain ⟨va,_,rfl,h1,h3⟩:=hv;have h3:_=[]:=h3;subst h3;exact (h _ _ _ hm0 (AL h1)).rv rfl
theorem Sk(pl:Br f)(hP:∀ p∈P,Le V V p){q:CE}(h:∀(M:Nat→Prop)(w:World)(va vb:Value),(∀ b,M b→b<w.heap.size)→(XP.rats (lD V e)).p M w [va]→(As (qD V q)).p vb w→Bv f M w [va,vb] (V.l r)):@PE.ok (Ae V) (BE f P [aL e,aQ q m] (Ag r)):=by
 refine AO pl rfl rfl hP λM w vs hm0 hv=>?_
 obtain ⟨va,_,rfl,h1,vb,_,rfl,h2,h3⟩:=hv;have h3:_=[]:=h3;subst h3;exact (h _ _ _ _ hm0 (AL h1) (BN h2).1).rv rfl
theorem wU(pl:Br f)(hP:∀ p∈P,Le V V p){q:CE}{B:Nat}(h:∀(M:Nat→Prop)(w:World)(va vb:Value),(∀ b,M b→b<w.heap.size)→(XP.rats (lD V e)).p M w [va]→(As (qD V q)).p vb w→Calls Tryz.prog f #[va,vb] w (Ak (As (V.q r)) w))(hB:At (V.q r) B):@PE.ok (Ae V) (BE f P [aL e,aQ q m] (aQ (.v r) B)):=by
 refine AO pl rfl rfl hP λM w vs hm0 hv=>?_
 obtain ⟨va,_,rfl,h1,vb,_,rfl,h2,h3⟩:=hv;have h3:_=[]:=h3;subst h3;exact Calls.mono (h _ _ _ _ hm0 (AL h1) (BN h2).1) λe' w' ⟨v,e1,e2,e3⟩=>⟨v,e1,@Co.rv (Ae V) B4 M w' _ _ (Cp (q:=.v r) e2 hB),e3⟩
theorem Zi(pl:Br f)(hP:∀ p∈P,Le V V p){β:Bool}(h:∀(M:Nat→Prop)(w:World)(va vb:Value),(∀ b,M b→b<w.heap.size)→(XP.rats (lD V e)).p M w [va]→(XP.rats (lD V e')).p M w [vb]→Calls Tryz.prog f #[va,vb] w (Ak (Ap (.bool β)) w)):@PE.ok (Ae V) (BE f P [aL e,aL e'] (.val (.bool β))):=by
 refine AO pl rfl rfl hP λM w vs hm0 hv=>?_
 obtain ⟨va,_,rfl,h1,vb,_,rfl,h2,h3⟩:=hv;have h3:_=[]:=h3;subst h3;exact Calls.mono (h _ _ _ _ hm0 (AL h1) (AL h2)) λe' w' ⟨v,e1,e2,e3⟩=>⟨v,e1,e2,e3⟩
theorem Aog(hP:∀ p∈P,Le V V p){g s t:Nat}(h:∀(M:Nat→Prop)(w:World)(va vb:Value),(∀ b,M b→b<w.heap.size)→(XP.rats (lD V e)).p M w [va]→(XP.rats (lD V e')).p M w [vb]→pX M w [va,vb] (V.l g,V.l s,V.l t)):@PE.ok (Ae V) (BE 16 P [aL e,aL e'] (.tup [Ag g,Ag s,Ag t])):=by
 refine AO (λ_ _=>by simp [go_sem]) rfl rfl hP λM w vs hm0 hv=>?_
 obtain ⟨va,_,rfl,h1,vb,_,rfl,h2,h3⟩:=hv;have h3:_=[]:=h3;subst h3;refine Calls.mono (h _ _ _ _ hm0 (AL h1) (AL h2)) λe w' ⟨v,q1,⟨u1,u2,u3,q2,q3,q4,q5⟩,q6⟩=>⟨v,q1,?_,q6⟩
 rw [q2];exact ⟨_,rfl,u1,_,rfl,Bb (e:=.v g) q3,u2,_,rfl,Bb (e:=.v s) q4,u3,_,rfl,Bb (e:=.v t) q5,rfl⟩
end
structure MLs where
 a:List Rat
 b:List Rat
 c:List Rat
 A:List Rat
 B:List Rat
 C:List Rat
 x:Rat
 q:List Rat
 r:List Rat
 g:List Rat
 s:List Rat
 t:List Rat
def MLs.V(D:MLs)(x0 x1:Int):VL:=⟨λk=>match k with | 6=>x0 | 7=>x1 | _=>0,
 λk=>match k with | 0=>D.a | 1=>D.b | 2=>D.c | 3=>D.A | 4=>D.B | 5=>D.C | 10=>D.q | 11=>D.r | 12=>D.g | 13=>D.s | 14=>D.t | 16=>DL D.a D.b | 17=>CO D.a D.b | 18=>mulL D.a D.b | 19=>AJ D.a D.x | 20=>Dt D.a | 21=>Ia D.a | 22=>Dp D.a D.x | _=>[],
 λk=>match k with | 0=>D.x | 10=>GE D.a D.x | _=>0,λ_=>[]⟩
def aB:AV:=aQ (.v 0) 1
def Aqj:List (AV × AV):=([Ag 0,Ag 1,Ag 10,Ag 11,Ag 12,Ag 13,Ag 14,Ag 16,Ag 17,Ag 18,Ag 19,Ag 20,Ag 21,Ag 22,aB]).map λa=>(a,a)
def Ajp:Fa:=⟨[],[],[],[(.ap 32 (.v 10) (.v 10),true)],[],[],[]⟩
noncomputable def EY(f:Nat)(xs:List AV)(r:AV):PE:=BE f Aqj xs r
noncomputable def uH(k:Nat):PE:=EY 17 [Ag k,Ag k] (.val (.bool true))
noncomputable def Alc(β:Bool):PE:=EY 17 [Ag 0,Ag 1] (.val (.bool β))
def AfU:List Nat:=[11,12,13,14,16,17,18,19,20,21,22]
def Hc:List AV:=[Ag 0,Ag 1]
noncomputable def AlG(n:Int)(β:Bool):List PE:=[xA,Tc,X7,
 EY 13 Hc (.tup [Ag 10,Ag 11,.val (.int .i64 n)]),EY 14 Hc (.tup [Ag 10,Ag 11,.val (.int .i64 n)]),
 EY 15 Hc (.tup [Ag 12,Ag 13,Ag 14]),EY 16 Hc (.tup [Ag 12,Ag 13,Ag 14]),
 EY 18 Hc (Ag 12),EY 19 Hc (Ag 12),
 EY 20 Hc (Ag 16),EY 21 Hc (Ag 16),
 EY 22 Hc (Ag 17),EY 23 Hc (Ag 17),
 EY 24 Hc (Ag 18),EY 25 Hc (Ag 18),
 EY 26 [Ag 0,aB] (Ag 19),EY 27 [Ag 0,aB] (Ag 19),
 EY 28 [Ag 0] (Ag 20),EY 29 [Ag 0] (Ag 20),
 EY 30 [Ag 0] (Ag 21),EY 31 [Ag 0] (Ag 21),
 EY 33 [Ag 0,aB] (aQ (.v 10) 100),EY 34 [Ag 0,aB] (aQ (.v 10) 100),
 EY 35 [Ag 0,aB] (Ag 22),EY 36 [Ag 0,aB] (Ag 22),
 orN (uH 10) (Alc β :: AfU.map uH),
 UN (EY 37 Hc (.val (.bool β))) (EY 37 [Ag 0,Ag 0] (.val (.bool true))),
 EY 38 [Ag 0] (.val (.bool true))]
noncomputable def Qu:Func:=Tryz.f3
noncomputable def AmD:=Bw Qu
noncomputable def J0(n:Int)(β:Bool):=AQ (BT Ajp (AlG n β)) Am 100 100 (.run AmD) [] (B5 Qu.ntmps [.agg P7])
theorem AjJ:J0 0 true=some (.done .ret (Af (J0 0 true))):=by kernel_rfl
theorem AkC:J0 0 false=some (.done .ret (Af (J0 0 false))):=by kernel_rfl
theorem Akj:J0 3 true=some (.done .ret (Af (J0 3 true))):=by kernel_rfl
theorem AkM:J0 3 false=some (.done .ret (Af (J0 3 false))):=by kernel_rfl
theorem Alk:Dz Qu (Af (J0 0 true))=some (.val (.bool true)):=by kernel_rfl
theorem Ajz:Dz Qu (Af (J0 0 false))=some (.val (.bool true)):=by kernel_rfl
theorem Ajr:Dz Qu (Af (J0 3 true))=some (.val (.bool true)):=by kernel_rfl
theorem AiV:Dz Qu (Af (J0 3 false))=some (.val (.bool true)):=by kernel_rfl
theorem Asy:Qu.body=some AmD:=by kernel_rfl
theorem As0:Nat.ble 1 Qu.ntmps=true:=by kernel_rfl
theorem Zl{a b:List Rat}(ha:a.length≤5)(hb:b.length≤5):(mulL a b).length≤10:=by
 by_cases e1:a=[]
 ·rw [e1,CI]; exact Nat.zero_le _
 ·by_cases e2:b=[]
  ·rw [e2,Cs]; exact Nat.zero_le _
  ·rw [Dk e1 e2]; omega
theorem CZ{V:VL}:∀ p∈Aqj,Le V V p:=Gf (by rfl)
theorem ArS(D:MLs){x0 x1:Int}(k0 : -128≤x0∧x0≤127)(k1 : -128≤x1∧x1≤127):AP (D.V x0 x1) Ajp:=by
 refine ⟨rfl,λk=>?_,λ_ h=>(by cases h),λ_ h=>(by cases h),λ_ h=>(by cases h),λy hy=>?_,λ_ h=>(by cases h),λ_ h=>(by cases h),λ_ h=>(by cases h)⟩
 ·show -1152921504606846976≤(match k with | 6=>x0 | 7=>x1 | _=>0)∧(match k with | 6=>x0 | 7=>x1 | _=>0)≤(1152921504606846976:Int)
  split <;> omega
 ·have hy:y∈[((.ap 32 (.v 10) (.v 10):CE),true)]:=hy
  rw [List.mem_singleton] at hy;subst hy;refine decide_eq_true ?_;show qD (D.V x0 x1) (.ap 32 (.v 10) (.v 10))=0;simp only [qD];exact Rat.sub_self
theorem Ajd(D:MLs){x0 x1:Int}{n:Int}{β:Bool}(hn:n=0 ∨ n=3)(hF:AP (D.V x0 x1) Ajp)(hE:∀ e∈AlG n β,@PE.ok (Ae (D.V x0 x1)) e){M:Nat→Prop}{w:World}{vs:List Value}(hm0:∀ b,M b→b<w.heap.size)(hv:@Cz (Ae (D.V x0 x1)) B4 M w [.agg P7] vs):Calls Tryz.prog 3 vs.toArray w (Ak (Ap (.bool true)) w):=by
 have key:J0 n β=some (.done .ret (Af (J0 n β)))∧Dz Qu (Af (J0 n β))=some (.val (.bool true)):=by
  rcases hn with rfl | rfl <;> cases β
  ·exact ⟨AkC,Ajz⟩
  ·exact ⟨AjJ,Alk⟩
  ·exact ⟨AkM,AiV⟩
  ·exact ⟨Akj,Ajr⟩
 exact Calls.mono (CP .ret (.inr rfl) hF hE Tryz.func3 Asy (by rfl) rfl (show [AV.agg P7].length≤Qu.ntmps from Nat.le_of_ble_eq_true As0) key.1 key.2 hm0 hv) λe w' ⟨u,e1,e2,e3⟩=>⟨u,e1,e2,e3⟩
theorem vL{l:List Rat}{x:Rat}{p q:Nat}(h:∀ y∈l,At y p)(hx:At x q)(h1:1≤p):∀ y∈AJ l x,At y (q+p):=C2 λk=>by
 rw [(AY l x).2];refine hx.mul ?_
 by_cases hk:k<l.length
 ·rw [C6 hk]
  exact h _ (List.getElem_mem hk)
 ·rw [A9 (by omega)]
  exact Ih.mono h1
theorem Ady{l:List Rat}(t:Ai l)(h:∀ y∈l,At y 1):∀ y∈Dt l,At y 3:=by
 unfold Dt;split
 ·exact λy hy=>by cases hy
 ·rename_i e
  have hx:At (1 / l.getD (l.length - 1) 0) 2:=by
   have hl:At (l.getD (l.length - 1) 0) 1:=by
    have:=List.length_pos_iff.2 e;rw [List.getD_eq_getElem?_getD,List.getElem?_eq_getElem (by omega)];exact h _ (List.getElem_mem _)
   exact hl.inv1
  exact vL h hx (by decide)
theorem zN(l:List Rat):(Dt l).length≤l.length:=by
 unfold Dt;split
 ·exact Nat.zero_le _
 ·exact Ps _ _
theorem qH{a b c A B C:List Rat}{x:Rat}{x0 x1:Int}(ha:Ig a)(hb:Ig b)(sx:At x 1)(k0 : -128≤x0∧x0≤127)(k1 : -128≤x1∧x1≤127)
  (hmk:∀ V:VL,V.z 0=0→(∀ k,-1152921504606846976≤V.z k∧V.z k≤1152921504606846976)→V.l 3=A→V.l 4=B→V.l 5=C→V.l 0=a→V.l 1=b→V.l 2=c → @PE.ok (Ae V) Tc)
  (hnu:∀ V:VL,V.z 0=0→(∀ k,-1152921504606846976≤V.z k∧V.z k≤1152921504606846976)→V.z 6=x0→V.z 7=x1→V.q 0=x → @PE.ok (Ae V) X7) {M:Nat→Prop} {w:World} {vs:List Value} (hm0:∀ b,M b→b<w.heap.size)
  (hv:∀ V:VL,V.l 3=A→V.l 4=B→V.l 5=C→V.z 6=x0→V.z 7=x1 → @Cz (Ae V) B4 M w [.agg P7] vs):Calls Tryz.prog 3 vs.toArray w (Ak (Ap (.bool true)) w):=by
 obtain ⟨N,bo⟩:=Abg ha hb;obtain ⟨hR,hE⟩:=bo.ok ha hb;obtain ⟨bg,bs,bt,lg,ls,lt⟩:=Alv hE;obtain ⟨g',hg',hgc⟩:=ApA ha.small hb.small;have eg:g'=((Di a b).it N).fin.1:=by rw [O_]; exact hg'.unique bo.g
 subst eg;have la:=ha.l;have lb:=hb.l;have ta:=ha.t;have tb:=hb.t;have up:∀{l:List Rat}{n m:Nat},(∀ y∈l,At y n)→n≤m→∀ y∈l,At y m:=λh hn y hy=>(h y hy).mono hn
 have sa:=ha.s;have sb:=hb.s;obtain ⟨n,q,r,hn,lq,lr,cq,cr,hd1,hd2⟩:∃(n:Int)(q r:List Rat),(n=0 ∨ n=3)∧q.length≤5∧r.length≤5∧(∀ y∈q,At y 1000)∧(∀ y∈r,At y 1000)∧(∀(M:Nat→Prop)(w:World)(va vb:Value),(∀ b,M b→b<w.heap.size)→(XP.rats a).p M w [va]→(XP.rats b).p M w [vb]→Va M w [va,vb] q r n)∧(∀(M:Nat→Prop)(w:World)(va vb:Value),(∀ b,M b→b<w.heap.size)→(XP.rats a).p M w [va]→(XP.rats b).p M w [vb]→jA M w [va,vb] q r n):=by
  obtain ⟨Da,ca⟩:=ha.cd;obtain ⟨Db,cb⟩:=hb.cd
  by_cases b0:b=[]
  ·subst b0
   exact ⟨3,[],[],.inr rfl,Nat.zero_le _,Nat.zero_le _,λy hy=>(by cases hy),λy hy=>(by cases hy),λM w va vb hm0 hva hvb=>WT hm0 (by omega) hva hvb,λM w va vb hm0 hva hvb=>lM hm0 hva hvb⟩
  ·have hp:=List.length_pos_iff.2 b0
   have n0:b.getD (b.length - 1) 0≠0:=tb.resolve_left b0;have o:=IS ta tb b0;have hN:BM a b≤5:=by
    show a.length+1 - b.length≤5;omega
   have m1:(BM a b+1)*(5+1)≤6*6:=Nat.mul_le_mul (by omega) (by decide);have m2:BM a b*(5+1)≤6*6:=Nat.mul_le_mul (by omega) (by decide);obtain ⟨D1,c1⟩:=ca.dvQ cb tb b0 (by decide);obtain ⟨D2,c2⟩:=ca.dvR cb tb b0;refine ⟨0,dvQ a b,dvR a b,.inl rfl,Nat.le_trans (Acw b0) la,by have:=o.lr; omega,λy hy=>(c1.rsmL (by omega) y hy).mono (by omega),λy hy=>(c2.rsmL (by omega) y hy).mono (by omega),λM w va vb hm0 hva hvb=>?_,λM w va vb hm0 hva hvb=>Wi ta tb la b0 lb ⟨Da,ca.mono (by decide)⟩ ⟨Db,cb.mono (by decide)⟩ hm0 hva hvb⟩;unfold dvQ dvR
   by_cases hl:b.length≤a.length
   ·rw [if_pos hl,if_pos hl]
    have dm:yU a b:=iT ca cb hp hl (by omega) n0 (by decide) (by decide) (by omega);exact QM dm.l0 dm.ll dm.la dm.b0 dm.sb dm.sX dm.sR dm.sI hm0 hva hvb
   ·rw [if_neg hl,if_neg hl]
    exact ZJ hp (by omega) (by omega) hm0 hva hvb
 let D:MLs:=⟨a,b,c,A,B,C,x,q,r,((Di a b).it N).fin.1,((Di a b).it N).fin.2.1,((Di a b).it N).fin.2.2⟩
 have hF:=ArS D k0 k1;have i1:∀ y∈DL a b,At y 3:=Sq (p:=1) (q:=1) (by decide) (by decide) sa sb;have i2:∀ y∈CO a b,At y 4:=λy hy=>by
  have e:CO a b=DL a (AJ b (-1)):=(Ck a b).1.ext (BU _ _).1 λk=>by
   rw [(Ck a b).2,(BU _ _).2,(AY b (-1)).2]
   grind
  rw [e] at hy;exact Sq (p:=1) (q:=2) (by decide) (by decide) sa (vL (q:=1) sb Gv.neg (by decide)) y hy
 have i3:∀ y∈mulL a b,At y 16:=λy hy=>(TD (p:=1) (q:=1) (by decide) (by decide) sa sb y hy).mono (by omega)
 have i4:∀ y∈AJ a x,At y 2:=vL sa sx (by decide);have i5:=Ady ta sa;have i6:∀ y∈Ia a,At y 3:=vC (p:=1) (by decide) (by omega) sa;have i7:∀ y∈Dp a x,At y 358:=qU (p:=1) (q:=1) (by decide) sa sx (N:=5) la (by decide);have j1:=Wh a b;have j2:(CO a b).length≤max a.length b.length:=by
  have:=By ((List.range (max a.length b.length)).map λi=>a.getD i 0 - b.getD i 0);rwa [List.length_map,List.length_range] at this
 have j3:=Zl la lb;have j4:=Ps a x;have j5:=zN a;have j6:=mF a;have j7:=Ov a x;have mI:∀ i,i<a.length→∀ j,j<b.length→∀ y∈D_ (BW a b i) (a.getD i 0) b i j,At y 99000000:=AdH (n:=5) (by decide) (by decide) sa sb la (by decide);have ev:=Od (a:=a) (p:=1) (q:=1) (by decide) sx sa;have key:∀ β:Bool,decide (a=b)=β→Calls Tryz.prog 3 vs.toArray w (Ak (Ap (.bool true)) w):=λβ hβ=>by
  refine Ajd D (x0:=x0) (x1:=x1) (n:=n) (β:=β) hn hF (λe he=>?_) hm0 (hv _ rfl rfl rfl rfl rfl);simp only [AlG,List.mem_cons,List.not_mem_nil,or_false] at he
  rcases he with rfl | rfl | rfl | rfl | rfl | rfl | rfl | rfl | rfl | rfl | rfl | rfl | rfl | rfl | rfl | rfl | rfl | rfl | rfl | rfl | rfl | rfl | rfl | rfl | rfl | rfl | rfl | rfl
  ·exact oD
  ·exact hmk _ hF.z0 hF.sm rfl rfl rfl rfl rfl rfl
  ·exact hnu _ hF.z0 hF.sm rfl rfl rfl
  ·exact Aft (e:=.v 0) (e':=.v 1) CZ hd1 rfl rfl
  ·exact Ww (e:=.v 0) (e':=.v 1) CZ hd2 rfl rfl
  ·exact AdG (e:=.v 0) (e':=.v 1) CZ bo.x rfl rfl rfl
  ·exact Aog (e:=.v 0) (e':=.v 1) CZ λM w va vb hm0 hva hvb=>AqV la lb hR bo.z hE hm0 hva hvb
  ·exact IG (e:=.v 0) (e':=.v 1) (r:=12) (λ_ _=>by simp [go_sem]) CZ hgc
  ·refine IG (e:=.v 0) (e':=.v 1) (r:=12) (λ_ _=>by simp [go_sem]) CZ λM w va vb hm0 hva hvb=>?_
   have:=ApU la lb hR bo.z hE hm0 hva hvb;rw [← O_] at this;exact this
  ·exact IG (e:=.v 0) (e':=.v 1) (r:=16) (λ_ _=>by simp [go_sem]) CZ λM w va vb hm0 hva hvb=>Asl (up sa (by decide)) (up sb (by decide)) (by omega) (by omega) hm0 hva hvb
  ·exact IG (e:=.v 0) (e':=.v 1) (r:=16) (λ_ _=>by simp [go_sem]) CZ λM w va vb hm0 hva hvb=>wC ta tb (up sa (by decide)) (up sb (by decide)) la lb hm0 hva hvb
  ·exact IG (e:=.v 0) (e':=.v 1) (r:=17) (λ_ _=>by simp [go_sem]) CZ λM w va vb hm0 hva hvb=>Af3 (up sa (by decide)) (up sb (by decide)) (by omega) (by omega) hm0 hva hvb
  ·exact IG (e:=.v 0) (e':=.v 1) (r:=17) (λ_ _=>by simp [go_sem]) CZ λM w va vb hm0 hva hvb=>AgP ta tb (up sa (by decide)) (up sb (by decide)) la lb hm0 hva hvb
  ·exact IG (e:=.v 0) (e':=.v 1) (r:=18) (λ_ _=>by simp [go_sem]) CZ λM w va vb hm0 hva hvb=>AgV (up sa (by decide)) (up sb (by decide)) (by omega) (by omega) mI hm0 hva hvb
  ·exact IG (e:=.v 0) (e':=.v 1) (r:=18) (λ_ _=>by simp [go_sem]) CZ λM w va vb hm0 hva hvb=>Af9 ta tb (up sa (by decide)) (up sb (by decide)) la lb hm0 hva hvb
  ·exact Sk (e:=.v 0) (q:=.v 0) (r:=19) (λ_ _=>by simp [go_sem]) CZ λM w va vb hm0 hva hvb=>R4 (up sa (by decide)) (sx.mono (by decide)) (by omega) hm0 hva hvb
  ·exact Sk (e:=.v 0) (q:=.v 0) (r:=19) (λ_ _=>by simp [go_sem]) CZ λM w va vb hm0 hva hvb=>Nz (up sa (by decide)) la (sx.mono (by decide)) hm0 hva hvb
  ·exact dM (e:=.v 0) (r:=20) (λ_ _=>by simp [go_sem]) CZ λM w va hm0 hva=>iY (up sa (by decide)) (by omega) ta hm0 hva
  ·exact dM (e:=.v 0) (r:=20) (λ_ _=>by simp [go_sem]) CZ λM w va hm0 hva=>jM ta (up sa (by decide)) la hm0 hva
  ·exact dM (e:=.v 0) (r:=21) (λ_ _=>by simp [go_sem]) CZ λM w va hm0 hva=>Akg (up sa (by decide)) (by omega) hm0 hva
  ·exact dM (e:=.v 0) (r:=21) (λ_ _=>by simp [go_sem]) CZ λM w va hm0 hva=>Aiy (up sa (by decide)) la hm0 hva
  ·exact wU (e:=.v 0) (q:=.v 0) (r:=10) (λ_ _=>by simp [go_sem]) CZ (λM w va vb hm0 hva hvb=>AjS (up sa (by decide)) (sx.mono (by decide)) (by omega) (λi _=>(oJ (p:=1) (q:=1) (by decide) sx sa i).mono (by omega)) hm0 hva hvb) (ev.mono (by omega))
  ·exact wU (e:=.v 0) (q:=.v 0) (r:=10) (λ_ _=>by simp [go_sem]) CZ (λM w va vb hm0 hva hvb=>AlC (up sa (by decide)) la (sx.mono (by decide)) hva hvb) (ev.mono (by omega))
  ·exact Sk (e:=.v 0) (q:=.v 0) (r:=22) (λ_ _=>by simp [go_sem]) CZ λM w va vb hm0 hva hvb=>AeA (sx.mono (by decide)) (by omega) (Rs (p:=1) (q:=1) (N:=5) (by decide) sa sx la (by decide)) hm0 hva hvb
  ·exact Sk (e:=.v 0) (q:=.v 0) (r:=22) (λ_ _=>by simp [go_sem]) CZ λM w va vb hm0 hva hvb=>Ac6 ta sa la sx hm0 hva hvb
  ·have eqk:∀{k n:Nat},(∀ y∈(D.V x0 x1).l k,At y n)→n≤140000000→((D.V x0 x1).l k).length≤1000000 → @PE.ok (Ae (D.V x0 x1)) (uH k):=fun {k n} h hn hl=>Ai6 (e:=.v k) CZ (up h hn) hl
   refine PM (λe he=>?_) (eqk (k:=10) cq (by decide) (by show q.length≤_; omega)) λe he=>?_
   ·rcases List.mem_cons.1 he with rfl | he
    ·rfl
    ·obtain ⟨k,_,rfl⟩:=List.mem_map.1 he
     rfl
   ·rcases List.mem_cons.1 he with rfl | he
    ·refine Zi (e:=.v 0) (e':=.v 1) (λ_ _=>by simp [go_sem]) CZ λM w va vb hm0 hva hvb=>?_
     have:=iF (up sa (by decide)) (up sb (by decide)) (by omega) (by omega) hm0 hva hvb;rw [hβ] at this;exact Calls.mono this λe w' ⟨q1,q2⟩=>⟨_,q1,rfl,q2⟩
    ·obtain ⟨k,hk,rfl⟩:=List.mem_map.1 he
     simp only [AfU,List.mem_cons,List.not_mem_nil,or_false] at hk
     rcases hk with rfl | rfl | rfl | rfl | rfl | rfl | rfl | rfl | rfl | rfl | rfl
     ·exact eqk (k:=11) cr (by decide) (by show r.length≤_; omega)
     ·exact eqk (k:=12) bg (by decide) (Nat.le_trans lg (by decide))
     ·exact eqk (k:=13) bs (by decide) (Nat.le_trans ls (by decide))
     ·exact eqk (k:=14) bt (by decide) (Nat.le_trans lt (by decide))
     ·exact eqk (k:=16) i1 (by decide) (by show (DL a b).length≤_; omega)
     ·exact eqk (k:=17) i2 (by decide) (by show (CO a b).length≤_; omega)
     ·exact eqk (k:=18) i3 (by decide) (by show (mulL a b).length≤_; omega)
     ·exact eqk (k:=19) i4 (by decide) (by show (AJ a x).length≤_; omega)
     ·exact eqk (k:=20) i5 (by decide) (by show (Dt a).length≤_; omega)
     ·exact eqk (k:=21) i6 (by decide) (by show (Ia a).length≤_; omega)
     ·exact eqk (k:=22) i7 (by decide) (by show (Dp a x).length≤_; omega)
  ·refine C1 rfl (Zi (e:=.v 0) (e':=.v 1) (λ_ _=>by simp [go_sem]) CZ λM w va vb hm0 hva hvb=>?_) (Zi (e:=.v 0) (e':=.v 0) (λ_ _=>by simp [go_sem]) CZ λM w va vb hm0 hva hvb=>?_)
   ·have:=OO (up sa (by decide)) (up sb (by decide)) la lb hva hvb
    rw [hβ] at this;exact this
   ·have:=OO (up sa (by decide)) (up sa (by decide)) la la hva hvb
    rw [decide_eq_true rfl] at this;exact this
  ·refine AO (λ_ _=>by simp [go_sem]) rfl rfl CZ λM w vs hm0 hv=>?_
   obtain ⟨va,_,rfl,h1,h3⟩:=hv;have h3:_=[]:=h3;subst h3;exact Calls.mono (XZ ta (up sa (by decide)) la (AL (V:=D.V x0 x1) (e:=.v 0) h1)) λe w' ⟨v,e1,e2,e3⟩=>⟨v,e1,e2,e3⟩
 exact key _ rfl
theorem AkL{W:World}{v:Value}{A B C:List Rat}{x0 x1:Int}(h:Kq W v A B C x0 x1):Calls Tryz.prog 3 #[v] W (Ak (Ap (.bool true)) W):=by
 have h0:=h;obtain ⟨_,_,_,_,a,b,c,kA,kB,kC,k0,k1⟩:=h;refine qH (A:=A) (B:=B) (C:=C) (c:=Fo C 3) (x:=O1 x0 x1) (vs:=[v]) ⟨Wm,RJ,WB (yI a)⟩ ⟨Wm,RJ,WB (yI b)⟩ (U6 k0 k1) k0 k1 (λV z0 sm e3 e4 e5 e0 e1 e2=>?_) (λV z0 sm e6 e7 e0=>?_) (M:=λ_=>False) (λ_ h=>h.elim) λV e3 e4 e5 e6 e7=>?_
 ·subst e3 e4 e5
  exact Acm z0 sm kA kB kC e0 e1 e2
 ·subst e6 e7
  exact Afo z0 sm e0
 ·subst e3 e4 e5 e6 e7
  exact Kq.rvs h0
section
open Go.ChangeShapes Go.WideShapes Go.ChangeAt Go.RowKit Go.Joins
theorem FG(os:Os)(started:os.Started)(H:Type)(enc:TypeId × Value→H) :
  ReturnsInHanded {} Tryz.checked os 3 .any (Rows.polyMatchesReferenceSpec.pre6 enc Tryz.prog Tryz.f3 [] false)
   (Rows.polyMatchesReferenceSpec.post enc Tryz.prog Tryz.f3 false true false false):=by
 refine returnsInHanded_of_change_sized (C:=Tryz.checked) AsK started (by kernel_rfl) Tryz.func3 ?_ ?_
 ·obtain ⟨w,t,i,a1,a2,a3,a4,⟨⟨p1,_⟩,p2⟩,a6⟩:=ChangeSpec.witness_at (enc:=enc) (C:=Tryz.checked) (os:=os) (f:=3) (fn:=Tryz.f3) (s:=Rows.polyMatchesReferenceSpec) (conds:=[]) (apart:=false) (X:=λ_ _=>True) false (World.holding Tryz.prog os ⟨#[],#[],[]⟩) #[.agg #[.slice none 0 0,.slice none 0 0,.slice none 0 0,.int .i8 0,.int .i8 0]] 8 rfl (by kernel_rfl) (by kernel_rfl) (by kernel_rfl) (by kernel_rfl) (by kernel_rfl) True.intro
  exact ⟨w,t,i,a1,a2,a3,a4,⟨p1,p2⟩,a6⟩
 intro W base args ds gs before hval0 hW _ hsz0 _;have hval:∀(j:Nat) t v,Tryz.f3.params[j]? = some t→args[j]? = some v→Value.okWide Tryz.prog W .any base t v:=hval0;have hsz:(DataW.weightsEach Tryz.prog (Tryz.f3.params.toList ++ Rows.polyMatchesReferenceSpec.plain.varTypes Tryz.prog) (ds ++ gs)).all (· ≤ reachBytes)=true:=hsz0;have hW':=hW;obtain ⟨p,q,hA0,hV0,rfl,hfz,hnd⟩:=hW;have hA:DataW.TrodAll enc Tryz.prog W 0 (λ_=>true) true Tryz.f3.params.toList args.toList ds p:=hA0;have hV:DataW.TrodVars enc Tryz.prog W (λ_=>true) [] gs q:=hV0;rw [Tryz.params3] at hA hval hsz;obtain ⟨rfl,rfl⟩:=trodVars_none hV;obtain ⟨v0,d0,rfl,rfl,h0⟩:=trodAll_one hA;have h0k:=h0;have hw0:∀ n∈d0.weights Tryz.prog 26,n≤reachBytes:=λn hn =>
  of_decide_eq_true (List.all_eq_true.1 hsz _ (DataW.weights_mem_each (j:=0) (t:=26) rfl rfl n hn))
 have hlt0:∀ x∈p,x.block<W.heap.size:=λx hx=>hW'.lt x (by simp [hx])
 obtain ⟨A0,B0,C0,x0,y0,K0⟩:=Yv (hval 0 26 v0 rfl rfl) h0 hw0;clear hA0 hV0 hval0 hsz0;refine (AkL K0).mono λe W' hpost=>?_
 obtain ⟨u,he,hu,hb⟩:=hpost;have hu:u = .bool true:=hu;subst hu;subst he;have e1:Rows.polyMatchesReferenceSpec.fn H ([d0] ++ []) = { results:=[.lit (.bool true)],args:=[d0] }:=by simp [Rows.polyMatchesReferenceSpec]
 refine ⟨_,rfl,xF hW' hb ?_ ?_ ?_⟩
 ·rw [e1]; exact trodAll_mk1 (shut_bool Tryz.underlying4 true)
 ·rw [e1]
  have:=trodAll_mk1 (Below.trod xI (by kernel_rfl) (of_decide_eq_true (by kernel_rfl)) h0k hb hlt0);simpa using this
 ·rw [e1]; rfl
theorem polyMatchesReference_holds:Rows.PolyMatchesReferenceSaid:=
 OpenClaim.holds_of_wide 3 Tryz.f3 rfl rfl rfl rfl rfl rfl rfl ⟨rfl,rfl,rfl,rfl,rfl⟩ rfl rfl rfl rfl rfl (by kernel_rfl) Tryz.func3 (by kernel_rfl)
  (of_decide_eq_true (by kernel_rfl)) (by unfold Func.isWrapper; rw [if_neg (of_decide_eq_false (by kernel_rfl))]; exact ⟨rfl,rfl⟩)
  (λos started H enc _=>FG os started H enc)
end
end Go.Proofs.YtgaehhapjnbieaaGreat
