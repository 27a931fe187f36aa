/- The reference's functions of lists, by their runs: one for each length. -/
import Derived.Test.YtgaehhapjnbieaaGreatqYj
set_option linter.unusedSectionVars false
set_option linter.unusedVariables false
set_option linter.unusedSimpArgs false
set_option maxRecDepth 100000
namespace Go.Proofs.YtgaehhapjnbieaaGreat
open Go.RowKit
def Ado(F:Fa)(qs:List CE)(k:Nat):Fa:=⟨F.le,F.len,F.bd,F.zr ++ (((List.range (qs.length - k)).map λi=>(qs.getD (k+i) (.lit 0),true)) ++ (if k=0 then [] else [(qs.getD (k - 1) (.lit 0),false)])),F.rlen,F.full,F.sum⟩
def eqC:List (CE × Nat)→List CE→Bool
 | [],[]=>true
 | a :: l,b :: m=>CE.beq a.1 b && eqC l m
 | _,_=>false
theorem Zv:∀{l:List (CE × Nat)}{m:List CE},eqC l m=true→l.map (·.1)=m
 | [],[],_=>rfl
 | a :: l,b :: m,h=>by
  unfold eqC at h;rw [Bool.and_eq_true] at h;rw [List.map_cons,Zv h.2,CE.beq_eq h.1]
 | [],_ :: _,h=>by unfold eqC at h; cases h
 | _ :: _,[],h=>by unfold eqC at h; cases h
noncomputable def Qe(L:List PE)(f:Nat)(xs:List AV)(F:Fa)(qs:List CE)(k:Nat):Bool:=match uB k (EQ Am (DW (BT (Ado F qs k) L) Am 300) f xs [] 16 0) with
 | some l=>eqC l (qs.take k)
 | none=>false
section
variable {V : VL} {F : Fa} {L : List PE} {f k : Nat} {xs : List AV} {qs : List CE}
theorem pJ{i:Nat}(h:i<qs.length):cf (qs.map (qD V)) i=qD V (qs.getD i (.lit 0)):=by
 rw [C6 (by rw [List.length_map]; exact h),List.getElem_map,List.getD_eq_getElem?_getD,List.getElem?_eq_getElem h];rfl
theorem AfZ(hF:AP V F)(hk:k≤qs.length)(hz:∀ i,k≤i→cf (qs.map (qD V)) i=0)(ht:k=0 ∨ cf (qs.map (qD V)) (k - 1)≠0):AP V (Ado F qs k):=by
 refine ⟨hF.z0,hF.sm,hF.le,hF.len,hF.bd,λx hx=>?_,hF.rlen,hF.full,hF.sum⟩
 rcases List.mem_append.1 hx with hx | hx
 ·exact hF.zr x hx
 rcases List.mem_append.1 hx with hx | hx
 ·obtain ⟨i,hi,rfl⟩:=List.mem_map.1 hx
  have hi:i<qs.length - k:=by simpa using hi
  refine decide_eq_true ?_;show qD V (qs.getD (k+i) (.lit 0))=0;rw [← pJ (by omega)];exact hz _ (by omega)
 ·split at hx
  ·cases hx
  ·rename_i h0
   rw [List.mem_singleton] at hx;subst hx;refine decide_eq_false ?_;show ¬ qD V (qs.getD (k - 1) (.lit 0))=0;rw [← pJ (by omega)];exact ht.resolve_left h0
theorem Rk(hF:AP V F)(hL:∀ e∈L,@PE.ok (Ae V) e){ks:List Nat}(h:ks.all (Qe L f xs F qs)=true)(hk:∀ k,k≤qs.length→(∀ i,k≤i→cf (qs.map (qD V)) i=0)→(k=0 ∨ cf (qs.map (qD V)) (k - 1)≠0)→k∈ks)
  {M:Nat→Prop} {w:World} {vs:List Value} (hm0:∀ b,M b→b<w.heap.size) (hv:@Cz (Ae V) B4 M w xs vs):Bv f M w vs (Cd (qs.map (qD V))):=by
 obtain ⟨k,k1,k2,k3⟩:=I5 (qs.map (qD V)) (qs.map (qD V)).length (Nat.le_refl _) λi hi=>A9 hi
 have k1':k≤qs.length:=by rwa [List.length_map] at k1
 have h:=List.all_eq_true.1 h k (hk k k1' k2 k3);unfold Qe at h;split at h
 ·rename_i l hl
  have hc:=Oz (AfZ hF k1' k2 k3) hL hl hm0 hv;have e:=Zv h;have e2:(l.map λp=>qD V p.1)=Cd (qs.map (qD V)):=by
   rw [← Eg k1 k2 k3,← List.map_take,← e,List.map_map];rfl
  rw [e2] at hc;exact hc
 ·cases h
end
def zC:CE:=.ap 36 (.lit 0) (.lit 1)
def opC(f:Nat)(x y:CE):CE:=if CE.beq x zC && CE.beq y zC then zC else .ap f x y
def D7(e:CE)(n t:Nat):CE:=if t<n then .ap 30 e (.i 0 (t:Int)) else zC
def VA(i j:Nat):List (Nat × Nat × Int):=[(1,0,(i:Int)),(0,1,-(i:Int)),(2,0,(j:Int)),(0,2,-(j:Int)),(1,2,(i:Int) - j),(2,1,(j:Int) - i),(3,0,(i:Int)+j),(0,3,-((i:Int)+j))]
def FE(i j:Nat):Fa:=⟨VA i j,[(.v 0,1,0),(.v 1,2,0)],[(.v 0,4000000),(.v 1,4000000)],[],[],[],[(1,2,3)]⟩
def BJ(a b:List Rat)(x:Rat):VL:=⟨λk=>match k with | 1=>(a.length:Int) | 2=>(b.length:Int) | 3=>(a.length:Int)+b.length | _=>0,λk=>match k with | 0=>a | 1=>b | _=>[],λk=>match k with | 0=>x | _=>0,λ_=>[]⟩
section
variable {V : VL} {a b : List Rat} {x : Rat}
theorem mE:qD V zC=0:=by
 show mkRat 0 1=0;decide
theorem fE(x y:CE):qD V (opC 31 x y)=qD V x+qD V y:=by
 unfold opC;split
 ·rename_i h
  rw [Bool.and_eq_true] at h;rw [CE.beq_eq h.1,CE.beq_eq h.2,mE,Rat.add_zero]
 ·simp only [qD]
theorem bP(x y:CE):qD V (opC 33 x y)=qD V x*qD V y:=by
 unfold opC;split
 ·rename_i h
  rw [Bool.and_eq_true] at h;rw [CE.beq_eq h.1,CE.beq_eq h.2,mE,Rat.mul_zero]
 ·simp only [qD]
theorem Lo(z0:V.z 0=0)(e:CE)(t:Nat):qD V (D7 e (lD V e).length t)=cf (lD V e) t:=by
 unfold D7;split
 ·have h:(zD V (.i 0 (t:Int))).toNat=t:=by
   show (V.z 0+(t:Int)).toNat=t;rw [z0];omega
  simp only [qD,h];rfl
 ·rw [mE,A9 (by omega)]
theorem Ga(sa:∀ y∈a,At y 4000000)(sb:∀ y∈b,At y 4000000)(la:a.length≤5)(lb:b.length≤5):AP (BJ a b x) (FE a.length b.length):=by
 refine ⟨rfl,λk=>?_,?_,?_,?_,λ_ h=>(by cases h),λ_ h=>(by cases h),λ_ h=>(by cases h),λy hy=>?_⟩
 ·show -1152921504606846976≤(match k with | 1=>(a.length:Int) | 2=>(b.length:Int) | 3=>(a.length:Int)+b.length | _=>0)∧(match k with | 1=>(a.length:Int) | 2=>(b.length:Int) | 3=>(a.length:Int)+b.length | _=>0)≤(1152921504606846976:Int)
  split <;> omega
 ·intro y hy
  simp only [FE,VA,List.mem_cons,List.not_mem_nil,or_false] at hy
  rcases hy with rfl | rfl | rfl | rfl | rfl | rfl | rfl | rfl
  ·show (a.length:Int)≤0+(a.length:Int)
   omega
  ·show (0:Int)≤(a.length:Int) + -(a.length:Int)
   omega
  ·show (b.length:Int)≤0+(b.length:Int)
   omega
  ·show (0:Int)≤(b.length:Int) + -(b.length:Int)
   omega
  ·show (a.length:Int)≤(b.length:Int)+((a.length:Int) - b.length)
   omega
  ·show (b.length:Int)≤(a.length:Int)+((b.length:Int) - a.length)
   omega
  ·show (a.length:Int)+b.length≤0+((a.length:Int)+b.length)
   omega
  ·show (0:Int)≤(a.length:Int)+b.length + -((a.length:Int)+b.length)
   omega
 ·intro y hy
  simp only [FE,List.mem_cons,List.not_mem_nil,or_false] at hy
  rcases hy with rfl | rfl <;> exact (Int.add_zero _).symm
 ·intro y hy
  simp only [FE,List.mem_cons,List.not_mem_nil,or_false] at hy
  rcases hy with rfl | rfl
  ·exact sa
  ·exact sb
 ·have hy:y∈[(1,2,3)]:=hy
  rw [List.mem_singleton] at hy;subst hy;rfl
theorem Ah8{M:Nat→Prop}{w:World}{va vb:Value}(hva:(XP.rats a).p M w [va])(hvb:(XP.rats b).p M w [vb]):@Cz (Ae (BJ a b x)) B4 M w [aL (.v 0),aL (.v 1)] [va,vb]:=⟨va,_,rfl,Bb (V:=BJ a b x) (e:=.v 0) hva,vb,_,rfl,Bb (V:=BJ a b x) (e:=.v 1) hvb,rfl⟩
end
def oM(i j:Nat):List CE:=(List.range (max i j)).map λt=>.ap 31 (D7 (.v 0) i t) (D7 (.v 1) j t)
def Vo(i j k:Nat):Nat→CE
 | 0=>zC
 | t+1=>opC 31 (Vo i j k t) (opC 33 (D7 (.v 0) i t) (D7 (.v 1) j (k - t)))
def P6(i j:Nat):List CE:=(List.range (i+j - 1)).map λk=>Vo i j k (k+1)
def nSc(i:Nat)(x:CE):List CE:=(List.range i).map λt=>.ap 33 (D7 (.v 0) i t) x
def nDi(i:Nat):List CE:=(List.range (i - 1)).map λt=>.ap 33 (D7 (.v 0) i (t+1)) (.ap 36 (.lit ((t+1:Nat):Int)) (.lit 1))
def nPw(n:Nat):List CE:=List.replicate n zC ++ [.v 0]
def m1C:CE:=.ap 36 (.lit (-1)) (.lit 1)
def Mh:List AV:=[aL (.v 0),aL (.v 1)]
def Yz(i j:Nat):List Nat:=if i=j then List.range (i+1) else [max i j]
def tC(i j:Nat):List Nat:=[if i=0 ∨ j=0 then 0 else i+j - 1]
noncomputable def JT(i:Nat):Bool:=(List.range 6).all λj=>(Yz i j).all (Qe [] 21 Mh (FE i j) (oM i j))
noncomputable def Kb(i:Nat):Bool:=(List.range 6).all λj=>(tC i j).all (Qe [] 25 Mh (FE i j) (P6 i j))
theorem Aku:JT 0=true:=by kernel_rfl
theorem Aj7:JT 1=true:=by kernel_rfl
theorem Alj:JT 2=true:=by kernel_rfl
theorem AiH:JT 3=true:=by kernel_rfl
theorem Aky:JT 4=true:=by kernel_rfl
theorem Ake:JT 5=true:=by kernel_rfl
theorem Akr:Kb 0=true:=by kernel_rfl
theorem Aiq:Kb 1=true:=by kernel_rfl
theorem AlT:Kb 2=true:=by kernel_rfl
theorem Akw:Kb 3=true:=by kernel_rfl
theorem Ajw:Kb 4=true:=by kernel_rfl
theorem Aik:Kb 5=true:=by kernel_rfl
theorem AbC{i j:Nat}(hi:i≤5)(hj:j≤5):(Yz i j).all (Qe [] 21 Mh (FE i j) (oM i j))=true:=by
 have h:JT i=true:=by
  match i,hi with
  | 0,_=>exact Aku
  | 1,_=>exact Aj7
  | 2,_=>exact Alj
  | 3,_=>exact AiH
  | 4,_=>exact Aky
  | 5,_=>exact Ake
 exact List.all_eq_true.1 h j (List.mem_range.2 (by omega))
theorem Aae{i j:Nat}(hi:i≤5)(hj:j≤5):(tC i j).all (Qe [] 25 Mh (FE i j) (P6 i j))=true:=by
 have h:Kb i=true:=by
  match i,hi with
  | 0,_=>exact Akr
  | 1,_=>exact Aiq
  | 2,_=>exact AlT
  | 3,_=>exact Akw
  | 4,_=>exact Ajw
  | 5,_=>exact Aik
 exact List.all_eq_true.1 h j (List.mem_range.2 (by omega))
theorem Ac0:((List.range 6).all λi=>(List.range (i+1)).all (Qe [] 27 [aL (.v 0),aQ (.v 0) 40000000] (FE i 0) (nSc i (.v 0))))=true:=by kernel_rfl
theorem Afq:((List.range 6).all λi=>(List.range (i+1)).all (Qe [] 75 [aL (.v 0)] (FE i 0) (nSc i m1C)))=true:=by kernel_rfl
theorem AdB:((List.range 6).all λi=>(List.range (i - 1+1)).all (Qe [] 31 [aL (.v 0)] (FE i 0) (nDi i)))=true:=by kernel_rfl
theorem AcH:((List.range 6).all λn=>[0,n+1].all (Qe [] 59 [aQ (.v 0) 10000000,.val (.int .i64 (n:Int))] (FE 0 0) (nPw n)))=true:=by kernel_rfl
section
variable {a b : List Rat} {x : Rat} {M : Nat → Prop} {w : World} {va vb : Value}
theorem UX:(oM a.length b.length).map (qD (BJ a b x))=(List.range (max a.length b.length)).map λi=>a.getD i 0+b.getD i 0:=by
 unfold oM;rw [List.map_map];refine List.map_congr_left λt _=>?_
 have h1:=Lo (V:=BJ a b x) rfl (.v 0) t;have h2:=Lo (V:=BJ a b x) rfl (.v 1) t;show qD (BJ a b x) (.ap 31 (D7 (.v 0) a.length t) (D7 (.v 1) b.length t))=cf a t+cf b t;simp only [qD];rw [show qD (BJ a b x) (D7 (.v 0) a.length t)=cf a t from h1,show qD (BJ a b x) (D7 (.v 1) b.length t)=cf b t from h2]
theorem wC(ta:Ai a)(tb:Ai b)(sa:∀ y∈a,At y 4000000)(sb:∀ y∈b,At y 4000000)(la:a.length≤5)(lb:b.length≤5)(hm0:∀ b,M b→b<w.heap.size)(hva:(XP.rats a).p M w [va])(hvb:(XP.rats b).p M w [vb]):Bv 21 M w [va,vb] (DL a b):=by
 have h:=Rk (V:=BJ a b 0) (Ga sa sb la lb) (L:=[]) (λe he=>by cases he) (AbC la lb) (λk hk hz ht=>by
  have hl:(oM a.length b.length).length=max a.length b.length:=by simp [oM]
  unfold Yz;split
  ·rename_i e
   exact List.mem_range.2 (by omega)
  ·rename_i e
   refine List.mem_singleton.2 (Nat.le_antisymm (by omega) (Nat.le_of_not_lt λhlt=>?_));have h1:=hz (max a.length b.length - 1) (by omega);rw [UX,C6 (by simp; omega),List.getElem_map,List.getElem_range] at h1;have h1:cf a (max a.length b.length - 1)+cf b (max a.length b.length - 1)=0:=h1
   rcases Nat.lt_or_gt_of_ne e with h2 | h2
   ·rw [A9 (l:=a) (by omega),Rat.zero_add,show max a.length b.length - 1=b.length - 1 by omega] at h1
    exact (tb.resolve_left λe=>by rw [e] at h2; exact absurd h2 (Nat.not_lt_zero _)) h1
   ·rw [A9 (l:=b) (by omega),Rat.add_zero,show max a.length b.length - 1=a.length - 1 by omega] at h1
    exact (ta.resolve_left λe=>by rw [e] at h2; exact absurd h2 (Nat.not_lt_zero _)) h1) hm0 (Ah8 hva hvb)
 rw [UX] at h;exact h
theorem WY:∀(k t:Nat)(f g:Nat→Rat),t≤k→(List.range (t+1)).foldl (λc s=>c+f s*g (k - s)) 0=conv f (λi=>g (i+(k - t))) t
 | k,0,f,g,_=>by
  show 0+f 0*g (k - 0)=f 0*g (0+(k - 0));rw [Nat.zero_add,Rat.zero_add]
 | k,t+1,f,g,h=>by
  rw [List.range_succ,List.foldl_append,WY k t f g (by omega),QE];show conv f (λi=>g (i+(k - t))) t+f (t+1)*g (k - (t+1))=_
  rw [Nat.zero_add]
  congr 1
  exact AZ (λ_ _=>rfl) λi _=>by
   show g (i+(k - t))=g (i+1+(k - (t+1)))
   congr 1
   omega
theorem Vp(k:Nat):∀ t,qD (BJ a b x) (Vo a.length b.length k t)=(List.range t).foldl (λc s=>c+cf a s*cf b (k - s)) 0
 | 0=>mE
 | t+1=>by
  have h1:=Lo (V:=BJ a b x) rfl (.v 0) t;have h2:=Lo (V:=BJ a b x) rfl (.v 1) (k - t);unfold Vo;rw [fE,bP,Vp k t,List.range_succ,List.foldl_append,show qD (BJ a b x) (D7 (.v 0) a.length t)=cf a t from h1,show qD (BJ a b x) (D7 (.v 1) b.length (k - t))=cf b (k - t) from h2];rfl
theorem Sj(ta:Ai a)(tb:Ai b):∀ k,cf ((P6 a.length b.length).map (qD (BJ a b x))) k=cf (mulL a b) k:=λk=>by
 have hl:(P6 a.length b.length).length=a.length+b.length - 1:=by simp [P6]
 by_cases hk:k<a.length+b.length - 1
 ·rw [pJ (by omega),BS]
  have e:(P6 a.length b.length).getD k (.lit 0)=Vo a.length b.length k (k+1):=by simp [P6,hk,List.getD_eq_getElem?_getD]
  rw [e,Vp,WY k k _ _ (Nat.le_refl _)];refine AZ (λ_ _=>rfl) λi _=>?_
  show cf b (i+(k - k))=_;rw [Nat.sub_self,Nat.add_zero]
 ·rw [A9 (by rw [List.length_map]; omega),A9]
  by_cases e1:a=[]
  ·rw [e1,CI]; exact Nat.zero_le _
  ·by_cases e2:b=[]
   ·rw [e2,Cs]; exact Nat.zero_le _
   ·rw [Dk e1 e2]; omega
theorem Af9(ta:Ai a)(tb:Ai b)(sa:∀ y∈a,At y 4000000)(sb:∀ y∈b,At y 4000000)(la:a.length≤5)(lb:b.length≤5)(hm0:∀ b,M b→b<w.heap.size)(hva:(XP.rats a).p M w [va])(hvb:(XP.rats b).p M w [vb]):Bv 25 M w [va,vb] (mulL a b):=by
 have hl:(P6 a.length b.length).length=a.length+b.length - 1:=by simp [P6]
 have tm:=BI ta tb;have h:=Rk (V:=BJ a b 0) (Ga sa sb la lb) (L:=[]) (λe he=>by cases he) (Aae la lb) (λk hk hz ht=>List.mem_singleton.2 (by
  split
  ·rename_i h0
   have e:mulL a b=[]:=by
    rcases h0 with h0 | h0
    ·rw [List.length_eq_zero_iff.1 h0,CI]
    ·rw [List.length_eq_zero_iff.1 h0,Cs]
   rcases ht with ht | ht
   ·exact ht
   ·rw [Sj ta tb,e,A9 (Nat.zero_le _)] at ht
    exact absurd rfl ht
  ·rename_i h0
   have e1:a≠[]:=λe=>h0 (.inl (by rw [e]; rfl))
   have e2:b≠[]:=λe=>h0 (.inr (by rw [e]; rfl))
   have lm:=Dk e1 e2;have hn:mulL a b≠[]:=λe=>by
    rw [e] at lm;have:=List.length_pos_iff.2 e1;have:=List.length_pos_iff.2 e2;have lm:0=a.length+b.length - 1:=lm;omega
   have top:=tm.resolve_left hn;rw [lm] at top;refine Nat.le_antisymm (by omega) (Nat.le_of_not_lt λhlt=>top ?_);rw [← Sj (x:=0) ta tb];exact hz _ (by omega))) hm0 (Ah8 hva hvb)
 rw [show Cd ((P6 a.length b.length).map (qD (BJ a b 0)))=mulL a b from (Bj _).1.ext tm λk=>by rw [(Bj _).2,Sj ta tb]] at h;exact h
theorem gR(q:CE)(hq:qD (BJ a [] x) q=x):(nSc a.length q).map (qD (BJ a [] x))=a.map λy=>x*y:=by
 unfold nSc;rw [List.map_map];refine List.ext_getElem (by simp) λt h1 h2=>?_
 have ht:t<a.length:=by simpa using h1
 have h3:=Lo (V:=BJ a [] x) rfl (.v 0) t;rw [List.getElem_map,List.getElem_map,List.getElem_range];show qD (BJ a [] x) (.ap 33 (D7 (.v 0) a.length t) q)=_;simp only [qD];rw [show qD (BJ a [] x) (D7 (.v 0) a.length t)=cf a t from h3,hq,C6 ht,Rat.mul_comm]
theorem eG(i:Nat)(q:CE):(nSc i q).length=i:=by simp [nSc]
theorem Tp{p:Nat→Bool}(h:((List.range 6).all λi=>p i)=true){i:Nat}(hi:i≤5):p i=true:=List.all_eq_true.1 h i (List.mem_range.2 (by omega))
theorem Nz(sa:∀ y∈a,At y 4000000)(la:a.length≤5)(sx:At x 40000000)(hm0:∀ b,M b→b<w.heap.size)(hva:(XP.rats a).p M w [va])(hvb:(As x).p vb w):Bv 27 M w [va,vb] (AJ a x):=by
 have h:=Rk (V:=BJ a [] x) (Ga sa (λy hy=>by cases hy) la (Nat.zero_le _)) (L:=[]) (λe he=>by cases he) (Tp Ac0 la) (λk hk _ _=>List.mem_range.2 (by
  have:=eG a.length (.v 0);omega)) hm0 (vs:=[va,vb]) ⟨va,_,rfl,Bb (V:=BJ a [] x) (e:=.v 0) hva,vb,_,rfl,Cp (V:=BJ a [] x) (q:=.v 0) hvb sx,rfl⟩
 rw [gR (.v 0) rfl] at h;exact h
theorem Arn(sa:∀ y∈a,At y 4000000)(la:a.length≤5)(hm0:∀ b,M b→b<w.heap.size)(hva:(XP.rats a).p M w [va]):Bv 75 M w [va] (AJ a (-1)):=by
 have h:=Rk (V:=BJ a [] (-1)) (Ga sa (λy hy=>by cases hy) la (Nat.zero_le _)) (L:=[]) (λe he=>by cases he) (Tp Afq la) (λk hk _ _=>List.mem_range.2 (by
  have:=eG a.length m1C;omega)) hm0 (vs:=[va]) ⟨va,_,rfl,Bb (V:=BJ a [] (-1)) (e:=.v 0) hva,rfl⟩
 rw [gR m1C (by show mkRat (-1) 1 = -1; decide)] at h;exact h
theorem Aiy(sa:∀ y∈a,At y 4000000)(la:a.length≤5)(hm0:∀ b,M b→b<w.heap.size)(hva:(XP.rats a).p M w [va]):Bv 31 M w [va] (Ia a):=by
 have h:=Rk (V:=BJ a [] 0) (Ga sa (λy hy=>by cases hy) la (Nat.zero_le _)) (L:=[]) (λe he=>by cases he) (Tp AdB la) (λk hk _ _=>List.mem_range.2 (by
  have:(nDi a.length).length=a.length - 1:=by simp [nDi]
  omega)) hm0 (vs:=[va]) ⟨va,_,rfl,Bb (V:=BJ a [] 0) (e:=.v 0) hva,rfl⟩
 have e:(nDi a.length).map (qD (BJ a [] 0))=(List.range (a.length - 1)).map λi=>(((i+1:Nat):Int):Rat)*a.getD (i+1) 0:=by
  unfold nDi;rw [List.map_map];refine List.map_congr_left λt _=>?_
  have h3:=Lo (V:=BJ a [] 0) rfl (.v 0) (t+1);show qD (BJ a [] 0) (.ap 33 (D7 (.v 0) a.length (t+1)) (.ap 36 (.lit ((t+1:Nat):Int)) (.lit 1)))=_*cf a (t+1);simp only [qD];rw [show qD (BJ a [] 0) (D7 (.v 0) a.length (t+1))=cf a (t+1) from h3,show mkRat ((t+1:Nat):Int) (1:Int).toNat=(((t+1:Nat):Int):Rat) from Rat.mkRat_one _,Rat.mul_comm]
 rw [e] at h;exact h
def P8(c:Rat)(n:Nat):List Rat:=Cd (List.replicate n 0 ++ [c])
theorem AfF{n:Nat}(sx:At x 10000000)(hn:n≤5)(hm0:∀ b,M b→b<w.heap.size)(hva:(As x).p va w):Bv 59 M w [va,.int .i64 (n:Int)] (P8 x n):=by
 have hl:(nPw n).length=n+1:=by simp [nPw]
 have e:(nPw n).map (qD (BJ [] [] x))=List.replicate n 0 ++ [x]:=by
  unfold nPw;rw [List.map_append,List.map_replicate,mE];rfl
 have h:=Rk (V:=BJ [] [] x) (Ga (λy hy=>by cases hy) (λy hy=>by cases hy) (Nat.zero_le _) (Nat.zero_le _)) (L:=[]) (λe he=>by cases he) (Tp AcH hn) (λk hk hz ht=>by
  rw [e] at ht
  by_cases k0:k=0
  ·rw [k0]
   exact List.mem_cons_self ..
  ·have ht:=ht.resolve_left k0
   refine List.mem_cons_of_mem _ (List.mem_singleton.2 (Nat.le_antisymm (by omega) (Nat.le_of_not_lt λhlt=>ht ?_)));have h1:k - 1<n:=by omega
   rw [C6 (by simp; omega),List.getElem_append_left (by simpa using h1),List.getElem_replicate]) hm0 (vs:=[va,.int .i64 (n:Int)]) ⟨va,_,rfl,Cp (V:=BJ [] [] x) (q:=.v 0) hva sx,_,_,rfl,rfl,rfl⟩
 rw [e] at h;exact h
end
noncomputable def nK:Func:=Tryz.f61
noncomputable def Apv:=Bw nK
def oG(c:Rat):VL:=⟨λ_=>0,λ_=>[],λm=>match m with | 0=>c | 1=>1 / c | _=>0,λ_=>[]⟩
def rW:List AV:=[aQ (.v 0) 4000000]
def AnB:List (AV × AV):=[(.rat 1,.rat 1),(aQ (.v 0) 4000000,aQ (.v 0) 4000000)]
def ArQ:Fa:=⟨[],[],[],[(.v 0,false)],[],[],[]⟩
noncomputable def Aro:PE:=BE 105 AnB [.rat 1,aQ (.v 0) 4000000] (.tup [aQ (.v 1) 5000000,.val (.int .i64 0)])
noncomputable def Akt:=AQ (BT ArQ [Aro]) Am 100 100 (.run Apv) [] (B5 nK.ntmps rW)
noncomputable def Rm:Func:=Tryz.f23
noncomputable def AfW:=Bw Rm
def PX(a b:List Rat):VL:=⟨λ_=>0,λk=>match k with | 0=>a | 1=>b | 2=>AJ b (-1) | 3=>CO a b | _=>[],λ_=>0,λ_=>[]⟩
def uR:List (AV × AV):=([Ag 0,Ag 1,Ag 2]).map λa=>(a,a)
noncomputable def AhG:List PE:=[BE 75 uR [Ag 1] (Ag 2),BE 21 uR [Ag 0,Ag 2] (Ag 3)]
noncomputable def vD:=AQ (BT Il AhG) Am 100 100 (.run AfW) [] (B5 Rm.ntmps [Ag 0,Ag 1])
noncomputable def Lk:Func:=Tryz.f29
noncomputable def yL:=Bw Lk
def F9(a:List Rat):VL:=⟨λk=>match k with | 1=>(a.length:Int) | _=>0,λk=>match k with | 0=>a | 1=>Dt a | _=>[],λm=>match m with | 1=>1 / a.getD (a.length - 1) 0 | _=>0,λ_=>[]⟩
def Xb:AV:=aQ (.ap 30 (.v 0) (.i 1 (-1))) 4000000
def vQ:List (AV × AV):=([Ag 0,Xb,aQ (.v 1) 5000000]).map λa=>(a,a)
noncomputable def Agf:List PE:=[BE 61 vQ [Xb] (aQ (.v 1) 5000000),BE 27 vQ [Ag 0,aQ (.v 1) 5000000] (Ag 1)]
def Ahx:Fa:=⟨[(0,1,-1)],[(.v 0,1,0)],[(.v 0,4000000)],[],[],[],[]⟩
noncomputable def Acj:=AQ (BT Ahx Agf) Am 100 100 (.run yL) [] (B5 Lk.ntmps [Ag 0])
def Sd:Fa:=⟨[(1,0,0),(0,1,0)],[(.v 0,1,0)],[(.v 0,4000000)],[],[],[],[]⟩
noncomputable def vU:List (AV × AV):=[(Ag 0,Ag 0),(.rat 0,.rat 0)]
noncomputable def Y1:List PE:=[BE 27 vU [Ag 0,.rat 0] (Ag 1)]
noncomputable def Z3:=AQ (BT Sd Y1) Am 100 100 (.run yL) [] (B5 Lk.ntmps [Ag 0])
theorem Asx:Akt=some (.done .ret (Af Akt)):=by kernel_rfl
theorem Ato:Dz nK (Af Akt)=some (aQ (.v 1) 5000000):=by kernel_rfl
theorem AsR:nK.body=some Apv:=by kernel_rfl
theorem AsS:Nat.ble 1 nK.ntmps=true:=by kernel_rfl
theorem ArW:vD=some (.done .ret (Af vD)):=by kernel_rfl
theorem AoI:Dz Rm (Af vD)=some (Ag 3):=by kernel_rfl
theorem AoN:Rm.body=some AfW:=by kernel_rfl
theorem Ar2:Nat.ble 2 Rm.ntmps=true:=by kernel_rfl
theorem Ar3:Acj=some (.done .ret (Af Acj)):=by kernel_rfl
theorem Amb:Dz Lk (Af Acj)=some (Ag 1):=by kernel_rfl
theorem Akf:Z3=some (.done .ret (Af Z3)):=by kernel_rfl
theorem Akb:Dz Lk (Af Z3)=some (Ag 1):=by kernel_rfl
theorem Aha:Lk.body=some yL:=by kernel_rfl
theorem AgS:Nat.ble 1 Lk.ntmps=true:=by kernel_rfl
section
variable {a b : List Rat} {c : Rat} {M : Nat → Prop} {w : World} {va vb : Value}
theorem Gv:At 1 1:=⟨by show (1:Int).natAbs<4294967296 ^ 1; decide,by show ((1:Nat):Int).natAbs<4294967296 ^ 1; decide⟩
theorem AnU(sc:At c 4000000)(nc:c≠0)(hm0:∀ b,M b→b<w.heap.size)(ha:(As c).p va w):Calls Tryz.prog 61 #[va] w λe w'=>∃ u,e = .returned u∧(As (1 / c)).p u w'∧Below w.heap.size w w':=by
 have hv:@Cz (Ae (oG c)) B4 M w rW [va]:=⟨va,_,rfl,Cp (V:=oG c) (q:=.v 0) ha sc,rfl⟩;have hF:AP (oG c) ArQ:=⟨rfl,λm=>by show -1152921504606846976≤(0:Int)∧(0:Int)≤1152921504606846976; omega,λ_ h=>(by cases h),λ_ h=>(by cases h),λ_ h=>(by cases h),λy hy=>by
  have hy:y∈[((.v 0:CE),false)]:=hy;rw [List.mem_singleton] at hy;subst hy;exact decide_eq_false nc,λ_ h=>(by cases h),λ_ h=>(by cases h),λ_ h=>(by cases h)⟩
 refine Calls.mono (CP .ret (.inr rfl) hF (λe he=>?_) Tryz.func61 AsR (by rfl) rfl (show rW.length≤nK.ntmps from Nat.le_of_ble_eq_true AsS) Asx Ato hm0 hv) λe w' ⟨u,e1,e2,e3⟩=>⟨u,e1,(BN (V:=oG c) (q:=.v 1) (ρ:=B4) e2).1,e3⟩
 rw [List.mem_singleton] at he;subst he;refine AO (λ_ _=>by simp [go_sem]) rfl rfl (λp hp ρ ρ' M w cs r=>?_) λM w vs hm0 hv=>?_
 ·simp only [AnB,List.mem_cons,List.not_mem_nil,or_false] at hp
  rcases hp with rfl | rfl <;> (unfold Rp at r ⊢; exact r)
 ·obtain ⟨va,_,rfl,h1,vb,_,rfl,h2,h3⟩:=hv
  have h3:_=[]:=h3;subst h3;have a1:(As 1).p va w:=@Cl (Ae (oG c)) _ _ _ _ _ _ rfl h1;obtain ⟨a2,s2⟩:=BN h2;refine Calls.mono (Ah0 a1 a2 Gv s2 (by decide) (by decide) nc) λe w' ⟨v,e1,e2,e3⟩=>⟨v,e1,?_,e3⟩
  obtain ⟨u,c',rfl,q1,q2⟩:=e2;exact ⟨_,rfl,u,_,rfl,Cp (V:=oG c) (q:=.v 1) q1 ((Gv.div s2).mono (by decide)),c',_,rfl,q2,rfl⟩
theorem Ub{V:VL}{P:List (AV × AV)}{q:CE}{r m:Nat}(hP:∀ p∈P,Le V V p)(hm:m≤4000000)(nc:qD V q≠0)(hr:V.q r=1 / qD V q):@PE.ok (Ae V) (BE 61 P [aQ q m] (aQ (.v r) 5000000)):=by
 refine AO (λ_ _=>by simp [go_sem]) rfl rfl hP λM w vs hm0 hv=>?_
 obtain ⟨va,_,rfl,h1,h3⟩:=hv;have h3:_=[]:=h3;subst h3;obtain ⟨a1,s1⟩:=BN h1;refine Calls.mono (AnU (s1.mono hm) nc hm0 a1) λe w' ⟨v,q1,q2,q3⟩=>⟨v,q1,@Co.rv (Ae V) B4 M w' _ _ (Cp (q:=.v r) ?_ ?_),q3⟩
 ·show (As (V.q r)).p v w'
  rw [hr];exact q2
 ·show At (V.q r) _
  rw [hr];exact (Gv.div s1).mono (by omega)
theorem AgP(ta:Ai a)(tb:Ai b)(sa:∀ y∈a,At y 4000000)(sb:∀ y∈b,At y 3999999)(la:a.length≤5)(lb:b.length≤5)(hm0:∀ b,M b→b<w.heap.size)(hva:(XP.rats a).p M w [va])(hvb:(XP.rats b).p M w [vb]):Bv 23 M w [va,vb] (CO a b):=by
 have hv:@Cz (Ae (PX a b)) B4 M w [Ag 0,Ag 1] [va,vb]:=⟨va,_,rfl,Bb (V:=PX a b) (e:=.v 0) hva,vb,_,rfl,Bb (V:=PX a b) (e:=.v 1) hvb,rfl⟩;have hF:AP (PX a b) Il:=CS rfl λm=>by show -1152921504606846976≤(0:Int)∧(0:Int)≤1152921504606846976; omega
 have hP:∀ p∈uR,Le (PX a b) (PX a b) p:=Gf (by rfl);have l2:(AJ b (-1)).length≤b.length:=by
  have:=By (b.map λx=>-1*x);rwa [List.length_map] at this
 have s2:∀ y∈AJ b (-1),At y 4000000:=C2 λk=>by
  rw [(AY b (-1)).2];have h1:At (cf b k) 3999999:=by
   by_cases hk:k<b.length
   ·rw [C6 hk]
    exact sb _ (List.getElem_mem hk)
   ·rw [A9 (by omega)]
    exact Ih.mono (by decide)
  exact (At.mul (i:=1) (Gv.neg) h1).mono (by decide)
 refine Bv.of (V:=PX a b) (e:=.v 3) (ρ:=B4) rfl (CP .ret (.inr rfl) hF (λe he=>?_) Tryz.func23 AoN (by rfl) rfl (show [Ag 0,Ag 1].length≤Rm.ntmps from Nat.le_of_ble_eq_true Ar2) ArW AoI hm0 hv);simp only [AhG,List.mem_cons,List.not_mem_nil,or_false] at he
 rcases he with rfl | rfl
 ·refine AO (λ_ _=>by simp [go_sem]) rfl rfl hP λM w vs hm0 hv=>?_
  obtain ⟨va,_,rfl,h1,h3⟩:=hv;have h3:_=[]:=h3;subst h3;exact (Arn (λy hy=>(sb y hy).mono (by decide)) lb hm0 (AL h1)).rv rfl
 ·refine AO (λ_ _=>by simp [go_sem]) rfl rfl hP λM w vs hm0 hv=>?_
  obtain ⟨va,_,rfl,h1,vb,_,rfl,h2,h3⟩:=hv;have h3:_=[]:=h3;subst h3;refine (wC ta (AR b (-1)) sa s2 la (Nat.le_trans l2 lb) hm0 (AL h1) (AL h2)).rv ?_;show CO a b=DL a (AJ b (-1));refine (Ck a b).1.ext (BU _ _).1 λk=>?_
  rw [(Ck a b).2,(BU _ _).2,(AY b (-1)).2]
  grind
theorem jM(ta:Ai a)(sa:∀ y∈a,At y 4000000)(la:a.length≤5)(hm0:∀ b,M b→b<w.heap.size)(hva:(XP.rats a).p M w [va]):Bv 29 M w [va] (Dt a):=by
 have hv:@Cz (Ae (F9 a)) B4 M w [Ag 0] [va]:=⟨va,_,rfl,Bb (V:=F9 a) (e:=.v 0) hva,rfl⟩;have sm:∀ k,-1152921504606846976≤(F9 a).z k∧(F9 a).z k≤1152921504606846976:=λk=>by
  show -1152921504606846976≤(match k with | 1=>(a.length:Int) | _=>0)∧(match k with | 1=>(a.length:Int) | _=>0)≤(1152921504606846976:Int);split <;> omega
 by_cases e0:a=[]
 ·subst e0
  have f1:∀ y∈Sd.le,(F9 []).z y.1≤(F9 []).z y.2.1+y.2.2:=λy hy=>by
   simp only [Sd,List.mem_cons,List.not_mem_nil,or_false] at hy
   rcases hy with rfl | rfl
   ·exact Int.le_refl 0
   ·exact Int.le_refl 0
  have hF:AP (F9 []) Sd:=⟨rfl,sm,f1,λy hy=>by
   have hy:y∈[((.v 0:CE),1,(0:Int))]:=hy;rw [List.mem_singleton] at hy;subst hy;rfl,λy hy=>by
   have hy:y∈[((.v 0:CE),4000000)]:=hy;rw [List.mem_singleton] at hy;subst hy;exact λz hz=>(by cases hz),λ_ h=>(by cases h),λ_ h=>(by cases h),λ_ h=>(by cases h),λ_ h=>(by cases h)⟩
  refine Bv.of (V:=F9 []) (e:=.v 1) (ρ:=B4) rfl (CP .ret (.inr rfl) hF (λe he=>?_) Tryz.func29 Aha (by rfl) rfl (show [Ag 0].length≤Lk.ntmps from Nat.le_of_ble_eq_true AgS) Akf Akb hm0 hv);have he:e∈Y1:=he;simp only [Y1,List.mem_cons,List.not_mem_nil,or_false] at he;subst he;refine AO (λ_ _=>by simp [go_sem]) rfl rfl (λp hp ρ ρ' M w cs r=>?_) λM w vs hm0 hv=>?_
  ·simp only [vU,List.mem_cons,List.not_mem_nil,or_false] at hp
   rcases hp with rfl | rfl <;> (unfold Rp at r ⊢; exact r)
  ·obtain ⟨va,_,rfl,h1,vb,_,rfl,h2,h3⟩:=hv
   have h3:_=[]:=h3;subst h3;have a2:(As 0).p vb w:=@Cl (Ae (F9 [])) _ _ _ _ _ _ rfl h2;exact (Nz (a:=[]) (x:=0) (λy hy=>by cases hy) (Nat.zero_le _) (Ih.mono (by decide)) hm0 (AL h1) a2).rv rfl
 ·have hp:=List.length_pos_iff.2 e0
  have n0:a.getD (a.length - 1) 0≠0:=ta.resolve_left e0;have hF:AP (F9 a) Ahx:=⟨rfl,sm,λy hy=>by
   have hy:y∈[(0,1,(-1:Int))]:=hy;rw [List.mem_singleton] at hy;subst hy;show (0:Int)≤(a.length:Int) + -1;omega,λy hy=>by
   have hy:y∈[((.v 0:CE),1,(0:Int))]:=hy;rw [List.mem_singleton] at hy;subst hy;exact (Int.add_zero _).symm,λy hy=>by
   have hy:y∈[((.v 0:CE),4000000)]:=hy;rw [List.mem_singleton] at hy;subst hy;exact sa,λ_ h=>(by cases h),λ_ h=>(by cases h),λ_ h=>(by cases h),λ_ h=>(by cases h)⟩
  have hP:∀ p∈vQ,Le (F9 a) (F9 a) p:=Gf (by rfl);have hl:qD (F9 a) (.ap 30 (.v 0) (.i 1 (-1)))=a.getD (a.length - 1) 0:=by
   have hz:(zD (F9 a) (.i 1 (-1))).toNat=a.length - 1:=by
    show ((a.length:Int) + -1).toNat=_;omega
   simp only [qD,lD,hz];rfl
  refine Bv.of (V:=F9 a) (e:=.v 1) (ρ:=B4) rfl (CP .ret (.inr rfl) hF (λe he=>?_) Tryz.func29 Aha (by rfl) rfl (show [Ag 0].length≤Lk.ntmps from Nat.le_of_ble_eq_true AgS) Ar3 Amb hm0 hv);simp only [Agf,List.mem_cons,List.not_mem_nil,or_false] at he
  rcases he with rfl | rfl
  ·exact Ub hP (by decide) (by rw [hl]; exact n0) (by rw [hl]; rfl)
  ·refine AO (λ_ _=>by simp [go_sem]) rfl rfl hP λM w vs hm0 hv=>?_
   obtain ⟨va,_,rfl,h1,vb,_,rfl,h2,h3⟩:=hv;have h3:_=[]:=h3;subst h3;obtain ⟨a2,s2⟩:=BN h2;refine (Nz sa la (s2.mono (by decide)) hm0 (AL h1) a2).rv ?_;show Dt a=AJ a (1 / a.getD (a.length - 1) 0);unfold Dt;rw [if_neg e0];rfl
end
def dvQ(a b:List Rat):List Rat:=if b.length≤a.length then divQ a b else []
def dvR(a b:List Rat):List Rat:=if b.length≤a.length then divR a b else a
section
variable {a b : List Rat} {D D' : Int} {S S' : Nat}
structure AdZ (a b q r:List Rat):Prop where
 tq:Ai q
 tr:Ai r
 lr:r.length<b.length
 e:∀ k,cf a k=conv (cf q) (cf b) k+cf r k
theorem IS(ta:Ai a)(tb:Ai b)(b0:b≠[]):AdZ a b (dvQ a b) (dvR a b):=by
 have hp:=List.length_pos_iff.2 b0;have n0:b.getD (b.length - 1) 0≠0:=tb.resolve_left b0;unfold dvQ dvR;split
 ·rename_i hl
  refine ⟨(Bj _).1,(Bj _).1,Px hp,λk=>?_⟩;have h:=wH ta hp hl n0;have h2:=(BU (mulL (divQ a b) b) (divR a b)).2 k;rw [h,BS] at h2;exact h2
 ·rename_i hl
  refine ⟨CB,ta,by omega,λk=>?_⟩;rw [show conv (cf []) (cf b) k=0 from Lr _ k,Rat.zero_add]
theorem wW(f f' g:Nat→Rat)(k:Nat):conv (λi=>f i - f' i) g k=conv f g k - conv f' g k:=by
 have h1:=EM f (λi=>-1*f' i) g k;rw [Do] at h1;rw [AZ (f':=λi=>f i + -1*f' i) (λi _=>by grind) (λ_ _=>rfl),h1]
 grind
theorem Rv{q r q' r':List Rat}(tb:Ai b)(b0:b≠[])(h:AdZ a b q r)(h':AdZ a b q' r'):q=q'∧r=r':=by
 have hz:CO q q'=[]:=Classical.byContradiction λhn=>by
  have tm:=BI (Ck q q').1 tb;have ll:=Dk hn b0;have hp:=List.length_pos_iff.2 b0;have hq:=List.length_pos_iff.2 hn;have mn:mulL (CO q q') b≠[]:=λe=>by
   rw [e] at ll;have ll:0=_:=ll;omega
  refine tm.resolve_left mn ?_;rw [ll,BS,AZ (λi _=>(Ck q q').2 i) (λ_ _=>rfl),wW];have e1:=h.e ((CO q q').length+b.length - 1 - 1);have e2:=h'.e ((CO q q').length+b.length - 1 - 1);have l1:=h.lr;have l2:=h'.lr;rw [A9 (l:=r) (by omega)] at e1;rw [A9 (l:=r') (by omega)] at e2
  grind
 have eq:q=q':=h.tq.ext h'.tq λk=>by
  have:=(Ck q q').2 k;rw [hz,A9 (Nat.zero_le _)] at this
  grind
 refine ⟨eq,h.tr.ext h'.tr λk=>?_⟩;have e1:=h.e k;have e2:=h'.e k;rw [← eq] at e2
 grind
theorem Acw(b0:b≠[]):(dvQ a b).length≤a.length:=by
 have hp:=List.length_pos_iff.2 b0;unfold dvQ;split
 ·have:=By (Hy a b)
  rw [Gi] at this;have h2:BM a b=a.length+1 - b.length:=rfl;exact Nat.le_trans this (by omega)
 ·exact Nat.zero_le _
theorem Vq(hl:b.length≤a.length):(dvQ a b).length+b.length≤a.length+1:=by
 unfold dvQ;rw [if_pos hl];have:=By (Hy a b);rw [Gi] at this;have h2:BM a b=a.length+1 - b.length:=rfl;have h3:(divQ a b).length≤BM a b:=this;omega
theorem CD.dvQ(ha:CD D S (cf a))(hb:CD D' S' (cf b))(tb:Ai b)(b0:b≠[])(_:1≤S):∃ E,CD E (S+(BM a b+1)*(S'+1)) (cf (Go.Proofs.YtgaehhapjnbieaaGreat.dvQ a b)):=by
 unfold Go.Proofs.YtgaehhapjnbieaaGreat.dvQ;split
 ·rename_i hl
  exact ha.divQ hb (List.length_pos_iff.2 b0) hl (tb.resolve_left b0)
 ·obtain ⟨E,h⟩:=F_
  exact ⟨E,h.mono (by omega)⟩
theorem CD.dvR(ha:CD D S (cf a))(hb:CD D' S' (cf b))(tb:Ai b)(b0:b≠[]):∃ E,CD E (S+BM a b*(S'+1)) (cf (Go.Proofs.YtgaehhapjnbieaaGreat.dvR a b)):=by
 unfold Go.Proofs.YtgaehhapjnbieaaGreat.dvR;split
 ·rename_i hl
  exact ha.divR hb (List.length_pos_iff.2 b0) hl (tb.resolve_left b0)
 ·exact ⟨D,ha.mono (by omega)⟩
structure RQ where
 q:List Rat
 r:List Rat
def Ik(a:List Rat):Rat:=a.getD (a.length - 1) 0
def RQ.x(b:List Rat)(E:RQ):Rat:=Ik E.r*(1 / Ik b)
def RQ.t(b:List Rat)(E:RQ):List Rat:=P8 (E.x b) (E.r.length - b.length)
def RQ.next(b:List Rat)(E:RQ):RQ:=⟨DL E.q (E.t b),CO E.r (mulL (E.t b) b)⟩
def RQ.it(a b:List Rat):Nat→RQ
 | 0=>⟨[],a⟩
 | n+1=>(RQ.it a b n).next b
theorem jC(c:Rat)(n k:Nat):cf (P8 c n) k=if k=n then c else 0:=by
 unfold P8;rw [(Bj _).2]
 by_cases h1:k<n
 ·rw [C6 (by simp; omega),List.getElem_append_left (by simpa using h1),List.getElem_replicate,if_neg (by omega)]
 ·by_cases h2:k=n
  ·rw [if_pos h2,C6 (by simp; omega),List.getElem_append_right (by simpa using h1)]
   simp
  ·rw [if_neg h2,A9 (by simp; omega)]
theorem Afm(c:Rat)(n:Nat):Ai (P8 c n):=(Bj _).1
theorem N8(c:Rat)(n:Nat):(P8 c n).length≤n+1:=by
 have h:(P8 c n).length≤(List.replicate n (0:Rat) ++ [c]).length:=By _;simpa using h
theorem lJ{l:List Rat}(h:Ai l){n:Nat}(hz:∀ k,n≤k→cf l k=0):l.length≤n:=by
 rcases h with e | h
 ·rw [e]; exact Nat.zero_le _
 ·exact Nat.le_of_not_lt λhlt=>h (hz _ (by omega))
theorem AhN(E:RQ)(k:Nat):cf (mulL (E.t b) b) k=if E.r.length - b.length≤k then E.x b*cf b (k - (E.r.length - b.length)) else 0:=by
 rw [BS,AZ (f:=cf (E.t b)) (f':=λi=>if i=E.r.length - b.length then E.x b else 0) (λi _=>jC (E.x b) (E.r.length - b.length) i) (λ_ _=>rfl),Eo]
theorem AgF(b0:b≠[])(tb:Ai b)(E:RQ):E.x b*Ik b=Ik E.r:=by
 have n0:Ik b≠0:=tb.resolve_left b0;unfold RQ.x
 grind
theorem xJ(b0:b≠[])(tb:Ai b){E:RQ}(hl:b.length≤E.r.length):(E.next b).r.length<E.r.length:=by
 have hp:=List.length_pos_iff.2 b0;have:(E.next b).r.length≤E.r.length - 1:=lJ (Ck _ _).1 λk hk=>by
  show cf (CO E.r (mulL (E.t b) b)) k=0;rw [(Ck _ _).2,AhN,if_pos (by omega)]
  by_cases h:k=E.r.length - 1
  ·rw [h,show E.r.length - 1 - (E.r.length - b.length)=b.length - 1 by omega]
   have:=AgF b0 tb E;show Ik E.r - E.x b*Ik b=0;rw [this]
   grind
  ·rw [A9 (l:=E.r) (by omega),A9 (l:=b) (by omega)]
   grind
 omega
theorem Aov(n:Nat)(ta:Ai a):Ai (RQ.it a b n).q∧Ai (RQ.it a b n).r:=by
 cases n with
 | zero=>exact ⟨CB,ta⟩
 | succ n=>exact ⟨(BU _ _).1,(Ck _ _).1⟩
theorem Af6:∀ n k,cf a k=conv (cf (RQ.it a b n).q) (cf b) k+cf (RQ.it a b n).r k
 | 0,k=>by
  show cf a k=conv (cf []) (cf b) k+cf a k
  rw [Lr,Rat.zero_add]
 | n+1,k=>by
  rw [Af6 n k];show _=conv (cf (DL (RQ.it a b n).q ((RQ.it a b n).t b))) (cf b) k+cf (CO (RQ.it a b n).r (mulL ((RQ.it a b n).t b) b)) k
  rw [(Ck _ _).2,AZ (λi _=>(BU _ _).2 i) (λ_ _=>rfl),EM,BS]
  grind
theorem AlE(b0:b≠[])(tb:Ai b)(la:a.length≤5):∃ N,N≤5∧(RQ.it a b N).r.length<b.length∧∀ n,n<N→b.length≤(RQ.it a b n).r.length:=by
 have hp:=List.length_pos_iff.2 b0;have key:∀ m,(∀ n,n<m→b.length≤(RQ.it a b n).r.length)→(RQ.it a b m).r.length+m≤a.length:=λm=>by
  induction m with
  | zero=>intro _; exact Nat.le_refl _
  | succ m ih =>
   intro h;have h1:=ih λn hn=>h n (by omega)
   have h2:=xJ b0 tb (h m (by omega));have h3:(RQ.it a b (m+1)).r.length=((RQ.it a b m).next b).r.length:=rfl;omega
 have ex:∃ N,(RQ.it a b N).r.length<b.length:=Classical.byContradiction λhn=>by
  have:=key (a.length+1) λn _=>Nat.le_of_not_lt λh=>hn ⟨n,h⟩
  omega
 have:∀ N,(RQ.it a b N).r.length<b.length→∃ N,(RQ.it a b N).r.length<b.length∧∀ n,n<N→b.length≤(RQ.it a b n).r.length:=λN=>by
  induction N using Nat.strongRecOn with
  | ind N ih =>
   intro h
   by_cases hm:∃ n,n<N∧(RQ.it a b n).r.length<b.length
   ·obtain ⟨n,h1,h2⟩:=hm
    exact ih n h1 h2
   ·exact ⟨N,h,λn hn=>Nat.le_of_not_lt λe=>hm ⟨n,hn,e⟩⟩
 obtain ⟨N,h⟩:=ex;obtain ⟨N,h1,h2⟩:=this N h;have:=key N h2;exact ⟨N,by omega,h1,h2⟩
theorem AfE(b0:b≠[])(tb:Ai b)(la:a.length≤5){n:Nat}(h:∀ m,m<n→b.length≤(RQ.it a b m).r.length):(RQ.it a b n).r.length≤5∧(RQ.it a b n).q.length≤5:=by
 have hp:=List.length_pos_iff.2 b0
 induction n with
 | zero=>exact ⟨la,Nat.zero_le _⟩
 | succ n ih =>
  have h1:=ih λm hm=>h m (by omega)
  have h2:=xJ b0 tb (h n (by omega));refine ⟨by have:(RQ.it a b (n+1)).r.length=((RQ.it a b n).next b).r.length:=rfl; omega,?_⟩;have h3:(RQ.it a b (n+1)).q.length≤max (RQ.it a b n).q.length ((RQ.it a b n).t b).length:=Wh _ _;have h4:=N8 ((RQ.it a b n).x b) ((RQ.it a b n).r.length - b.length);have h5:((RQ.it a b n).t b).length≤5:=Nat.le_trans h4 (by omega);omega
end
section
variable {a b : List Rat} {D D' : Int} {S S' : Nat} {f g : Nat → Rat}
theorem CD.add(h:CD D S f)(h':CD D' S' g):CD (D*D') (S+S'+1) (λk=>f k+g k):=by
 refine ⟨Int.mul_ne_zero h.d0 h'.d0,(h.ds.mul h'.ds).mono (by omega),λk=>?_⟩;obtain ⟨z,e,s⟩:=h.num k;obtain ⟨z',e',s'⟩:=h'.num k;refine ⟨z*D'+z'*D,?_,((s.mul h'.ds).add (s'.mul h.ds)).mono (by omega)⟩;rw [Rat.intCast_mul,Rat.intCast_add,Rat.intCast_mul,Rat.intCast_mul,← e,← e']
 grind
theorem CD.addL(h:CD D S (cf a))(h':CD D' S' (cf b)):CD (D*D') (S+S'+1) (cf (DL a b)):=(h.add h').congr λk=>(BU a b).2 k
theorem CD.pow{x:Rat}{X:Nat}(h:At x X)(n:Nat):CD (x.den:Int) X (cf (P8 x n)):=by
 refine ⟨by have:=x.den_nz; omega,h.2,λk=>?_⟩;rw [jC];split
 ·exact ⟨x.num,Je x,h.1⟩
 ·exact ⟨0,by rw [Rat.zero_mul]; rfl,Sm.zero _⟩
theorem Aph(hr:CD D S (cf a))(hb:CD D' S' (cf b))(tb:Ai b)(b0:b≠[]):At (Ik a*(1 / Ik b)) (S+S'):=by
 obtain ⟨L,eL,sL⟩:=hb.num (b.length - 1);have n0:Ik b≠0:=tb.resolve_left b0;have eL:Ik b*(D':Rat)=(L:Rat):=eL;have L0:L≠0:=λe0=>by
  rw [e0] at eL;exact (Rat.mul_eq_zero.1 eL).elim n0 (CW hb.d0)
 obtain ⟨z,ez,sz⟩:=hr.num (a.length - 1);have ez:Ik a*(D:Rat)=(z:Rat):=ez;have e:Ik a*(1 / Ik b)=Rat.divInt (z*D') (D*L):=by
  rw [Rat.divInt_eq_div,Rat.intCast_mul,Rat.intCast_mul,← eL,← ez];have h1:=CW hr.d0;have h2:=CW hb.d0
  grind
 rw [e];exact (At.of2 (sz.mul hb.ds) (hr.ds.mul sL) (Int.mul_ne_zero hr.d0 L0)).mono (by omega)
theorem Atr{E:RQ}(hr:CD D S (cf E.r))(hb:CD D' S' (cf b))(tb:Ai b)(b0:b≠[]):∃ D1,CD D1 (S+S'+1) (cf (E.next b).r):=by
 obtain ⟨L,eL,sL⟩:=hb.num (b.length - 1);have n0:Ik b≠0:=tb.resolve_left b0;have eL:Ik b*(D':Rat)=(L:Rat):=eL;have L0:L≠0:=λe0=>by
  rw [e0] at eL;exact (Rat.mul_eq_zero.1 eL).elim n0 (CW hb.d0)
 obtain ⟨z1,ez1,sz1⟩:=hr.num (E.r.length - 1);have ez1:Ik E.r*(D:Rat)=(z1:Rat):=ez1;have ex:=AgF b0 tb E;refine ⟨D*L,Int.mul_ne_zero hr.d0 L0,(hr.ds.mul sL).mono (by omega),λk=>?_⟩;obtain ⟨z,ez,sz⟩:=hr.num k;show ∃ y:Int,cf (CO E.r (mulL (E.t b) b)) k*_=_∧_;rw [(Ck _ _).2,AhN];split
 ·obtain ⟨y,ey,sy⟩:=hb.num (k - (E.r.length - b.length))
  refine ⟨z*L - z1*y,?_,((sz.mul sL).sub (sz1.mul sy)).mono (by omega)⟩;rw [Rat.intCast_mul,Rat.intCast_sub,Rat.intCast_mul,Rat.intCast_mul,← ez,← ey,← ez1,← ex,← eL]
  grind
 ·refine ⟨z*L,?_,(sz.mul sL).mono (by omega)⟩
  rw [Rat.intCast_mul,Rat.intCast_mul,← ez]
  grind
theorem Ah5(ha:CD D S (cf a))(hb:CD D' S' (cf b))(tb:Ai b)(b0:b≠[])(hS:S≤20000)(hS':S'≤20000):∀ n,n≤5→(∃ E,CD E (S+n*20001) (cf (RQ.it a b n).r))∧(∃ E,CD E (1+n*200000) (cf (RQ.it a b n).q))∧At ((RQ.it a b n).x b) 160000
 | 0,_=>by
  obtain ⟨E,h⟩:=F_;exact ⟨⟨D,ha.mono (by omega)⟩,⟨E,h.mono (by omega)⟩,(Aph ha hb tb b0).mono (by omega)⟩
 | n+1,hn=>by
  obtain ⟨⟨E,h1⟩,⟨E',h2⟩,h3⟩:=Ah5 ha hb tb b0 hS hS' n (by omega);obtain ⟨E2,h4⟩:=Atr h1 hb tb b0;have h5:CD E2 (S+(n+1)*20001) (cf (RQ.it a b (n+1)).r):=h4.mono (by omega);exact ⟨⟨E2,h5⟩,⟨_,(h2.addL (CD.pow h3 ((RQ.it a b n).r.length - b.length))).mono (by omega)⟩,(Aph h5 hb tb b0).mono (by omega)⟩
end
def RQ.V(a b:List Rat)(E:RQ):VL:=⟨λk=>match k with | 1=>(E.r.length:Int) | 2=>(b.length:Int) | 4=>(E.r.length:Int) - b.length | _=>0,
 λk=>match k with | 0=>a | 1=>b | 3=>E.q | 4=>E.r | 5=>E.t b | 6=>mulL (E.t b) b | 7=>(E.next b).r | 8=>(E.next b).q | _=>[],
 λk=>match k with | 1=>1 / Ik b | _=>0,λ_=>[]⟩
def pP:CE:=.ap 30 (.v 1) (.i 2 (-1))
def AoP:AV:=aQ (.ap 33 (.ap 30 (.v 4) (.i 1 (-1))) (.v 1)) 9000000
def oL:List (AV × AV):=([Ag 1,Ag 3,Ag 4,Ag 5,Ag 6,aQ pP 4000000,AoP,aI 4 0]).map λa=>(a,a)
noncomputable def AqR:List PE:=[BE 61 oL [aQ pP 4000000] (aQ (.v 1) 5000000),BE 59 oL [AoP,aI 4 0] (Ag 5),BE 21 oL [Ag 3,Ag 5] (Ag 8),BE 25 oL [Ag 5,Ag 1] (Ag 6),BE 23 oL [Ag 4,Ag 6] (Ag 7)]
def Ve:Fa:=⟨[(0,2,-1),(0,4,0),(2,1,0),(0,1,-1)],[(.v 1,2,0),(.v 4,1,0)],[(.v 1,4000000),(.v 4,4000000)],[],[],[],[(2,4,1)]⟩
def M6:Fa:=⟨[(1,2,-1)],[(.v 1,2,0),(.v 4,1,0)],[],[],[],[],[]⟩
def Kp:Fa:=⟨[(0,2,-1)],[(.v 1,2,0)],[],[],[],[(.lit 1,0),(.lit 2,0)],[]⟩
def Lj:Fa:=⟨[(2,0,0),(0,2,0)],[(.v 1,2,0)],[],[],[],[],[]⟩
noncomputable def Qq:Func:=Tryz.f14
noncomputable def SE:=Bw Qq
noncomputable def AcN:=Xo SE []
noncomputable def Aj4:List JX:=Xp SE []
noncomputable def Y4:Fm:=LS Qq.ntmps [(0,Ag 0),(1,Ag 1),(7,Ag 3),(8,Ag 4)] [] 2000
noncomputable def dQ:=AQ (BT Kp []) Am 300 300 (.run SE) [] (B5 Qq.ntmps [Ag 0,Ag 1])
noncomputable def gA:=AQ (BT Ve AqR) Am 300 300 (.run AcN) [] Y4
noncomputable def Acd:=AQ (BT M6 []) Am 300 300 (.run AcN) [] Y4
noncomputable def AbG:=AQ (BT Il []) Am 300 300 (.at_ (.ext 0)) Aj4 (Af Acd)
noncomputable def uW:=AQ (BT Lj []) Am 300 300 (.run SE) [] (B5 Qq.ntmps [Ag 0,Ag 1])
def cJ:List (AV × AV):=([Ag 0,Ag 1]).map λa=>(a,a)
def Aa1:Rd:=⟨cJ ++ [(aL (.lit 0),Ag 3),(Ag 0,Ag 4)],[],[],[],[],2000⟩
def Ace:Rd:=⟨cJ ++ [(Ag 8,Ag 3),(Ag 7,Ag 4)],[],[],[],[],2000⟩
theorem AoQ:dQ=some (.loop AcN Aj4 (Af dQ)):=by kernel_rfl
theorem ArR:gA=some (.done .nor (Af gA)):=by kernel_rfl
theorem An7:Acd=some (.done (.ext 0) (Af Acd)):=by kernel_rfl
theorem Apj:AbG=some (.done .ret (Af AbG)):=by kernel_rfl
theorem AqQ:uW=some (.done .ret (Af uW)):=by kernel_rfl
theorem AqY:Ew (Af AbG) Qq.results.toList=some [Ag 3,Ag 4,.val (.int .i64 0)]:=by kernel_rfl
theorem ArV:Ew (Af uW) Qq.results.toList=some [.val (.slice none 0 0),.val (.slice none 0 0),.val (.int .i64 3)]:=by kernel_rfl
theorem Ai2:Fs Aa1 16 (Af dQ) Y4=true:=by kernel_rfl
theorem Art:Fs Ace 16 (Af gA) Y4=true:=by kernel_rfl
theorem AnS:below 16 Y4.H=below 16 (Af dQ).H:=by kernel_rfl
theorem Aq6:below 16 Y4.H=below 16 (Af gA).H:=by kernel_rfl
theorem AfV:Qq.body=some SE:=by kernel_rfl
theorem Ahg:Nat.ble 2 Qq.ntmps=true:=by kernel_rfl
def jA(M:Nat→Prop)(w:World)(vs:List Value)(q r:List Rat)(e:Int):Prop:=Calls Tryz.prog 14 vs.toArray w λen w'=>∃ v,en = .returned v∧(∃ u1 u2,v = .tuple #[u1,u2,.int .i64 e]∧(XP.rats q).p M w' [u1]∧(XP.rats r).p M w' [u2])∧Below w.heap.size w w'
theorem nU{V:VL}{ρ:B6}{M M':Nat→Prop}{w:World}{i j:Nat}{n:Int}{v:Value}(hs:∀ b,b<w.heap.size→M b→M' b)(h:@RV (Ae V) ρ M' w (.tup [Ag i,Ag j,.val (.int .i64 n)]) v):∃ u1 u2,v = .tuple #[u1,u2,.int .i64 n]∧(XP.rats (V.l i)).p M w [u1]∧(XP.rats (V.l j)).p M w [u2]:=by
 obtain ⟨vs,rfl,u1,r1,e1,h1,u2,r2,e2,h2,u3,r3,e3,h3,h4⟩:=h;have h3:u3 = .int .i64 n:=h3;have h4:r3=[]:=h4;subst e2;subst e3;subst h4;subst h3;have hvs:vs = #[u1,u2,.int .i64 n]:=Array.toList_inj.1 e1;exact ⟨u1,u2,by rw [hvs],(XP.rats (V.l i)).st M' M w w [u1] (Bz.refl w) (λ_ _ _=>rfl) hs (AL (V:=V) (e:=.v i) (ρ:=ρ) h1),(XP.rats (V.l j)).st M' M w w [u2] (Bz.refl w) (λ_ _ _=>rfl) hs (AL (V:=V) (e:=.v j) (ρ:=ρ) h2)⟩
section
variable {a b : List Rat} {E : RQ} {V : VL} {P : List (AV × AV)} {e e' : CE} {r m : Nat}
theorem oX{F:Fa}(hF:AP V F)(hP:∀ p∈P,Le V V p){q:CE}{k n:Nat}{c:Int}(hn:iD V (k,c)=(n:Int))(h5:n≤5)(hm:m≤10000000)(hr:V.l r=P8 (qD V q) n):@PE.ok (Ae V) (BE 59 P [aQ q m,aI k c] (Ag r)):=by
 refine AO (λ_ _=>by simp [go_sem]) rfl rfl hP λM w vs hm0 hv=>?_
 obtain ⟨va,_,rfl,h1,vb,_,rfl,h2,h3⟩:=hv;have h3:_=[]:=h3;subst h3;obtain ⟨a1,s1⟩:=BN h1;have e2:=BV hF (a:=aI k c) (x:=(k,c)) rfl h2;rw [hn] at e2;subst e2;exact (AfF (s1.mono hm) h5 hm0 a1).rv hr
theorem Wq(hP:∀ p∈P,Le V V p)(ta:Ai (lD V e))(tb:Ai (lD V e'))(sa:∀ y∈lD V e,At y 4000000)(sb:∀ y∈lD V e',At y 4000000)(la:(lD V e).length≤5)(lb:(lD V e').length≤5)(hr:V.l r=DL (lD V e) (lD V e')):@PE.ok (Ae V) (BE 21 P [aL e,aL e'] (Ag r)):=by
 refine AO (λ_ _=>by simp [go_sem]) rfl rfl hP λM w vs hm0 hv=>?_
 obtain ⟨va,_,rfl,h1,vb,_,rfl,h2,h3⟩:=hv;have h3:_=[]:=h3;subst h3;exact (wC ta tb sa sb la lb hm0 (AL h1) (AL h2)).rv hr
theorem KF(hP:∀ p∈P,Le V V p)(ta:Ai (lD V e))(tb:Ai (lD V e'))(sa:∀ y∈lD V e,At y 4000000)(sb:∀ y∈lD V e',At y 4000000)(la:(lD V e).length≤5)(lb:(lD V e').length≤5)(hr:V.l r=mulL (lD V e) (lD V e')):@PE.ok (Ae V) (BE 25 P [aL e,aL e'] (Ag r)):=by
 refine AO (λ_ _=>by simp [go_sem]) rfl rfl hP λM w vs hm0 hv=>?_
 obtain ⟨va,_,rfl,h1,vb,_,rfl,h2,h3⟩:=hv;have h3:_=[]:=h3;subst h3;exact (Af9 ta tb sa sb la lb hm0 (AL h1) (AL h2)).rv hr
theorem Pz(hP:∀ p∈P,Le V V p)(ta:Ai (lD V e))(tb:Ai (lD V e'))(sa:∀ y∈lD V e,At y 4000000)(sb:∀ y∈lD V e',At y 3999999)(la:(lD V e).length≤5)(lb:(lD V e').length≤5)(hr:V.l r=CO (lD V e) (lD V e')):@PE.ok (Ae V) (BE 23 P [aL e,aL e'] (Ag r)):=by
 refine AO (λ_ _=>by simp [go_sem]) rfl rfl hP λM w vs hm0 hv=>?_
 obtain ⟨va,_,rfl,h1,vb,_,rfl,h2,h3⟩:=hv;have h3:_=[]:=h3;subst h3;exact (AgP ta tb sa sb la lb hm0 (AL h1) (AL h2)).rv hr
theorem WN(lr:E.r.length≤5)(lb:b.length≤1000000)(k:Nat) : -1152921504606846976≤(E.V a b).z k∧(E.V a b).z k≤1152921504606846976:=by
 show -1152921504606846976≤(match k with | 1=>(E.r.length:Int) | 2=>(b.length:Int) | 4=>(E.r.length:Int) - b.length | _=>0)∧(match k with | 1=>(E.r.length:Int) | 2=>(b.length:Int) | 4=>(E.r.length:Int) - b.length | _=>0)≤(1152921504606846976:Int);split <;> omega
theorem kH:∀ y∈[((.v 1:CE),2,(0:Int)),(.v 4,1,0)],((lD (E.V a b) y.1).length:Int)=(E.V a b).z y.2.1+y.2.2:=by simp [RQ.V,lD]
theorem Asr(b0:b≠[])(hl:b.length≤E.r.length)(lr:E.r.length≤5)(sb:∀ y∈b,At y 4000000)(sr:∀ y∈E.r,At y 4000000):AP (E.V a b) Ve:=by
 have hp:=List.length_pos_iff.2 b0;refine ⟨rfl,WN lr (by omega),by simp [Ve,RQ.V]; omega,kH,λz hz=>?_,by simp [Ve],by simp [Ve],by simp [Ve],by simp [Ve,RQ.V]; omega⟩;simp only [Ve,List.mem_cons,List.not_mem_nil,or_false] at hz
 rcases hz with rfl | rfl
 ·exact sb
 ·exact sr
theorem Wi(ta:Ai a)(tb:Ai b)(la:a.length≤5)(b0:b≠[])(lb:b.length≤5)(ca:∃ D,CD D 20000 (cf a))(cb:∃ D,CD D 20000 (cf b)){M:Nat→Prop}{w:World}{va vb:Value}(hm0:∀ b,M b→b<w.heap.size)(hva:(XP.rats a).p M w [va])(hvb:(XP.rats b).p M w [vb]):jA M w [va,vb] (dvQ a b) (dvR a b) 0:=by
 obtain ⟨D,ca⟩:=ca;obtain ⟨D',cb⟩:=cb;have hp:=List.length_pos_iff.2 b0;have n0:Ik b≠0:=tb.resolve_left b0;obtain ⟨N,hN,h1,h2⟩:=AlE (a:=a) b0 tb la;have sb:∀ y∈b,At y 20000:=cb.rsmL (by decide);have tr:=λn=>Aov (b:=b) n ta
 have hv:@Cz (Ae ((RQ.it a b 0).V a b)) B4 M w [Ag 0,Ag 1] [va,vb]:=⟨va,_,rfl,Bb (V:=(RQ.it a b 0).V a b) (e:=.v 0) hva,vb,_,rfl,Bb (V:=(RQ.it a b 0).V a b) (e:=.v 1) hvb,rfl⟩;have hF:AP ((RQ.it a b 0).V a b) Kp:=⟨rfl,WN (by exact la) (by omega),by simp [Kp,RQ.V]; omega,by simp [Kp,RQ.V,lD],by simp [Kp],by simp [Kp],by simp [Kp],by simp [Kp,rD],by simp [Kp]⟩;refine @B8 (Ae ((RQ.it a b 0).V a b)) _ Qq SE [Ag 0,Ag 1] [Ag 0,Ag 1] (λv w'=>∃ u1 u2,v = .tuple #[u1,u2,.int .i64 0]∧(XP.rats (dvQ a b)).p M w' [u1]∧(XP.rats (dvR a b)).p M w' [u2]) B4 M w _ Tryz.func14 AfV (by rfl) (Nat.le_of_ble_eq_true Ahg) hm0 hv λa' hS=>?_
 show holds _ [] a' w (.run SE);refine AN hF (λ_ h=>by cases h) _ AoQ hS λρ M' a' w' hS=>?_
 obtain ⟨ρ,M',hS⟩:=A7 (E':=Ae ((RQ.it a b 0).V a b)) Aa1 (CU (λp hp=>by
  simp only [Aa1,cJ,List.map_cons,List.map_nil,List.cons_append,List.nil_append,List.mem_cons,List.not_mem_nil,or_false] at hp
  rcases hp with rfl | rfl | rfl | rfl
  ·exact BR rfl
  ·exact BR rfl
  ·exact BR (by simp only [lD]; rfl)
  ·exact BR rfl) rfl rfl rfl) hm0 Ai2 AnS hS
 refine CH (λn=>N - n) (λn=>(RQ.it a b n).V a b) (λn=>n≤N) Y4 ?_ 0 (Nat.zero_le _) hS;intro n hn ρ M' a' w' hS;show holds _ [] a' w' (.run AcN);obtain ⟨lr,lq⟩:=AfE (a:=a) b0 tb la (n:=n) λm hm=>h2 m (by omega)
 obtain ⟨⟨Dr,cr⟩,⟨Dq,cq⟩,sx⟩:=Ah5 ca cb tb b0 (by decide) (by decide) n (by omega);have sr:∀ y∈(RQ.it a b n).r,At y 4000000:=λy hy=>(cr.rsmL (by omega) y hy).mono (by omega)
 have sq:∀ y∈(RQ.it a b n).q,At y 4000000:=λy hy=>(cq.rsmL (by omega) y hy).mono (by omega)
 by_cases hnl:n<N
 ·have hl:=h2 n hnl
  have ok:=Asr (a:=a) b0 hl lr (λy hy=>(sb y hy).mono (by decide)) sr;have le:∀ p∈oL,Le ((RQ.it a b n).V a b) ((RQ.it a b n).V a b) p:=Gf (by rfl);have ct:=CD.pow sx ((RQ.it a b n).r.length - b.length);have st:∀ y∈(RQ.it a b n).t b,At y 4000000:=λy hy=>(ct.rsmL (by decide) y hy).mono (by decide)
  have lt:((RQ.it a b n).t b).length≤5:=Nat.le_trans (N8 _ _) (by omega);have tt:Ai ((RQ.it a b n).t b):=Afm _ _;have cm:=ct.mulL cb (n:=10) (by
   have:(P8 ((RQ.it a b n).x b) ((RQ.it a b n).r.length - b.length)).length≤5:=lt;omega)
  have smm:∀ y∈mulL ((RQ.it a b n).t b) b,At y 3999999:=λy hy=>(cm.rsmL (by decide) y hy).mono (by decide)
  have lm:(mulL ((RQ.it a b n).t b) b).length≤5:=by
   by_cases e:(RQ.it a b n).t b=[]
   ·rw [e,CI]; exact Nat.zero_le _
   ·rw [Dk e b0]
    have:((RQ.it a b n).t b).length≤(RQ.it a b n).r.length - b.length+1:=N8 _ _;omega
  have hx:qD ((RQ.it a b n).V a b) pP=Ik b:=by
   have hz:(zD ((RQ.it a b n).V a b) (.i 2 (-1))).toNat=b.length - 1:=by
    show ((b.length:Int) + -1).toNat=_;omega
   simp only [pP,qD,lD,hz];rfl
  have hy:qD ((RQ.it a b n).V a b) (.ap 33 (.ap 30 (.v 4) (.i 1 (-1))) (.v 1))=(RQ.it a b n).x b:=by
   have hz:(zD ((RQ.it a b n).V a b) (.i 1 (-1))).toNat=(RQ.it a b n).r.length - 1:=by
    show (((RQ.it a b n).r.length:Int) + -1).toNat=_;omega
   simp only [qD,lD,hz];rfl
  refine AN ok (λe he=>?_) _ ArR hS λρ M' a' w' hS=>?_
  ·simp only [AqR,List.mem_cons,List.not_mem_nil,or_false] at he
   rcases he with rfl | rfl | rfl | rfl | rfl
   ·exact Ub (q:=pP) (r:=1) le (by decide) (by rw [hx]; exact n0) (by rw [hx]; rfl)
   ·refine oX (n:=(RQ.it a b n).r.length - b.length) ok le ?_ (by omega) (by decide) (by rw [hy]; rfl)
    show ((RQ.it a b n).r.length:Int) - b.length+0=_;omega
   ·exact Wq (e:=.v 3) (e':=.v 5) le (tr n).1 tt sq st lq lt rfl
   ·exact KF (e:=.v 5) (e':=.v 1) le tt tb st (λy hy=>(sb y hy).mono (by decide)) lt lb rfl
   ·exact Pz (e:=.v 4) (e':=.v 6) le (tr n).2 (BI tt tb) sr smm lr lm rfl
  obtain ⟨ρ,M',hS⟩:=A7 (E':=Ae ((RQ.it a b (n+1)).V a b)) Ace (CU (λp hp=>by
   simp only [Ace,cJ,List.map_cons,List.map_nil,List.cons_append,List.nil_append,List.mem_cons,List.not_mem_nil,or_false] at hp
   rcases hp with rfl | rfl | rfl | rfl
   ·exact BR rfl
   ·exact BR rfl
   ·exact BR rfl
   ·exact BR rfl) rfl rfl rfl) hm0 Art Aq6 hS
  exact ⟨n+1,ρ,M',by omega,by omega,hS⟩
 ·have hne:n=N:=by omega
  subst hne;have FX:AP ((RQ.it a b n).V a b) M6:=⟨rfl,WN lr (by omega),by simp [M6,RQ.V]; omega,kH,by simp [M6],by simp [M6],by simp [M6],by simp [M6],by simp [M6]⟩;have fin:=Rv tb b0 (IS ta tb b0) ⟨(tr n).1,(tr n).2,h1,Af6 n⟩;refine AN FX (λ_ h=>by cases h) _ An7 hS λρ M' a' w' hS=>?_
  show holds _ Aj4 a' w' (.at_ (.ext 0));refine AN (CS rfl (WN lr (by omega))) (λ_ h=>by cases h) _ Apj hS λρ M' a' w' hS=>?_
  refine ⟨.inr rfl,Ae ((RQ.it a b n).V a b),_,ρ,M',_,.tup [Ag 3,Ag 4,.val (.int .i64 0)],hS,AqY,rfl,λv hv=>?_⟩;obtain ⟨_,_,_,_,_,_,_,_,_,Fsup,_⟩:=hS;rw [fin.1,fin.2];exact nU (V:=(RQ.it a b n).V a b) (M:=M) (λb _ hb=>Fsup b hb) hv
theorem lM{M:Nat→Prop}{w:World}{va vb:Value}(hm0:∀ b,M b→b<w.heap.size)(hva:(XP.rats a).p M w [va])(hvb:(XP.rats []).p M w [vb]):jA M w [va,vb] [] [] 3:=by
 have hv:@Cz (Ae (RQ.V a [] ⟨[],[]⟩)) B4 M w [Ag 0,Ag 1] [va,vb]:=⟨va,_,rfl,Bb (V:=RQ.V a [] ⟨[],[]⟩) (e:=.v 0) hva,vb,_,rfl,Bb (V:=RQ.V a [] ⟨[],[]⟩) (e:=.v 1) hvb,rfl⟩;have hF:AP (RQ.V a [] ⟨[],[]⟩) Lj:=⟨rfl,WN (Nat.zero_le _) (Nat.zero_le _),by simp [Lj,RQ.V],by simp [Lj,RQ.V,lD],by simp [Lj],by simp [Lj],by simp [Lj],by simp [Lj],by simp [Lj]⟩;refine @B8 (Ae (RQ.V a [] ⟨[],[]⟩)) _ Qq SE [Ag 0,Ag 1] [Ag 0,Ag 1] (λv w'=>∃ u1 u2,v = .tuple #[u1,u2,.int .i64 3]∧(XP.rats []).p M w' [u1]∧(XP.rats []).p M w' [u2]) B4 M w _ Tryz.func14 AfV (by rfl) (Nat.le_of_ble_eq_true Ahg) hm0 hv λa' hS=>?_
 show holds _ [] a' w (.run SE);refine AN hF (λ_ h=>by cases h) _ AqQ hS λρ M' a' w' hS=>?_
 refine ⟨.inr rfl,Ae (RQ.V a [] ⟨[],[]⟩),_,ρ,M',_,.tup [.val (.slice none 0 0),.val (.slice none 0 0),.val (.int .i64 3)],hS,ArV,rfl,λv hv=>?_⟩;obtain ⟨vs,rfl,u1,r1,e1,h1,u2,r2,e2,h2,u3,r3,e3,h3,h4⟩:=hv;have h1:u1 = .slice none 0 0:=h1;have h2:u2 = .slice none 0 0:=h2;have h3:u3 = .int .i64 3:=h3;have h4:r3=[]:=h4;subst e2;subst e3;subst h4;subst h3;subst h2;subst h1;have hvs:vs = #[.slice none 0 0,.slice none 0 0,.int .i64 3]:=Array.toList_inj.1 e1;exact ⟨.slice none 0 0,.slice none 0 0,by rw [hvs],⟨none,0,rfl,Nat.le_refl _,λh=>absurd rfl h⟩,⟨none,0,rfl,Nat.le_refl _,λh=>absurd rfl h⟩⟩
end
structure RU where
 a:List Rat
 b:List Rat
 s:List Rat
 t:List Rat
 u:List Rat
 v:List Rat
def RU.Q(U:RU):List Rat:=dvQ U.a U.b
def RU.next(U:RU):RU:=⟨U.b,dvR U.a U.b,U.u,U.v,CO U.s (mulL U.Q U.u),CO U.t (mulL U.Q U.v)⟩
def RU.it(U:RU):Nat→RU
 | 0=>U
 | n+1=>(U.it n).next
def Di(a b:List Rat):RU:=⟨a,b,[1],[],[],[1]⟩
def RU.fin(U:RU):List Rat × List Rat × List Rat:=if U.a=[] then (U.a,U.s,U.t) else (AJ U.a (1 / Ik U.a),AJ U.s (1 / Ik U.a),AJ U.t (1 / Ik U.a))
structure RU.Tr (U:RU):Prop where
 a:Ai U.a
 b:Ai U.b
 s:Ai U.s
 t:Ai U.t
 u:Ai U.u
 v:Ai U.v
structure Rel (E:EU) (U:RU) (c d x y:Rat):Prop where
 nx:x≠0
 ny:y≠0
 a1:∀ k,cf E.a1 k=x*cf U.a k
 a2:∀ k,cf E.a2 k=y*cf U.b k
 b1:∀ k,cf E.b1 k=x*c*cf U.s k
 b2:∀ k,cf E.b2 k=y*c*cf U.u k
 c1:∀ k,cf E.c1 k=x*d*cf U.t k
 c2:∀ k,cf E.c2 k=y*d*cf U.v k
section
variable {E : EU} {U : RU} {a b : List Rat} {c d x y : Rat}
theorem Tf{l m:List Rat}(hl:Ai l)(h:∀ k,cf l k=x*cf m k):l=AJ m x:=hl.ext (AR _ _) λk=>by rw [(AY _ _).2,h]
theorem AoZ(ta:Ai a)(tb:Ai b)(b0:b≠[]):Ai (dvR a b):=(IS ta tb b0).tr
theorem AhU(h:U.Tr)(b0:U.b≠[]):U.next.Tr:=⟨h.b,AoZ h.a h.b b0,h.u,h.v,(Ck _ _).1,(Ck _ _).1⟩
theorem wJ(ok:E.OK)(t1:Ai E.a1)(t2:Ai E.a2)(h:Rel E U c d x y)(ht:U.Tr):U.b≠[]∧Rel E.next U.next c d y (E.f*x / E.v):=by
 have e1:=Tf t1 h.a1;have e2:=Tf t2 h.a2;have l2:E.a2.length=U.b.length:=by rw [e2]; exact C7 ht.b h.ny
 have b0:U.b≠[]:=λe=>by
  have:=ok.l0;rw [l2,e] at this;exact absurd this (by decide)
 have hv:=EU.v_ne ok;have f0:E.f≠0:=Hp ok.x0 _;have a20:E.a2≠[]:=List.length_pos_iff.1 ok.l0;have tA:Ai E.A:=AR _ _;have o1:=IS ht.a ht.b b0;have o2:=IS tA t2 a20;have ny:=h.ny;have o3:AdZ E.A E.a2 (AJ (dvQ U.a U.b) (E.f*x / y)) (AJ (dvR U.a U.b) (E.f*x)):=by
  refine ⟨AR _ _,AR _ _,?_,λk=>?_⟩
  ·have h1:(AJ (dvR U.a U.b) (E.f*x)).length≤(dvR U.a U.b).length:=by
    have:=By ((dvR U.a U.b).map λz=>E.f*x*z);rwa [List.length_map] at this
   have:=o1.lr;omega
  ·rw [show cf E.A k=E.f*cf E.a1 k from (AY _ _).2 k,h.a1,o1.e k,(AY _ _).2,
    AZ (f':=λi=>E.f*x / y*cf (dvQ U.a U.b) i) (g':=λi=>y*cf U.b i) (λi _=>(AY _ _).2 i) (λi _=>h.a2 i),Do,IH]
   grind
 have hu:=Rv t2 a20 o2 o3;have hq:E.q=AJ (dvQ U.a U.b) (E.f*x / y):=by
  rw [← hu.1];unfold dvQ;rw [if_pos ok.dm.ll];rfl
 have hr:E.r=AJ (dvR U.a U.b) (E.f*x):=by
  rw [← hu.2];unfold dvR;rw [if_pos ok.dm.ll];rfl
 have row:∀{p q S u':List Rat}{e:Rat},(∀ k,cf p k=x*e*cf S k)→(∀ k,cf q k=y*e*cf u' k)→∀ k,cf (E.rem p q) k=E.f*x / E.v*e*cf (CO S (mulL U.Q u')) k:=fun {p q S u' e} hp hq' k=>by
  rw [yT,hp,(Ck _ _).2,BS,hq,
   AZ (f':=λi=>E.f*x / y*cf (dvQ U.a U.b) i) (g':=λi=>y*e*cf u' i) (λi _=>(AY _ _).2 i) (λi _=>hq' i),Do,IH]
  show _=E.f*x / E.v*e*(cf S k - conv (cf (dvQ U.a U.b)) (cf u') k)
  grind
 refine ⟨b0,⟨h.ny,?_,h.a2,λk=>?_,h.b2,λk=>row h.b1 h.b2 k,h.c2,λk=>row h.c1 h.c2 k⟩⟩
 ·have h1:=h.nx
  intro e;have h2:E.f*x=0:=by
   have:=Rat.div_mul_cancel (a:=E.f*x) hv;rw [e,Rat.zero_mul] at this;exact this.symm
  exact (Rat.mul_eq_zero.1 h2).elim f0 h1
 ·show cf (overL E.r E.v) k=_*cf (dvR U.a U.b) k
  rw [show cf (overL E.r E.v) k=1 / E.v*cf E.r k from (AY _ _).2 k,hr,(AY _ _).2]
  grind
theorem Ab6:Ai [1]:=.inr (by decide)
theorem So(ta:Ai a)(tb:Ai b):(Di a b).Tr:=⟨ta,tb,Ab6,CB,CB,Ab6⟩
theorem AnG(na:AT a≠0)(nb:AT b≠0):Rel (BY a b) (Di a b) (AT a) (AT b) (1 / AT a) (1 / AT b):=by
 have h0:∀(z:Rat) k,cf [] k=z*cf [] k:=λz k=>by rw [A9 (Nat.zero_le _),Rat.mul_zero]
 refine ⟨Fv na,Fv nb,λk=>(AY _ _).2 k,λk=>(AY _ _).2 k,λk=>?_,λk=>h0 _ k,λk=>h0 _ k,λk=>?_⟩
 ·show cf [1] k=1 / AT a*AT a*cf [1] k
  grind
 ·show cf [1] k=1 / AT b*AT b*cf [1] k
  grind
theorem Yy(ta:Ai a)(tb:Ai b)(na:AT a≠0)(nb:AT b≠0):∀{N},(∀ n,n<N→((BY a b).it n).OK)→((Di a b).it N).Tr∧(∀ n,n<N→((Di a b).it n).b≠[])∧∃ x y,Rel ((BY a b).it N) ((Di a b).it N) (AT a) (AT b) x y
 | 0,_=>⟨So ta tb,λn h=>absurd h (Nat.not_lt_zero n),_,_,AnG na nb⟩
 | N+1,h=>by
  obtain ⟨h1,h2,x,y,h3⟩:=Yy ta tb na nb (N:=N) λn hn=>h n (by omega)
  have tr:=Mg (E:=BY a b) (AR _ _) (AR _ _) N;obtain ⟨h4,h5⟩:=wJ (h N (by omega)) tr.1 tr.2 h3 h1;refine ⟨AhU h1 h4,λn hn=>?_,_,_,h5⟩
  by_cases e:n=N
  ·rw [e]
   exact h4
  ·exact h2 n (by omega)
theorem AdM(ta:Ai a)(tb:Ai b)(na:AT a≠0)(nb:AT b≠0){N:Nat}(h:∀ n,n<N→((BY a b).it n).OK)(HN:((BY a b).it N).a2=[]):((Di a b).it N).b=[]∧((BY a b).it N).fin (AT a) (AT b)=((Di a b).it N).fin:=by
 obtain ⟨tr,h2,x,y,r⟩:=Yy ta tb na nb h;have t:=Mg (E:=BY a b) (AR _ _) (AR _ _) N;have nx:=r.nx;have eb:((Di a b).it N).b=[]:=by
  have e2:=Tf t.2 r.a2;have:((BY a b).it N).a2.length=((Di a b).it N).b.length:=by rw [e2]; exact C7 tr.b r.ny
  rw [HN] at this;exact List.length_eq_zero_iff.1 this.symm
 refine ⟨eb,?_⟩;have e1:=Tf t.1 r.a1;have l1:((BY a b).it N).a1.length=((Di a b).it N).a.length:=by rw [e1]; exact C7 tr.a nx
 have o:Ai [1]:=.inr (by decide);have tb1:=tF (E:=BY a b) o CB CB o N;unfold EU.fin RU.fin
 by_cases e0:((Di a b).it N).a=[]
 ·have e0':((BY a b).it N).a1=[]:=List.length_eq_zero_iff.1 (by rw [l1,e0]; rfl)
  rw [if_pos e0,if_pos e0',e0,e0']
  cases N with
  | zero=>rfl
  | succ N =>
   have e0:((Di a b).it N).b=[]:=e0;exact absurd e0 (h2 N (by omega))
 ·have e0':((BY a b).it N).a1≠[]:=λe=>e0 (List.length_eq_zero_iff.1 (by rw [← l1,e]; rfl))
  rw [if_neg e0,if_neg e0'];have hl:((BY a b).it N).lead=x*Ik ((Di a b).it N).a:=by
   have:=r.a1 (((BY a b).it N).a1.length - 1);rw [l1] at this;show cf ((BY a b).it N).a1 (((BY a b).it N).a1.length - 1)=_;rw [l1];exact this
  have n0:Ik ((Di a b).it N).a≠0:=tr.a.resolve_left e0;rw [hl];generalize Ik ((Di a b).it N).a=l at n0 ⊢;refine Prod.ext ?_ (Prod.ext ?_ ?_)
  ·refine (AR _ _).ext (AR _ _) λk=>?_
   rw [(AY _ _).2,(AY _ _).2,r.a1]
   grind
  ·refine (AR _ _).ext (AR _ _) λk=>?_
   rw [(AY _ _).2,(AY _ _).2,r.b1]
   grind
  ·refine (AR _ _).ext (AR _ _) λk=>?_
   rw [(AY _ _).2,(AY _ _).2,r.c1]
   grind
def RU.swap(U:RU):RU:=⟨U.a,U.b,U.t,U.s,U.v,U.u⟩
theorem Uy(U:RU):∀ n,U.swap.it n=(U.it n).swap
 | 0=>rfl
 | n+1=>by
  show (U.swap.it n).next=_;rw [Uy U n];rfl
theorem Gb(U:RU):∀ n,U.it (n+1)=U.next.it n
 | 0=>rfl
 | n+1=>by
  show (U.it (n+1)).next=_;rw [Gb U n];rfl
theorem rM(hl:a.length<b.length):(Di a b).next=(Di b a).swap:=by
 have e1:dvQ a b=[]:=if_neg (by omega);have e2:dvR a b=a:=if_neg (by omega);unfold RU.next RU.Q Di RU.swap;simp only [e1,e2,CI];have h1:CO [1] []=[1]:=(Ck _ _).1.ext (.inr (by decide)) λk=>by
  rw [(Ck _ _).2,A9 (l:=[]) (Nat.zero_le _)]
  grind
 have h2:CO [] []=[]:=by decide
 rw [h1,h2]
end
end Go.Proofs.YtgaehhapjnbieaaGreat
