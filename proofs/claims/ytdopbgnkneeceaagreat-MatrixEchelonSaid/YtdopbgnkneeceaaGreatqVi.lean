/- An abstract machine: regions, in whatever order their operations come up. -/
import Derived.Test.YtdopbgnkneeceaaGreatqVd
import Derived.OrdersIn
set_option linter.unusedSectionVars false
set_option linter.unusedVariables false
set_option linter.unusedSimpArgs false
set_option maxRecDepth 100000
namespace Go.Proofs.YtdopbgnkneeceaaGreat
open Go.RowKit
section
variable [Cd]
structure Fm where
 tm:List AV
 H:HP
 nx:Nat
 wr:List Nat
abbrev RC:=List Nat × HP
def Kh(m j:Nat):Bool:=Nat.testBit m j
def orL(prev:List Nat):List Nat→Nat
 | []=>0
 | j :: r=>2 ^ j ||| prev.getD j 0 ||| orL prev r
theorem YF{prev:List Nat}{j:Nat}:∀{l:List Nat},Kh (orL prev l) j=true→∃ k∈l,k=j ∨ Kh (prev.getD k 0) j=true
 | [],h=>by simp [orL,Kh] at h
 | k :: r,h=>by
  unfold orL Kh at h;rw [Nat.testBit_or,Nat.testBit_or,Bool.or_eq_true,Bool.or_eq_true] at h
  rcases h with (h | h) | h
  ·rw [Nat.testBit_two_pow] at h
   exact ⟨k,by simp,.inl (of_decide_eq_true h)⟩
  ·exact ⟨k,by simp,.inr h⟩
  ·obtain ⟨k',h1,h2⟩:=YF h
   exact ⟨k',by simp [h1],h2⟩
def Aif(o:Oper):List Nat:=(o.after.toList.filter (Region.binds .any)).map (·.on)
def AaB(draw:Bool):List Oper→Nat→List Nat→List Nat
 | [],_,prev=>prev
 | o :: r,i,prev=>AaB draw r (i+1) (prev ++ [if draw then orL prev (Aif o) else 2 ^ i - 1])
def Aib(draw:Bool)(ops:Array Oper)(cl:List Nat):Bool:=(List.range ops.size).all λi=>Nat.beq (cl.getD i 0) (if draw then orL cl (B_ ops i) else 2 ^ i - 1)
def NY(t:Nat):List Oper→Nat→Option Nat
 | [],_=>none
 | o :: r,i=>match o.dst with
  | some d=>if Nat.beq d t then some i else NY t r (i+1)
  | none=>NY t r (i+1)
theorem JX{t:Nat}:∀{l:List Oper}{i j:Nat},NY t l i=some j→i≤j∧∃ o,l[j - i]? = some o∧o.dst=some t
 | [],_,_,h=>by cases h
 | o :: r,i,j,h=>by
  unfold NY at h;have rec_:NY t r (i+1)=some j→i≤j∧∃ o',(o :: r)[j - i]? = some o'∧o'.dst=some t:=λh=>by
   obtain ⟨h1,o',h2,h3⟩:=JX h;refine ⟨by omega,o',?_,h3⟩;rw [show j - i=(j - (i+1))+1 by omega];exact h2
  split at h
  ·rename_i d hd
   split at h
   ·rename_i e
    have e:=Nat.eq_of_beq_eq_true e
    cases h
    exact ⟨Nat.le_refl _,o,by simp,by rw [hd,e]⟩
   ·exact rec_ h
  ·exact rec_ h
theorem Hu{t:Nat}:∀{l:List Oper}{i:Nat},NY t l i=none→∀ o∈l,o.dst≠some t
 | [],_,_,_,h=>by cases h
 | o :: r,i,h,o',ho=>by
  unfold NY at h;split at h
  ·rename_i d hd
   split at h
   ·cases h
   ·rename_i e
    rcases List.mem_cons.1 ho with rfl | ho
    ·rw [hd]
     intro e2;exact e (by rw [Option.some.inj e2]; exact Nat.beq_refl t)
    ·exact Hu h o' ho
  ·rename_i hd
   rcases List.mem_cons.1 ho with rfl | ho
   ·rw [hd]; simp
   ·exact Hu h o' ho
def evA(tm:List AV)(opsL:List Oper)(cl:List Nat)(i:Nat)(res:List AV):Operand→Option AV
 | .const v=>some (.val v)
 | .func f=>some (.fn f [] [])
 | .global _=>none
 | .tmp t=>match NY t opsL 0 with
  | some j=>if Nat.blt j i then (if Kh (cl.getD i 0) j then res[j]? else none) else if Nat.beq j i || Kh (cl.getD j 0) i then tm[t]? else none
  | none=>tm[t]?
def IC(opsL:List Oper)(cl:List Nat)(i:Nat)(res:List AV)(o:Oper):Option Bool:=match o.guard with
 | none=>some true
 | some (j,b)=>if Nat.blt j i && Kh (cl.getD i 0) j && ((opsL[j]?).bind (·.dst)).isSome then (match res[j]? with
  | some (.val (.bool c))=>some (c == b)
  | some (.val (.tuple vs))=>if vs.size == 0 then some false else none
  | _=>none) else none
def MI(a b:List Nat):Bool:=a.all λx=>!memN x b
theorem J6{a b:List Nat}(h:MI a b=true){x:Nat}(ha:x∈a)(hb:x∈b):False:=by
 have:=List.all_eq_true.1 h x ha;rw [CB.2 hb] at this
 cases this
def G6(c:Nat)(R D:List Nat):List RC→Nat→Bool
 | [],_=>true
 | p :: r,j=>(Kh c j || (MI D p.1 && MI D (p.2.map (·.1)) && MI R (p.2.map (·.1)))) && G6 c R D r (j+1)
theorem Ga{c:Nat}{R D:List Nat}:∀{l:List RC}{j0 j:Nat}{p:RC},G6 c R D l j0=true→l[j]? = some p→Kh c (j0+j)=true ∨ ((∀ x∈D,x ∉ p.1)∧(∀ x∈D,x ∉ p.2.map (·.1))∧∀ x∈R,x ∉ p.2.map (·.1))
 | [],_,_,_,_,h=>by simp at h
 | q :: r,j0,j,p,h,hj=>by
  unfold G6 at h;rw [Bool.and_eq_true] at h
  cases j with
  | zero =>
   simp only [List.getElem?_cons_zero,Option.some.injEq] at hj;subst hj;have h1:=h.1;rw [Bool.or_eq_true,Bool.and_eq_true,Bool.and_eq_true] at h1
   rcases h1 with h1 | h1
   ·exact .inl h1
   ·exact .inr ⟨λx hx hy=>J6 h1.1.1 hx hy,λx hx hy=>J6 h1.1.2 hx hy,λx hx hy=>J6 h1.2 hx hy⟩
  | succ j =>
   have:=Ga (j:=j) h.2 (by simpa using hj);rw [show j0+1+j=j0+(j+1) by omega] at this;exact this
noncomputable def Xf(T:Tb)(cf:BD)(tm:List AV)(opsL:List Oper)(cl:List Nat)(base n0:Nat):List Oper→Nat→List AV→HP→List RC→Option (List AV × HP × List RC)
 | [],_,res,H,rc=>some (res,H,rc)
 | o :: r,i,res,H,rc=>match IC opsL cl i res o with
  | none=>none
  | some false=>Xf T cf tm opsL cl base n0 r (i+1) (res ++ [.val undef]) H (rc ++ [([],[])])
  | some true=>match opA T cf H n0 (base+16*i) (evA tm opsL cl i res) o.op with
   | none=>none
   | some p=>if G6 (cl.getD i 0) p.2.1 (p.2.2.map (·.1)) rc 0 then Xf T cf tm opsL cl base n0 r (i+1) (res ++ [p.1]) (p.2.2 ++ H) (rc ++ [(p.2.1,p.2.2)]) else none
def YM(H0:HP)(rc:List RC):HP:=rc.foldl (λH p=>p.2 ++ H) H0
theorem MO(H0:HP)(rc:List RC)(p:RC):YM H0 (rc ++ [p])=p.2 ++ YM H0 rc:=by simp [YM]
section
variable {T : Tb} {cf : BD} {tm : List AV} {opsL : List Oper} {cl : List Nat} {base n0 : Nat} {H0 : HP}
def Qz(T:Tb)(cf:BD)(tm:List AV)(opsL:List Oper)(cl:List Nat)(base n0:Nat)(H0:HP)(res:List AV)(rc:List RC)(i:Nat)(o:Oper):Prop:=
  ∃ r R U,res[i]? = some r∧rc[i]? = some (R,U)∧G6 (cl.getD i 0) R (U.map (·.1)) (rc.take i) 0=true ∧
    ((IC opsL cl i (res.take i) o=some true∧opA T cf (YM H0 (rc.take i)) n0 (base+16*i) (evA tm opsL cl i (res.take i)) o.op=some (r,R,U)) ∨
     (IC opsL cl i (res.take i) o=some false∧r = .val undef∧R=[]∧U=[]))
theorem MF{c:Nat}:∀(l:List RC)(j:Nat),G6 c [] [] l j=true
 | [],_=>rfl
 | _ :: r,j=>by unfold G6; simp [MI,MF r (j+1)]
theorem Oz:∀{l:List Oper}{i:Nat}{res:List AV}{H:HP}{rc:List RC}{res':List AV}{H':HP}{rc':List RC},Xf T cf tm opsL cl base n0 l i res H rc=some (res',H',rc')→res.length=i→rc.length=i→H=YM H0 rc →
  res'.length=i+l.length∧rc'.length=i+l.length∧H'=YM H0 rc'∧(∃ t,res'=res ++ t)∧(∃ t,rc'=rc ++ t)∧∀ j o,l[j]? = some o→Qz T cf tm opsL cl base n0 H0 res' rc' (i+j) o
 | [],i,res,H,rc,res',H',rc',h,h1,h2,h3=>by
  simp only [Xf,Option.some.injEq,Prod.mk.injEq] at h;obtain ⟨rfl,rfl,rfl⟩:=h;exact ⟨by simp [h1],by simp [h2],h3,⟨[],by simp⟩,⟨[],by simp⟩,λj o e=>by simp at e⟩
 | o :: r,i,res,H,rc,res',H',rc',h,h1,h2,h3=>by
  unfold Xf at h;have key:∀(v:AV)(p:RC),Xf T cf tm opsL cl base n0 r (i+1) (res ++ [v]) (p.2 ++ H) (rc ++ [p])=some (res',H',rc')→G6 (cl.getD i 0) p.1 (p.2.map (·.1)) rc 0=true→((IC opsL cl i res o=some true∧opA T cf H n0 (base+16*i) (evA tm opsL cl i res) o.op=some (v,p.1,p.2)) ∨ (IC opsL cl i res o=some false∧v = .val undef∧p.1=[]∧p.2=[])) →
    res'.length=i+(r.length+1)∧rc'.length=i+(r.length+1)∧H'=YM H0 rc'∧(∃ t,res'=res ++ t)∧(∃ t,rc'=rc ++ t)∧∀ j o',(o :: r)[j]? = some o'→Qz T cf tm opsL cl base n0 H0 res' rc' (i+j) o':=λv p hh hc hg=>by
   obtain ⟨k1,k2,k3,⟨t1,k4⟩,⟨t2,k5⟩,k6⟩:=Oz hh (by simp [h1]) (by simp [h2]) (by rw [MO,h3]);refine ⟨by omega,by omega,k3,⟨[v] ++ t1,by rw [k4,List.append_assoc]⟩,⟨[p] ++ t2,by rw [k5,List.append_assoc]⟩,λj o' e=>?_⟩
   cases j with
   | zero =>
    simp only [List.getElem?_cons_zero,Option.some.injEq] at e;subst e;have ht1:res'.take i=res:=by rw [k4,List.append_assoc,← h1,List.take_left]
    have ht2:rc'.take i=rc:=by rw [k5,List.append_assoc,← h2,List.take_left]
    refine ⟨v,p.1,p.2,?_,?_,by rw [Nat.add_zero,ht2]; exact hc,?_⟩
    ·rw [k4,List.append_assoc,Nat.add_zero,← h1,List.getElem?_append_right (Nat.le_refl _)]
     simp
    ·rw [k5,List.append_assoc,Nat.add_zero,← h2,List.getElem?_append_right (Nat.le_refl _)]
     simp
    ·rw [Nat.add_zero,ht1,ht2,← h3]
     exact hg
   | succ j =>
    have:=k6 j o' (by simpa using e);rw [show i+1+j=i+(j+1) by omega] at this;exact this
  split at h
  ·cases h
  ·rename_i hg
   exact key (.val undef) ([],[]) h (MF rc 0) (.inr ⟨hg,rfl,rfl,rfl⟩)
  ·rename_i hg
   split at h
   ·cases h
   ·rename_i p hp
    split at h
    ·rename_i hc
     exact key _ _ h hc (.inl ⟨hg,hp⟩)
    ·cases h
end
structure IM (A:Nat→Prop) (ops:Array Oper) (tm:List AV) (cl:List Nat) (base:Nat) (H0:HP) (res:List AV) (rc:List RC) (a0:Act) (w1:World) (ρ1:Bg) (M1:Nat→Prop)
  (m:Array Bool) (a:Act) (w:World) (ρ:Bg) (M:Nat→Prop) (H:Nat→Option OB):Prop where
 size:a.tmps.size=tm.length
 defers:a.defers=a0.defers
 low:∀ t,(∀ i,AF ops i=some t→m.getD i false=false)→a.tmps[t]? = a0.tmps[t]?
 len:m.size=ops.size
 closed:∀ i j,m.getD i false=true→Kh (cl.getD i 0) j=true→m.getD j false=true
 facts:∀ i d r,m.getD i false=true→AF ops i=some d→res[i]? = some r→∃ v,a.tmps[d]? = some v∧RV ρ M w r v
 heap:RH ρ M A w H
 hc:∀ o k,(∀ j R U,rc[j]? = some (R,U)→(∃ x∈U,x.1=o)→(m.getD j false=true ↔ j<k))→H o=lk (YM H0 (rc.take k)) o
 dom:∀ o p,ρ o=some p→ρ1 o=some p ∨ ∃ j,j<ops.size∧m.getD j false=true∧base+16*j≤o∧o<base+16*j+16
 bnd:∀ b,M b→b<w.heap.size
 tr:Tr ρ1 M1 w1 ρ M w
 sup:∀ b,M1 b→M b
 mon:∀ b,M b→M1 b ∨ w1.heap.size≤b
 fr:NN A w1 w
 kp:∀ o b g c,lk H0 o=some b→(∀ j R U,m.getD j false=true→rc[j]? = some (R,U)→∀ x∈U,x.1≠o)→ρ1 o=some (g,c)→w.heap[g]? = w1.heap[g]?
section
variable {T : Tb} {cf : BD} {A : Nat → Prop} {ops : Array Oper} {tm : List AV} {cl : List Nat} {base n0 : Nat} {H0 : HP} {res : List AV} {rc : List RC} {a0 : Act} {w1 : World} {ρ1 : Bg} {M1 : Nat → Prop} {m : Array Bool} {a : Act} {w : World} {ρ : Bg} {M : Nat → Prop} {H : Nat → Option OB} {Q : Exit → Act → World → Prop}
theorem Jz{o i:Nat}:∀{k:Nat},i≤k→(∀ j R U,i≤j→j<k→rc[j]? = some (R,U)→∀ x∈U,x.1≠o)→lk (YM H0 (rc.take k)) o=lk (YM H0 (rc.take i)) o
 | 0,hk,_=>by rw [show i=0 by omega]
 | k+1,hk,h=>by
  by_cases e:i=k+1
  ·rw [e]
  ·have ih:=Jz (k:=k) (by omega) λj R U h1 h2=>h j R U h1 (by omega)
   rw [← ih]
   cases hr:rc[k]? with
   | none =>
    rw [List.take_of_length_le (by have:=List.getElem?_eq_none_iff.1 hr; omega),List.take_of_length_le (List.getElem?_eq_none_iff.1 hr)]
   | some p =>
    rw [List.take_add_one,hr,Option.toList_some,MO,CZ,Jt λx hx=>h k p.1 p.2 (by omega) (by omega) hr x hx]
theorem OP(hd1:GH ops=true)(hdl:∀ i d,AF ops i=some d→d<tm.length)(hI:IM A ops tm cl base H0 res rc a0 w1 ρ1 M1 m a w ρ M H){i:Nat}(hi:i<ops.size)(hm:m.getD i false=false){o:Oper}(ho:ops[i]? = some o){r:AV}{v:Value}{ρ':Bg}{M':Nat→Prop}{w':World}(hr:res[i]? = some r)(ht:Tr ρ M w ρ' M' w')(hv:RV ρ' M' w' r v) :
  (a.put o.dst v).tmps.size=tm.length∧(a.put o.dst v).defers=a0.defers∧(∀ t,(∀ j,AF ops j=some t→(m.setIfInBounds i true).getD j false=false)→(a.put o.dst v).tmps[t]? = a0.tmps[t]?) ∧
  (∀ j d r,(m.setIfInBounds i true).getD j false=true→AF ops j=some d→res[j]? = some r→∃ v',(a.put o.dst v).tmps[d]? = some v'∧RV ρ' M' w' r v'):=by
 have hdi:AF ops i=o.dst:=by unfold AF; rw [ho]; rfl
 have hset:(m.setIfInBounds i true).getD i false=true:=JO (by rw [hI.len]; exact hi)
 cases hd:o.dst with
 | none =>
  rw [hd] at hdi;refine ⟨hI.size,hI.defers,λt h=>hI.low t λj hj=>Oy (h j hj),λj d r' h1 h2 h3=>?_⟩
  rcases Bk h1 with rfl | h1
  ·rw [hdi] at h2; cases h2
  ·obtain ⟨v',e,k⟩:=hI.facts j d r' h1 h2 h3
   exact ⟨v',e,k.st ht⟩
 | some d0 =>
  rw [hd] at hdi;have hlt:d0<a.tmps.size:=by rw [hI.size]; exact hdl i d0 hdi
  refine ⟨by simp [Act.put,hI.size],hI.defers,λt h=>?_,λj d r' h1 h2 h3=>?_⟩
  ·have hne:d0≠t:=λe=>by
    have:=h i (by rw [hdi,e]);rw [hset] at this
    cases this
   rw [Dk v hne];exact hI.low t λj hj=>Oy (h j hj)
  ·rcases Bk h1 with rfl | h1
   ·rw [hdi] at h2
    obtain rfl:=Option.some.inj h2;rw [hr] at h3;obtain rfl:=Option.some.inj h3;exact ⟨v,EA v hlt,hv⟩
   ·obtain ⟨v',e,k⟩:=hI.facts j d r' h1 h2 h3
    refine ⟨v',?_,k.st ht⟩;rw [Dk v ?_]
    ·exact e
    ·rintro rfl
     have:=FT hd1 hdi h2;subst this;rw [hm] at h1
     cases h1
theorem Aaz{C:T5}{μ:Option Nat}(hT:EO T)(hcf:Gj C cf)(hCt:Nr C)(hC:C ρ1 M1 w1)(hn0:n0=base+16*ops.size)(hd1:GH ops=true)(hdl:∀ i d,AF ops i=some d→d<tm.length)(h1d:∀ o p,ρ1 o=some p→o<base)(hA:∀ b,w1.heap.size≤b→A b)
  (hsl:∀(t:Nat)(x:AV),tm[t]? = some x→∃ v,a0.tmps[t]? = some v∧RV ρ1 M1 w1 x v)
  (hall:∀ i o,ops[i]? = some o→Qz T cf tm ops.toList cl base n0 H0 res rc i o)
  (hI:IM A ops tm cl base H0 res rc a0 w1 ρ1 M1 m a w ρ M H) {i:Nat} (hi:i<ops.size) (hm:m.getD i false=false) (hcl:∀ j,Kh (cl.getD i 0) j=true→m.getD j false=true) :
  wpOpIn (Eo μ) 9 Tryz.prog ops Q i (λa' w'=>∃ ρ' M' H',IM A ops tm cl base H0 res rc a0 w1 ρ1 M1 (m.setIfInBounds i true) a' w' ρ' M' H') a w:=by
 obtain ⟨o,ho⟩:∃ o,ops[i]? = some o:=⟨_,Array.getElem?_eq_getElem hi⟩;obtain ⟨r,R,U,hr,hrc,hconf,hcase⟩:=hall i o ho;have hlen':(m.setIfInBounds i true).size=ops.size:=by rw [Array.size_setIfInBounds]; exact hI.len
 have hset:(m.setIfInBounds i true).getD i false=true:=JO (by rw [hI.len]; exact hi);have hclosed':∀ x j,(m.setIfInBounds i true).getD x false=true→Kh (cl.getD x 0) j=true→(m.setIfInBounds i true).getD j false=true:=λx j h1 h2=>by
  rcases Bk h1 with rfl | h1
  ·exact getD_set_true (hcl j h2)
  ·exact getD_set_true (hI.closed x j h1 h2)
 have hres:∀ j x,(res.take i)[j]? = some x→res[j]? = some x:=λj x e=>by
  rw [List.getElem?_take] at e;split at e
  ·exact e
  ·cases e
 have hguard:∀ b,IC ops.toList cl i (res.take i) o=some b→Region.wanted o (yielded ops a.tmps)=b:=λb hg=>by
  have:DO ops a o.guard b:=by
   unfold IC at hg;split at hg
   ·rename_i e
    cases hg
    rw [e];exact MG
   ·rename_i j q e
    rw [e];split at hg
    ·rename_i hc
     rw [Bool.and_eq_true,Bool.and_eq_true] at hc;obtain ⟨d,hd⟩:=Option.isSome_iff_exists.1 hc.2;have hd:AF ops j=some d:=by
      unfold AF;rw [← Array.getElem?_toList];exact hd
     have hmj:=hcl j hc.1.2;split at hg
     ·rename_i c hrj
      cases hg
      obtain ⟨v,e1,e2⟩:=hI.facts j d _ hmj hd (hres j _ hrj);have e2:v = .bool c:=e2;subst e2;exact Tz hd e1
     ·rename_i vs hrj
      split at hg
      ·rename_i hz
       cases hg
       obtain ⟨v,e1,e2⟩:=hI.facts j d _ hmj hd (hres j _ hrj);have e2:v = .tuple vs:=e2;have hz:vs = #[]:=by
        apply Array.eq_empty_of_size_eq_zero;simpa using hz
       rw [hz] at e2;subst e2;exact KP hd e1
      ·cases hg
     ·cases hg
    ·cases hg
  exact this o rfl
 have noU:U=[]→∀ o k,(∀ j R U,rc[j]? = some (R,U)→(∃ x∈U,x.1=o)→((m.setIfInBounds i true).getD j false=true ↔ j<k))→H o=lk (YM H0 (rc.take k)) o:=λhU o k h=>hI.hc o k λj R' U' h1 h2=>by
  rw [← h j R' U' h1 h2];have hne:i≠j:=by
   rintro rfl
   rw [hrc] at h1;simp only [Option.some.injEq,Prod.mk.injEq] at h1;obtain ⟨x,hx,_⟩:=h2;rw [← h1.2,hU] at hx
   cases hx
  rw [getD_set_ne false hne]
 unfold wpOpIn;simp only [ho]
 rcases hcase with ⟨hg,hop⟩ | ⟨hg,rfl,rfl,rfl⟩
 ·rw [if_pos (hguard _ hg)]
  have hdom0:∀ o p,ρ o=some p→o<n0:=λo p e=>by
   rcases hI.dom o p e with h | ⟨j,h1,h2,h3,h4⟩
   ·have:=h1d o p h; omega
   ·omega
  have hs:CK ρ M A w (base+16*i) H:=by
   refine ⟨hI.heap,hI.bnd,λo h1 h2=>?_,λb hb=>hA b (by have:=hI.fr.size; omega)⟩
   cases e:ρ o with
   | none=>rfl
   | some p =>
    exfalso
    rcases hI.dom o p e with h | ⟨j,h3,h4,h5,h6⟩
    ·have:=h1d o p h; omega
    ·have:j=i:=by omega
     subst this;rw [hm] at h4
     cases h4
  have hag:∀ o∈R,H o=lk (YM H0 (rc.take i)) o:=λo hoR=>hI.hc o i λj R' U' h1 h2=>by
   obtain ⟨x,hx,rfl⟩:=h2;have hxU:x.1∈U'.map (·.1):=List.mem_map.2 ⟨x,hx,rfl⟩
   rcases Nat.lt_trichotomy j i with hlt | rfl | hgt
   ·refine ⟨λ_=>hlt,λ_=>?_⟩
    have hj:(rc.take i)[j]? = some (R',U'):=by rw [List.getElem?_take,if_pos hlt]; exact h1
    rcases Ga hconf hj with hb | ⟨_,_,h3⟩
    ·rw [Nat.zero_add] at hb; exact hcl j hb
    ·exact absurd hxU (h3 _ hoR)
   ·rw [hm]
    exact ⟨λh=>by (cases h),λh=>by omega⟩
   ·refine ⟨λhmj=>?_,λh=>by omega⟩
    exfalso;have hjlt:j<ops.size:=by
     rcases Nat.lt_or_ge j ops.size with h | h
     ·exact h
     ·have:m.getD j false=false:=by
       simp [Array.getD_eq_getD_getElem?,Array.getElem?_eq_none (by rw [hI.len]; exact h)]
      rw [this] at hmj; cases hmj
    obtain ⟨oj,hoj⟩:∃ o,ops[j]? = some o:=⟨_,Array.getElem?_eq_getElem hjlt⟩;obtain ⟨_,Rj,Uj,_,hrcj,hconfj,_⟩:=hall j oj hoj;rw [h1] at hrcj;simp only [Option.some.injEq,Prod.mk.injEq] at hrcj;obtain ⟨rfl,rfl⟩:=hrcj;have hi':(rc.take j)[i]? = some (R,U):=by rw [List.getElem?_take,if_pos hgt]; exact hrc
    rcases Ga hconfj hi' with hb | ⟨h3,_,_⟩
    ·rw [Nat.zero_add] at hb
     have:=hI.closed j i hmj hb;rw [hm] at this; cases this
    ·exact h3 _ hxU hoR
  have hev:∀ x y,evA tm ops.toList cl i (res.take i) x=some y→RV ρ M w y (a.eval x):=λx y hx=>by
   have old:∀ t,tm[t]? = some y→(∀ j,AF ops j=some t→m.getD j false=false)→RV ρ M w y (a.eval (.tmp t)):=λt h1 h2=>by
    obtain ⟨v,e1,e2⟩:=hsl t y h1;rw [BZ ((hI.low t h2).trans e1)];exact e2.st hI.tr
   unfold evA at hx;split at hx
   ·cases hx; exact rfl
   ·cases hx
    show Rp ρ M w (.fn _ [] []) [_];unfold Rp;exact ⟨#[],#[],rfl,by unfold AQ; rfl,by unfold AQ; rfl⟩
   ·cases hx
   ·rename_i t
    split at hx
    ·rename_i j hj
     obtain ⟨_,oj,e1,e2⟩:=JX hj;have hdj:AF ops j=some t:=by
      unfold AF;rw [← Array.getElem?_toList];rw [Nat.sub_zero] at e1;rw [e1];exact e2
     split at hx
     ·rename_i hlt
      split at hx
      ·rename_i hb
       obtain ⟨v,e3,e4⟩:=hI.facts j t y (hcl j hb) hdj (hres j y hx);rw [BZ e3];exact e4
      ·cases hx
     ·split at hx
      ·rename_i hb
       refine old t hx λj' hj'=>?_
       have:=FT hd1 hdj hj';subst this;rw [Bool.or_eq_true] at hb
       rcases hb with hb | hb
       ·rw [Nat.eq_of_beq_eq_true hb]; exact hm
       ·cases hmj:m.getD j false with
        | false=>rfl
        | true=>have:=hI.closed j i hmj hb; rw [hm] at this; cases this
      ·cases hx
    ·rename_i hj
     refine old t hx λj' hj'=>?_
     exfalso;unfold AF at hj';rw [← Array.getElem?_toList] at hj';obtain ⟨o',e1,e2⟩:=Option.bind_eq_some_iff.1 hj';exact Hu hj o' (List.mem_of_getElem? e1) e2
  have hdoes:=aH hT hcf (hCt _ _ _ _ _ _ hC hI.tr) hop hs hag hev hdom0 (by omega);refine hdoes.upon (λv w' hp=>?_) rfl;obtain ⟨ρ',M',ht,hv,hRH,hdm,hsup,hmon,hbnd,hfr,hkp⟩:=hp;obtain ⟨p1,p2,p3,p4⟩:=OP hd1 hdl hI hi hm ho hr ht hv;refine ⟨ρ',M',CR H U,p1,p2,p3,hlen',hclosed',p4,hRH,λx k h=>?_,λx p e=>?_,hbnd,hI.tr.trans ht,λb h=>hsup b (hI.sup b h),λb h=>?_,hI.fr.trans hfr,λx b g c h1 h2 h3=>?_⟩
  ·by_cases hx:∃ y∈U,y.1=x
   ·have hik:i<k:=(h i R U hrc hx).1 hset
    have hskip:lk (YM H0 (rc.take k)) x=lk (YM H0 (rc.take (i+1))) x:=Jz hik λj R' U' h1 h2 h3 y hy=>by
     rintro rfl
     have hmj:=(h j R' U' h3 ⟨y,hy,rfl⟩).2 h2;have hne:i≠j:=by omega
     rw [getD_set_ne false hne] at hmj;have hjlt:j<ops.size:=by
      rcases Nat.lt_or_ge j ops.size with h | h
      ·exact h
      ·have:m.getD j false=false:=by
        simp [Array.getD_eq_getD_getElem?,Array.getElem?_eq_none (by rw [hI.len]; exact h)]
       rw [this] at hmj; cases hmj
     obtain ⟨oj,hoj⟩:∃ o,ops[j]? = some o:=⟨_,Array.getElem?_eq_getElem hjlt⟩;obtain ⟨_,Rj,Uj,_,hrcj,hconfj,_⟩:=hall j oj hoj;rw [h3] at hrcj;simp only [Option.some.injEq,Prod.mk.injEq] at hrcj;obtain ⟨rfl,rfl⟩:=hrcj;have hi':(rc.take j)[i]? = some (R,U):=by rw [List.getElem?_take,if_pos (by omega)]; exact hrc
     rcases Ga hconfj hi' with hb | ⟨_,h5,_⟩
     ·rw [Nat.zero_add] at hb
      have:=hI.closed j i hmj hb;rw [hm] at this; cases this
     ·obtain ⟨z,hz,e⟩:=hx
      exact h5 y.1 (List.mem_map.2 ⟨y,hy,rfl⟩) (List.mem_map.2 ⟨z,hz,e⟩)
    rw [hskip,List.take_add_one,hrc,Option.toList_some,MO,CZ];exact kL hx
   ·have hx':∀ y∈U,y.1≠x:=λy hy e=>hx ⟨y,hy,e⟩
    rw [Jt hx'];refine hI.hc x k λj R' U' h1 h2=>?_
    rw [← h j R' U' h1 h2];have hne:i≠j:=by
     rintro rfl
     rw [hrc] at h1;simp only [Option.some.injEq,Prod.mk.injEq] at h1;rw [← h1.2] at h2;exact hx h2
    rw [getD_set_ne false hne]
  ·rcases hdm x p e with h | h
   ·rcases hI.dom x p h with h | ⟨j,h1,h2,h3⟩
    ·exact .inl h
    ·exact .inr ⟨j,h1,getD_set_true h2,h3⟩
   ·exact .inr ⟨i,hi,hset,h⟩
  ·rcases hmon b h with h | h
   ·exact hI.mon b h
   ·exact .inr (Nat.le_trans hI.fr.size h)
  ·have hUx:=h2 i R U hset hrc
   have hH:H x=some b:=by
    rw [hI.hc x 0 λj R' U' h4 ⟨y,hy,e⟩=>⟨λhmj=>absurd e (h2 j R' U' (getD_set_true hmj) h4 y hy),λh=>by omega⟩];exact h1
   have hk:=hI.kp x b g c h1 (λj R' U' h4 h5=>h2 j R' U' (getD_set_true h4) h5) h3;exact (hkp x b g c hH hUx (hI.tr.ext _ _ h3)).trans hk
 ·rw [if_neg (by rw [hguard _ hg]; simp)]
  obtain ⟨p1,p2,p3,p4⟩:=OP (v:=undef) hd1 hdl hI hi hm ho hr (Tr.refl _ _ _) rfl;refine ⟨λ_ _=>trivial,ρ,M,H,p1,p2,p3,hlen',hclosed',p4,hI.heap,noU rfl,λx p e=>?_,hI.bnd,hI.tr,hI.sup,hI.mon,hI.fr,λx b g c h1 h2 h3=>hI.kp x b g c h1 (λj R' U' h4 h5=>h2 j R' U' (getD_set_true h4) h5) h3⟩
  rcases hI.dom x p e with h | ⟨j,h1,h2,h3⟩
  ·exact .inl h
  ·exact .inr ⟨j,h1,getD_set_true h2,h3⟩
end
end
section
variable [Cd]
def Ys(W0:World)(M:Nat→Prop)(w:World):List Deferred→Prop
 | []=>True
 | d :: ds=>(∃ D,d = { target:=.collected D,args:=#[] } ∧ W0.heap.size≤D ∧ ¬ M D∧w.heap[D]? = some (.deferred (some [])))∧d ∉ ds∧Ys W0 M w ds
theorem Ys.st{W0:World}{ρ ρ':Bg}{M M':Nat→Prop}{w w':World}(ht:Tr ρ M w ρ' M' w'):∀{ds:List Deferred},Ys W0 M w ds→Ys W0 M' w' ds
 | [],_=>trivial
 | _ :: _,⟨⟨D,e,h1,h2,h3⟩,h4,h5⟩=>⟨⟨D,e,h1,λh=>h2 (ht.mono D (AJ h3) h),(ht.keep D (AJ h3) h2).trans h3⟩,h4,h5.st ht⟩
structure FS (A:Nat→Prop) (W0:World) (ρ0:Bg) (M0:Nat→Prop) (H0:HP) (n0:Nat) (s:Fm) (ρ:Bg) (M:Nat→Prop) (a:Act) (w:World):Prop where
 size:a.tmps.size=s.tm.length
 defers:Ys W0 M w a.defers
 slots:∀(t:Nat)(x:AV),s.tm[t]? = some x→∃ v,a.tmps[t]? = some v∧RV ρ M w x v
 heap:RH ρ M A w (lk s.H)
 dom:∀ o p,ρ o=some p→o<s.nx
 nx:n0≤s.nx
 bnd:∀ b,M b→b<w.heap.size
 fr:NN A W0 w
 tr:Tr ρ0 M0 W0 ρ M w
 sup:∀ b,M0 b→M b
 mon:∀ b,M b→M0 b ∨ W0.heap.size≤b
 old:∀ o p,ρ o=some p→ρ0 o=some p ∨ n0≤o
 kp:∀ o,o<n0→(∀ x∈s.wr,x≠o)→lk s.H o=lk H0 o∧∀ b g c,lk H0 o=some b→ρ0 o=some (g,c)→w.heap[g]? = W0.heap[g]?
def tmN(opsL:List Oper)(res:List AV):List AV→Nat→List AV
 | [],_=>[]
 | a :: r,t=>(match NY t opsL 0 with | some j=>res.getD j a | none=>a) :: tmN opsL res r (t+1)
theorem Zp{opsL:List Oper}{res:List AV}:∀{l:List AV}{t k:Nat},(tmN opsL res l t)[k]? = (l[k]?).map λa=>match NY (t+k) opsL 0 with | some j=>res.getD j a | none=>a
 | [],_,_=>by simp [tmN]
 | a :: r,t,0=>by simp [tmN]
 | a :: r,t,k+1=>by
  unfold tmN;rw [List.getElem?_cons_succ,Zp,List.getElem?_cons_succ,show t+1+k=t+(k+1) by omega]
theorem Xt{opsL:List Oper}{res:List AV}:∀{l:List AV}{t:Nat},(tmN opsL res l t).length=l.length
 | [],_=>rfl
 | a :: r,t=>by simp [tmN,Xt]
def Ab8(draw:Bool)(ops:Array Oper)(cl:List Nat)(N:Nat):Bool:=Sq ops && GH ops && Aib draw ops cl && ops.toList.all λo=>match o.dst with | none=>true | some d=>Nat.blt d N
def Qq:List RC→List Nat
 | []=>[]
 | p :: r=>p.2.map (·.1) ++ Qq r
theorem L_{x:Nat}:∀{l:List RC}{p:RC},p∈l→x∈p.2.map (·.1)→x∈Qq l
 | [],_,h,_=>by cases h
 | q :: r,p,h,hx=>by
  unfold Qq
  rcases List.mem_cons.1 h with rfl | h
  ·exact List.mem_append.2 (.inl hx)
  ·exact List.mem_append.2 (.inr (L_ h hx))
noncomputable def Jx(T:Tb)(cf:BD)(draw:Bool)(ops:Array Oper)(s:Fm):Option Fm:=
 if Ab8 draw ops (AaB draw ops.toList 0 []) s.tm.length then
  match Xf T cf s.tm ops.toList (AaB draw ops.toList 0 []) s.nx (s.nx+16*ops.size) ops.toList 0 [] s.H [] with
  | some p=>some ⟨tmN ops.toList p.1 s.tm 0,p.2.1,s.nx+16*ops.size,s.wr ++ Qq p.2.2⟩
  | none=>none
 else none
section
variable {T : Tb} {cf : BD} {A : Nat → Prop} {W0 : World} {ρ0 : Bg} {M0 : Nat → Prop} {H0 : HP} {n0 : Nat} {s s' : Fm} {ρ1 : Bg} {M1 : Nat → Prop} {a0 : Act} {w1 : World} {ops : Array Oper} {draw : Bool} {Q : Exit → Act → World → Prop}
theorem vD{μ:Option Nat}{ops:Array Oper}{I:Array Bool→Act→World→Prop}(hdag:Sq ops=true)(hlen:∀ m a w,I m a w→m.size=ops.size)
  (hs:∀ m a w i,I m a w→i∈Region.ready .any ops m→wpOpIn (Eo μ) 9 Tryz.prog ops Q i (λa' w'=>I (m.setIfInBounds i true) a' w') a w)
  (fin:∀ m a w,I m a w→(∀ i,i<ops.size→m.getD i false=true)→Q .normal a w) :
  ∀(fuel:Nat)(m:Array Bool)(a:Act)(w:World),cnt ops.size m≤fuel→I m a w→wpAnyIn (Eo μ) 9 Tryz.prog .any ops Q fuel m a w:=by
 intro fuel
 induction fuel with
 | zero =>
  intro m a w hc hI;have hr:Region.ready .any ops m=[]:=by
   apply List.eq_nil_iff_forall_not_mem.2;intro i hi;obtain ⟨h0,o,ho,_⟩:=mem_ready.1 hi;have:=Ll (Array.getElem?_eq_some_iff.1 ho).1 (hlen _ _ _ hI) h0;omega
  exact ⟨hr,fin m a w hI (Hf hdag (hlen _ _ _ hI) hr)⟩
 | succ fuel ih =>
  intro m a w hc hI;refine ⟨λhr=>fin m a w hI (Hf hdag (hlen _ _ _ hI) hr),λi hi=>?_⟩;obtain ⟨h0,o,ho,_⟩:=mem_ready.1 hi;have hlt:=(Array.getElem?_eq_some_iff.1 ho).1;refine wpOpIn_mono (λa' w' hI'=>ih _ a' w' ?_ hI') (hs m a w i hI hi);have:=Ll hlt (hlen _ _ _ hI) h0;omega
theorem zE{μ:Option Nat}{ops:Array Oper}{I:Array Bool→Act→World→Prop}
  (hs:∀ m a w i,i<ops.size→I m a w→(∀ j,m.getD j false=decide (j<i))→wpOpIn (Eo μ) 9 Tryz.prog ops Q i (λa' w'=>I (m.setIfInBounds i true) a' w') a w) (hlen:∀ m a w,I m a w→m.size=ops.size)
  (fin:∀ m a w,I m a w→(∀ i,i<ops.size→m.getD i false=true)→Q .normal a w) :
  ∀(j k:Nat)(m:Array Bool)(a:Act)(w:World),k+j=ops.size→(∀ i,m.getD i false=decide (i<k))→I m a w→wpOpsIn (Eo μ) 9 Tryz.prog ops Q (List.range' k j) a w:=by
 intro j
 induction j with
 | zero =>
  intro k m a w hk hm hI;exact fin m a w hI (λi hi=>by rw [hm i]; simp; omega)
 | succ j ih =>
  intro k m a w hk hm hI;rw [List.range'_succ,wpOpsIn_cons];have hlt:k<ops.size:=by omega
  refine wpOpIn_mono (λa' w' hI'=>ih (k+1) _ a' w' (by omega) (λi=>?_) hI') (hs m a w k hlt hI hm)
  by_cases e:k=i
  ·subst e
   simp [Array.getD_eq_getD_getElem?,show k<m.size by rw [hlen _ _ _ hI]; exact hlt]
  ·rw [getD_set_ne false e,hm i]
   simp; omega
theorem Ik{C:T5}{μ:Option Nat}(hT:EO T)(hcf:Gj C cf)(hCt:Nr C)(hC:C ρ0 M0 W0){id:Nat}(h:Jx T cf draw ops s=some s')(hA:∀ b,W0.heap.size≤b→A b)(hF:FS A W0 ρ0 M0 H0 n0 s ρ1 M1 a0 w1)(k:∀ ρ M a w,FS A W0 ρ0 M0 H0 n0 s' ρ M a w→Q .normal a w):wpR μ (Code.region id ops draw) Q a0 w1:=by
 unfold Jx at h;split at h
 ·rename_i hpl
  generalize AaB draw ops.toList 0 []=cl at h hpl;unfold Ab8 at hpl;simp only [Bool.and_eq_true] at hpl;obtain ⟨⟨⟨hdag,hdst⟩,hclo⟩,hdl⟩:=hpl;have hdl':∀ i d,AF ops i=some d→d<s.tm.length:=λi d e=>by
   unfold AF at e;obtain ⟨o,h1,h2⟩:=Option.bind_eq_some_iff.1 e;have:=List.all_eq_true.1 hdl o (by simpa using Array.mem_of_getElem? h1);have h2:o.dst=some d:=h2;rw [h2] at this;exact Nat.le_of_ble_eq_true this
  split at h
  ·rename_i p hp
   obtain ⟨res,H',rc⟩:=p
   cases h
   obtain ⟨k1,k2,k3,_,_,k6⟩:=Oz (H0:=s.H) hp rfl rfl rfl;simp only [Nat.zero_add] at k1 k2;have hsz0:ops.toList.length=ops.size:=Array.length_toList;rw [hsz0] at k1 k2;have hall:∀ i o,ops[i]? = some o→Qz T cf s.tm ops.toList cl s.nx (s.nx+16*ops.size) s.H res rc i o:=λi o e=>by
    have:=k6 i o (by rw [Array.getElem?_toList]; exact e);rwa [Nat.zero_add] at this
   have hA1:∀ b,w1.heap.size≤b→A b:=λb hb=>hA b (Nat.le_trans hF.fr.size hb)
   let I:Array Bool→Act→World→Prop:=λm a w=>∃ ρ M H,IM A ops s.tm cl s.nx s.H res rc a0 w1 ρ1 M1 m a w ρ M H
   have hlen:∀ m a w,I m a w→m.size=ops.size:=λm a w ⟨_,_,_,hI⟩=>hI.len
   have step:∀ m a w i,i<ops.size→m.getD i false=false→(∀ j,Kh (cl.getD i 0) j=true→m.getD j false=true)→I m a w→wpOpIn (Eo μ) 9 Tryz.prog ops Q i (λa' w'=>I (m.setIfInBounds i true) a' w') a w:=λm a w i hi hm hc ⟨ρ,M,H,hI⟩ =>
    Aaz hT hcf hCt (hCt _ _ _ _ _ _ hC hF.tr) rfl hdst hdl' hF.dom hA1 hF.slots hall hI hi hm hc
   have fin:∀ m a w,I m a w→(∀ i,i<ops.size→m.getD i false=true)→Q .normal a w:=λm a w ⟨ρ,M,H,hI⟩ hm=>by
    have hrl:∀ j (p:RC),rc[j]? = some p→j<ops.size:=λj p e=>by
     have:=(List.getElem?_eq_some_iff.1 e).1;omega
    have hH:H=lk H':=funext λo=>by
     have:=hI.hc o ops.size λj R U h1 _=>⟨λ_=>hrl j _ h1,λh=>hm j h⟩
     rw [this,k3,List.take_of_length_le (by omega)]
    refine k ρ M a w ⟨by rw [Xt]; exact hI.size,by rw [hI.defers]; exact hF.defers.st hI.tr,λt x hx=>?_,by rw [← hH]; exact hI.heap,λo p e=>?_,Nat.le_trans hF.nx (Nat.le_add_right _ _),hI.bnd,hF.fr.trans hI.fr,hF.tr.trans hI.tr,λb hb=>hI.sup b (hF.sup b hb),λb hb=>?_,λo p e=>?_,λo ho hw=>?_⟩
    ·rw [Zp,Nat.zero_add] at hx
     obtain ⟨y,hy,hx⟩:=Option.map_eq_some_iff.1 hx;split at hx
     ·rename_i j hj
      obtain ⟨_,oj,e1,e2⟩:=JX hj;rw [Nat.sub_zero] at e1;have hdj:AF ops j=some t:=by
       unfold AF;rw [← Array.getElem?_toList,e1];exact e2
      have hjl:j<ops.size:=by
       have:=(List.getElem?_eq_some_iff.1 e1).1;rwa [Array.length_toList] at this
      have hrj:res[j]? = some x:=by
       rw [← hx,List.getD_eq_getElem?_getD,List.getElem?_eq_getElem (by omega)];rfl
      exact hI.facts j t x (hm j hjl) hdj hrj
     ·rename_i hj
      subst hx;obtain ⟨v,e1,e2⟩:=hF.slots t y hy;refine ⟨v,(hI.low t λi hi=>?_).trans e1,e2.st hI.tr⟩;exfalso;unfold AF at hi;rw [← Array.getElem?_toList] at hi;obtain ⟨o',e3,e4⟩:=Option.bind_eq_some_iff.1 hi;exact Hu hj o' (List.mem_of_getElem? e3) e4
    ·rcases hI.dom o p e with h | ⟨j,h1,_,_,h2⟩
     ·have:=hF.dom o p h
      show o<s.nx+16*ops.size;omega
     ·show o<s.nx+16*ops.size
      omega
    ·rcases hI.mon b hb with h | h
     ·exact hF.mon b h
     ·exact .inr (Nat.le_trans hF.fr.size h)
    ·rcases hI.dom o p e with h | ⟨j,h1,_,h2,_⟩
     ·exact hF.old o p h
     ·have:=hF.nx
      exact .inr (by omega)
    ·have hw1:∀ x∈s.wr,x≠o:=λx hx=>hw x (List.mem_append.2 (.inl hx))
     have hw2:∀(j:Nat)(R:List Nat)(U:HP),rc[j]? = some (R,U)→∀ x∈U,x.1≠o:=λj R U h1 x hx=>hw x.1 (List.mem_append.2 (.inr (L_ (List.mem_of_getElem? h1) (List.mem_map.2 ⟨x,hx,rfl⟩))))
     obtain ⟨q1,q2⟩:=hF.kp o ho hw1;have hsame:lk H' o=lk s.H o:=by
      have:=Jz (H0:=s.H) (rc:=rc) (o:=o) (i:=0) (k:=rc.length) (Nat.zero_le _) λj R U _ _ h1=>hw2 j R U h1
      rw [List.take_length] at this;rw [k3,this];rfl
     refine ⟨hsame.trans q1,λb g c e1 e2=>?_⟩;exact (hI.kp o b g c (q1.trans e1) (λj R U _ h1=>hw2 j R U h1) (hF.tr.ext _ _ e2)).trans (q2 b g c e1 e2)
   have start:∀ w,(w=w1 ∨ w=w1.drew)→I (Array.replicate ops.size false) a0 w:=λw hw=>by
    have hheap:w.heap=w1.heap:=by rcases hw with rfl | rfl <;> rfl
    have hm:∀ i,(Array.replicate ops.size false).getD i false=false:=λi=>by
     simp [Array.getD_eq_getD_getElem?,Array.getElem?_replicate];split <;> rfl
    have hg:Bt w1 w:=⟨by rw [hheap]; exact Nat.le_refl _,λ_ _ _ e=>by rw [hheap]; exact e,λ_ _ _ e=>by rw [hheap]; exact e⟩;have ht:Tr ρ1 M1 w1 ρ1 M1 w:=⟨hg,λ_ _ _=>by rw [hheap],λ_ _ h=>h,λ_ _ h=>h⟩;have hfr:NN A w1 w:=by
     rcases hw with rfl | rfl
     ·exact NN.refl _ _
     ·exact ⟨rfl,rfl,rfl,Nat.le_refl _,λ_ _ _=>rfl⟩
    refine ⟨ρ1,M1,lk s.H,hF.size,rfl,λ_ _=>rfl,by simp,λi j hi=>(by rw [hm i] at hi; cases hi),λi d r hi=>(by rw [hm i] at hi; cases hi),hF.heap.st ht (λ_ h=>h) λ_ _ _ _ _ _=>by rw [hheap],λo kk hk=>?_,λo p e=>.inl e,λb hb=>by rw [hheap]; exact hF.bnd b hb,ht,λ_ h=>h,λ_ h=>.inl h,hfr,λ_ _ _ _ _ _ _=>by rw [hheap]⟩;have:=Jz (H0:=s.H) (rc:=rc) (o:=o) (i:=0) (k:=kk) (Nat.zero_le _) λj R U _ h2 h1 x hx e=>by
     have:=(hk j R U h1 ⟨x,hx,e⟩).2 h2;rw [hm] at this
     cases this
    rw [this];rfl
   have hcl:∀ i,i<ops.size→cl.getD i 0=if draw then orL cl (B_ ops i) else 2 ^ i - 1:=λi hi=>Nat.eq_of_beq_eq_true (List.all_eq_true.1 hclo i (List.mem_range.2 hi))
   cases draw with
   | true =>
    refine wpIn_region_any (by kernel_rfl) ?_;refine vD (I:=I) hdag hlen (λm a w i hI hr=>?_) fin _ _ _ _ ?_ (start w1.drew (.inr rfl))
    ·obtain ⟨ρ,M,H,hI'⟩:=hI
     refine step m a w i (Fi hr) (CD hr) (λj hj=>?_) ⟨ρ,M,H,hI'⟩;rw [hcl i (Fi hr)] at hj;obtain ⟨x,hx,hj⟩:=YF hj;have hmx:=CG hr hx
     rcases hj with rfl | hj
     ·exact hmx
     ·exact hI'.closed x j hmx hj
    ·unfold cnt
     exact Nat.le_trans (List.length_filter_le _ _) (by simp)
   | false =>
    refine wpIn_region ?_;rw [List.range_eq_range'];refine zE (I:=I) (λm a w i hi hI hm=>?_) hlen fin _ 0 (Array.replicate ops.size false) _ _ (by omega) (λi=>?_) (start w1 (.inl rfl))
    ·refine step m a w i hi (by rw [hm]; simp) (λj hj=>?_) hI
     rw [hcl i hi] at hj;have hj:Nat.testBit (2 ^ i - 1) j=true:=hj;rw [Nat.testBit_two_pow_sub_one] at hj;rw [hm];exact hj
    ·simp [Array.getD_eq_getD_getElem?,Array.getElem?_replicate]
     split <;> rfl
  ·cases h
 ·cases h
theorem Pq(hT:EO T)(hcf:B5 cf){id:Nat}(h:Jx T (Qo cf N6) draw ops s=some s')(hA:∀ b,W0.heap.size≤b→A b)(hF:FS A W0 ρ0 M0 H0 n0 s ρ1 M1 a0 w1)(k:∀ ρ M a w,FS A W0 ρ0 M0 H0 n0 s' ρ M a w→Q .normal a w):(Code.region id ops draw).wp Tryz.prog Q a0 w1:=
 FZ.1 (Ik (C:=Kp) hT (hcf.c _) EG trivial h hA hF k)
end
inductive RR where
 | fall (s:Fm)
 | ret (s:Fm)
 | exit (n:Nat) (s:Fm)
end
section
variable [Cd]
mutual
def Cp(σ:Nat→Option Nat):AV→Option AV
 | .ptr o off=>(σ o).map λo'=>.ptr o' off
 | .sl o off len cap=>(σ o).map λo'=>.sl o' off len cap
 | .slx o c=>(σ o).map λo'=>.slx o' c
 | .epx o c=>(σ o).map λo'=>.epx o' c
 | .yl o=>(σ o).map λo'=>.yl o'
 | .fn f a b=>match FC σ a,FC σ b with
  | some a',some b'=>some (.fn f a' b')
  | _,_=>none
 | .agg l=>(FC σ l).map .agg
 | .tup l=>(FC σ l).map .tup
 | .row n l=>(FC σ l).map (.row n)
 | .rptr l=>(FC σ l).map .rptr
 | a=>some a
def FC(σ:Nat→Option Nat):List AV→Option (List AV)
 | []=>some []
 | a :: l=>match Cp σ a,FC σ l with
  | some a',some l'=>some (a' :: l')
  | _,_=>none
end
section
variable {σ : Nat → Option Nat} {ρ ρ' : Bg} {M M' : Nat → Prop} {w : World}
mutual
theorem DV(hσ:∀ o o' p,σ o=some o'→ρ o=some p→ρ' o'=some p)(hM:∀ b,M' b→M b):∀(a a':AV)(cs:List Value),Cp σ a=some a'→Rp ρ M w a cs→Rp ρ' M' w a' cs
 | .val _,_,_,h,r=>by unfold Cp at h; cases h; unfold Rp at r ⊢; exact r
 | .num _,_,_,h,r=>by unfold Cp at h; cases h; unfold Rp at r ⊢; exact r
 | .rat _,_,_,h,r=>by unfold Cp at h; cases h; unfold Rp at r ⊢; exact r
 | .rats _,_,_,h,r=>by
  unfold Cp at h
  cases h
  unfold Rp at r ⊢;obtain ⟨A,c,e,hc,r⟩:=r;refine ⟨A,c,e,hc,λh0=>?_⟩;obtain ⟨g,off,xs,e1,m,s,ra,rc⟩:=r h0;exact ⟨g,off,xs,e1,λh=>m (hM _ h),s,ra,rc⟩
 | .row n l,_,_,h,r=>by
  unfold Cp at h;obtain ⟨l',hl,rfl⟩:=Option.map_eq_some_iff.1 h;unfold Rp at r ⊢;obtain ⟨A,c,e,hc,r⟩:=r;refine ⟨A,c,e,hc,λh0=>?_⟩;obtain ⟨g,off,xs,e1,m,s,ra,rc⟩:=r h0;exact ⟨g,off,xs,e1,λh=>m (hM _ h),s,ra,Df hσ hM l l' xs hl rc⟩
 | .rptr l,_,_,h,r=>by
  unfold Cp at h;obtain ⟨l',hl,rfl⟩:=Option.map_eq_some_iff.1 h;unfold Rp at r ⊢;obtain ⟨g,off,xs,e1,m,s,ra,rc⟩:=r;exact ⟨g,off,xs,e1,λh=>m (hM _ h),s,ra,Df hσ hM l l' xs hl rc⟩
 | .ptr o off,_,_,h,r=>by
  unfold Cp at h;obtain ⟨o',ho,rfl⟩:=Option.map_eq_some_iff.1 h;unfold Rp at r ⊢;obtain ⟨g,c,e,k⟩:=r;exact ⟨g,c,hσ _ _ _ ho e,k⟩
 | .sl o _ _ _,_,_,h,r=>by
  unfold Cp at h;obtain ⟨o',ho,rfl⟩:=Option.map_eq_some_iff.1 h;unfold Rp at r ⊢;obtain ⟨g,c,k,e,r⟩:=r;exact ⟨g,c,k,hσ _ _ _ ho e,r⟩
 | .fn f a b,_,_,h,r=>by
  unfold Cp at h;split at h
  ·rename_i a' b' ha hb
   cases h
   unfold Rp at r ⊢;obtain ⟨xs,ys,e,r1,r2⟩:=r;exact ⟨xs,ys,e,Df hσ hM a a' _ ha r1,Df hσ hM b b' _ hb r2⟩
  ·cases h
 | .ext _ _ c,_,_,h,r=>by
  unfold Cp at h
  cases h
  unfold Rp at r ⊢;exact ⟨r.1,(Cd.X c).st _ _ _ _ _ (Bt.refl w) (λ_ _ _=>.inl rfl) (λb _ h=>hM b h) r.2⟩
 | .slx o _,_,_,h,r=>by
  unfold Cp at h;obtain ⟨o',ho,rfl⟩:=Option.map_eq_some_iff.1 h;unfold Rp at r ⊢;obtain ⟨g,k,cc,e,r⟩:=r;exact ⟨g,k,cc,hσ _ _ _ ho e,r⟩
 | .epx o _,_,_,h,r=>by
  unfold Cp at h;obtain ⟨o',ho,rfl⟩:=Option.map_eq_some_iff.1 h;unfold Rp at r ⊢;obtain ⟨g,cc,e,r⟩:=r;exact ⟨g,cc,hσ _ _ _ ho e,r⟩
 | .yl o,_,_,h,r=>by
  unfold Cp at h;obtain ⟨o',ho,rfl⟩:=Option.map_eq_some_iff.1 h;unfold Rp at r ⊢;obtain ⟨g,cc,e,r⟩:=r;exact ⟨g,cc,hσ _ _ _ ho e,r⟩
 | .any,_,_,_,r=>by unfold Rp at r; exact r.elim
 | .agg _,_,_,_,r=>by unfold Rp at r; exact r.elim
 | .tup _,_,_,_,r=>by unfold Rp at r; exact r.elim
theorem Df(hσ:∀ o o' p,σ o=some o'→ρ o=some p→ρ' o'=some p)(hM:∀ b,M' b→M b):∀(l l':List AV)(cs:List Value),FC σ l=some l'→AQ ρ M w l cs→AQ ρ' M' w l' cs
 | [],_,_,h,r=>by unfold FC at h; cases h; unfold AQ at r ⊢; exact r
 | a :: l,_,_,h,r=>by
  unfold FC at h;split at h
  ·rename_i a' l' ha hl
   cases h
   unfold AQ at r ⊢;obtain ⟨x,y,e,r1,r2⟩:=r;exact ⟨x,y,e,DV hσ hM a a' x ha r1,Df hσ hM l l' y hl r2⟩
  ·cases h
end
theorem Xl(hσ:∀ o o' p,σ o=some o'→ρ o=some p→ρ' o'=some p)(hM:∀ b,M' b→M b){a a':AV}{v:Value}(h:Cp σ a=some a')(r:Bz ρ M w a v):Bz ρ' M' w a' v:=by
 have plain:Rp ρ M w a [v]→(∀ x:AV,Cp σ a=some x→Rp ρ' M' w x [v]→Bz ρ' M' w x v)→Bz ρ' M' w a' v:=λr k=>k a' h (DV hσ hM a a' _ h r)
 cases a with
 | any=>unfold Cp at h; cases h; trivial
 | val u=>unfold Cp at h; cases h; exact r
 | num z =>
  obtain ⟨cs,e,r⟩:=r;have:=DV hσ hM _ _ _ h r;unfold Cp at h
  cases h
  exact ⟨cs,e,this⟩
 | rat q =>
  obtain ⟨cs,e,r⟩:=r;have:=DV hσ hM _ _ _ h r;unfold Cp at h
  cases h
  exact ⟨cs,e,this⟩
 | agg l =>
  obtain ⟨cs,e,r⟩:=r;unfold Cp at h;obtain ⟨l',hl,rfl⟩:=Option.map_eq_some_iff.1 h;exact ⟨cs,e,Df hσ hM l l' _ hl r⟩
 | tup l=>exact r.elim
 | ext n ag c =>
  cases ag with
  | true =>
   obtain ⟨cs,e,r⟩:=r;have:=DV hσ hM _ _ _ h r;unfold Cp at h
   cases h
   exact ⟨cs,e,this⟩
  | false=>exact plain r λx hx k=>by unfold Cp at hx; cases hx; exact k
 | slx o c=>exact plain r λx hx k=>by unfold Cp at hx; obtain ⟨_,_,rfl⟩:=Option.map_eq_some_iff.1 hx; exact k
 | epx o c=>exact plain r λx hx k=>by unfold Cp at hx; obtain ⟨_,_,rfl⟩:=Option.map_eq_some_iff.1 hx; exact k
 | yl o=>exact plain r λx hx k=>by unfold Cp at hx; obtain ⟨_,_,rfl⟩:=Option.map_eq_some_iff.1 hx; exact k
 | rats l=>exact plain r λx hx k=>by unfold Cp at hx; cases hx; exact k
 | row n l=>exact plain r λx hx k=>by unfold Cp at hx; obtain ⟨_,_,rfl⟩:=Option.map_eq_some_iff.1 hx; exact k
 | rptr l=>exact plain r λx hx k=>by unfold Cp at hx; obtain ⟨_,_,rfl⟩:=Option.map_eq_some_iff.1 hx; exact k
 | ptr o off=>exact plain r λx hx k=>by unfold Cp at hx; obtain ⟨_,_,rfl⟩:=Option.map_eq_some_iff.1 hx; exact k
 | sl o off len cap=>exact plain r λx hx k=>by unfold Cp at hx; obtain ⟨_,_,rfl⟩:=Option.map_eq_some_iff.1 hx; exact k
 | fn f a b =>
  exact plain r λx hx k=>by
   unfold Cp at hx;split at hx
   ·cases hx; exact k
   ·cases hx
theorem Bv.ren(hσ:∀ o o' p,σ o=some o'→ρ o=some p→ρ' o'=some p)(hM:∀ b,M' b→M b){b:OB}{l:List AV}{cs:List Value}(h:FC σ b.cs=some l)(r:Bv ρ M w b cs):Bv ρ' M' w { b with cs:=l } cs:=by
 unfold Bv at r ⊢;split at r
 ·rename_i hb
  simp only [hb];exact Df hσ hM _ _ _ h r
 ·rename_i c hb
  simp only [hb];exact (Cd.B c).st _ _ _ _ _ (Bt.refl w) (λ_ _ _=>.inl rfl) (λb _ h=>hM b h) r
theorem LW(hσ:∀ o o' p,σ o=some o'→ρ o=some p→ρ' o'=some p)(hM:∀ b,M' b→M b):∀{l l':List AV}{vs:List Value},FC σ l=some l'→CH ρ M w l vs→CH ρ' M' w l' vs
 | [],_,_,h,r=>by unfold FC at h; cases h; exact r
 | a :: l,_,_,h,r=>by
  unfold FC at h;split at h
  ·rename_i a' l' ha hl
   cases h
   obtain ⟨v,vr,e,r1,r2⟩:=r;exact ⟨v,vr,e,Xl hσ hM ha r1,LW hσ hM hl r2⟩
  ·cases h
theorem Pi(hσ:∀ o o' p,σ o=some o'→ρ o=some p→ρ' o'=some p)(hM:∀ b,M' b→M b){a a':AV}{v:Value}(h:Cp σ a=some a')(r:RV ρ M w a v):RV ρ' M' w a' v:=by
 cases a with
 | tup l =>
  obtain ⟨vs,e,r⟩:=r;unfold Cp at h;obtain ⟨l',hl,rfl⟩:=Option.map_eq_some_iff.1 h;exact ⟨vs,e,LW hσ hM hl r⟩
 | _=>exact (Xl hσ hM h r).rv
end
def Q7(o:Nat):List Nat→Nat→Option Nat
 | [],_=>none
 | x :: l,i=>if Nat.beq x o then some i else Q7 o l (i+1)
theorem GL{o:Nat}:∀{l:List Nat}{i j:Nat},Q7 o l i=some j→i≤j∧l[j - i]? = some o
 | [],_,_,h=>by cases h
 | x :: l,i,j,h=>by
  unfold Q7 at h;split at h
  ·rename_i e
   cases h
   have:=Nat.eq_of_beq_eq_true e;simp [this]
  ·obtain ⟨h1,h2⟩:=GL h
   refine ⟨by omega,?_⟩;rw [show j - i=(j - (i+1))+1 by omega];exact h2
def sgm(n0 t0:Nat)(L:List Nat)(o:Nat):Option Nat:=if Nat.blt o n0 then some o else (Q7 o L 0).map (t0 + ·)
def VW(H:HP)(n0:Nat):Nat→List Nat→List Nat→Option (List Nat)
 | _,[],acc=>some acc
 | 0,_ :: _,_=>none
 | k+1,o :: r,acc=>if Nat.blt o n0 || memN o acc then VW H n0 k r acc else match lk H o with
  | some b=>VW H n0 k (Nf b.cs ++ r) (acc ++ [o])
  | none=>none
def OW(σ:Nat→Option Nat)(H:HP)(o:Nat):Option (Option OB):=match lk H o with
 | none=>some none
 | some b=>(FC σ b.cs).map λl=>some { b with cs:=l }
def NE(σ:Nat→Option Nat)(H H0:HP):List Nat→Option HP
 | []=>some []
 | o :: r=>match lk H0 o,OW σ H o,NE σ H H0 r with
  | some _,some e,some l=>some ((o,e) :: l)
  | _,_,_=>none
def Ty(σ:Nat→Option Nat)(H:HP)(t0:Nat):List Nat→Nat→Option HP
 | [],_=>some []
 | o :: r,i=>match OW σ H o,Ty σ H t0 r (i+1) with
  | some (some b),some l=>some ((t0+i,some b) :: l)
  | _,_=>none
def G8:List Nat→Bool
 | []=>true
 | x :: l=>!memN x l && G8 l
def FF(n0:Nat):List Nat→List Nat
 | []=>[]
 | x :: l=>if Nat.blt x n0 && !memN x (FF n0 l) then x :: FF n0 l else FF n0 l
theorem I4{n0 o:Nat}:∀{l:List Nat},o∈l→o<n0→o∈FF n0 l
 | [],h,_=>by cases h
 | x :: l,h,hn=>by
  unfold FF;split
  ·rcases List.mem_cons.1 h with rfl | h
   ·exact List.mem_cons_self ..
   ·exact List.mem_cons_of_mem _ (I4 h hn)
  ·rename_i hc
   rcases List.mem_cons.1 h with rfl | h
   ·have hb:Nat.blt o n0=true:=by simpa [Nat.blt] using Nat.ble_eq_true_of_le hn
    rw [hb,Bool.true_and] at hc;have:memN o (FF n0 l)=true:=by
     cases e:memN o (FF n0 l) with
     | true=>rfl
     | false=>rw [e] at hc; exact absurd rfl hc
    exact CB.1 this
   ·exact I4 h hn
def Tu(H:HP):List Nat→List Nat
 | []=>[]
 | o :: r=>(match lk H o with | some b=>Nf b.cs | none=>[]) ++ Tu H r
def ZA(H0:HP)(n0 t0:Nat)(s:Fm)(r:AV):Option (AV × HP):=match VW s.H n0 400 (AiL r ++ Tu s.H (FF n0 s.wr)) [] with
 | none=>none
 | some L=>if Nat.ble L.length 16 && G8 L && (L.all λo=>Nat.ble n0 o) then (match Cp (sgm n0 t0 L) r,Ty (sgm n0 t0 L) s.H t0 L 0,NE (sgm n0 t0 L) s.H H0 (FF n0 s.wr) with
  | some r',some U2,some U1=>some (r',U2 ++ U1)
  | _,_,_=>none) else none
theorem Gg:∀{l:List Nat}{i j x:Nat},G8 l=true→l[i]? = some x→l[j]? = some x→i=j
 | [],_,_,_,_,h,_=>by simp at h
 | y :: l,i,j,x,hn,h1,h2=>by
  unfold G8 at hn;rw [Bool.and_eq_true,Bool.not_eq_true'] at hn;have hno:∀ k,l[k]? = some y→False:=λk e=>by
   have:=CB.2 (List.mem_of_getElem? e);rw [hn.1] at this
   cases this
  cases i with
  | zero =>
   simp at h1;subst h1
   cases j with
   | zero=>rfl
   | succ j=>exact (hno j (by simpa using h2)).elim
  | succ i =>
   cases j with
   | zero =>
    simp at h2;subst h2;exact (hno i (by simpa using h1)).elim
   | succ j=>exact congrArg (· + 1) (Gg (x:=x) hn.2 (by simpa using h1) (by simpa using h2))
section
variable {σ : Nat → Option Nat} {H H0 : HP} {K : Nat → Option OB} {n0 t0 : Nat}
theorem Mg{o:Nat}{b:OB}(h:OW σ H o=some (some b)):∃ b0 l,lk H o=some b0∧FC σ b0.cs=some l∧b = { b0 with cs:=l }:=by
 unfold OW at h;split at h
 ·cases h
 ·rename_i b0 hb
  obtain ⟨l,hl,e⟩:=Option.map_eq_some_iff.1 h;exact ⟨b0,l,hb,hl,(Option.some.inj e).symm⟩
theorem OS:∀{L:List Nat}{i:Nat}{U:HP},Ty σ H t0 L i=some U→∀ o,(∃ j x b,o=t0+i+j∧L[j]? = some x∧OW σ H x=some (some b)∧CR K U o=some b) ∨ ((∀ j,j<L.length→o≠t0+i+j)∧CR K U o=K o∧∀ y∈U,y.1≠o)
 | [],i,U,h,o=>by
  unfold Ty at h
  cases h
  exact .inr ⟨λj hj=>by simp at hj,rfl,λy hy=>by cases hy⟩
 | x :: L,i,U,h,o=>by
  unfold Ty at h;split at h
  ·rename_i b l hb hl
   cases h
   by_cases ho:t0+i=o
   ·refine .inl ⟨0,x,b,by omega,rfl,hb,?_⟩
    simp only [CR];rw [if_pos (by simpa using ho)]
   ·have hne:CR K ((t0+i,some b) :: l) o=CR K l o:=by
     simp only [CR];rw [if_neg (by simpa using ho)]
    rcases OS hl o with ⟨j,x',b',e1,e2,e3,e4⟩ | ⟨e1,e2,e3⟩
    ·exact .inl ⟨j+1,x',b',by omega,by simpa using e2,e3,by rw [hne]; exact e4⟩
    ·refine .inr ⟨λj hj=>?_,by rw [hne]; exact e2,λy hy=>?_⟩
     ·cases j with
      | zero=>omega
      | succ j=>have:=e1 j (by simpa using hj); omega
     ·rcases List.mem_cons.1 hy with rfl | hy
      ·exact ho
      ·exact e3 y hy
  ·cases h
theorem O3:∀{W:List Nat}{U:HP},NE σ H H0 W=some U→∀ o,(o∈W∧(∃ b0,lk H0 o=some b0)∧∃ e,OW σ H o=some e∧CR K U o=e) ∨ (o ∉ W∧CR K U o=K o)
 | [],U,h,o=>by
  unfold NE at h
  cases h
  exact .inr ⟨by simp,rfl⟩
 | x :: W,U,h,o=>by
  unfold NE at h;split at h
  ·rename_i b0 e l hb he hl
   cases h
   by_cases ho:x=o
   ·subst ho
    refine .inl ⟨by simp,⟨b0,hb⟩,e,he,?_⟩;simp only [CR];rw [if_pos (by simp)]
   ·have hne:CR K ((x,e) :: l) o=CR K l o:=by
     simp only [CR];rw [if_neg (by simpa using ho)]
    rcases O3 hl o with ⟨e1,e2,e3,e4,e5⟩ | ⟨e1,e2⟩
    ·exact .inl ⟨by simp [e1],e2,e3,e4,by rw [hne]; exact e5⟩
    ·exact .inr ⟨by simp [e1,Ne.symm ho],by rw [hne]; exact e2⟩
  ·cases h
theorem OJ:∀{W:List Nat}{U:HP},NE σ H H0 W=some U→∀ o∈W,∃ x∈U,x.1=o
 | [],_,_,_,h=>by cases h
 | x :: W,U,h,o,ho=>by
  unfold NE at h;split at h
  ·rename_i b0 e l hb he hl
   cases h
   rcases List.mem_cons.1 ho with rfl | ho
   ·exact ⟨_,List.mem_cons_self ..,rfl⟩
   ·obtain ⟨y,hy,e⟩:=OJ hl o ho
    exact ⟨y,List.mem_cons_of_mem _ hy,e⟩
  ·cases h
end
theorem wT{K:Nat→Option OB}(U V:HP)(o:Nat):CR K (U ++ V) o=CR (CR K V) U o:=by
 induction U with
 | nil=>rfl
 | cons x r ih=>simp only [List.cons_append,CR,ih]
section
variable {A : Nat → Prop} {W0 : World} {ρ0 : Bg} {M0 : Nat → Prop} {H0 : HP} {n0 t0 : Nat} {s : Fm} {ρ : Bg} {M : Nat → Prop} {a : Act} {w : World}
theorem KD{r r':AV}{U:HP}{v:Value}(hs:CK ρ0 M0 A W0 t0 (lk H0))(hd:∀ o p,ρ0 o=some p→o<n0)(hF:FS A W0 ρ0 M0 H0 n0 s ρ M a w)(hv:RV ρ M w r v)(h:ZA H0 n0 t0 s r=some (r',U)):BI ρ0 M0 A W0 t0 (lk H0) U r' v w:=by
 unfold ZA at h;split at h
 ·cases h
 ·rename_i L _
  split at h
  ·rename_i hc
   simp only [Bool.and_eq_true] at hc;obtain ⟨⟨hL16,hnd⟩,hge⟩:=hc;have hL16:L.length≤16:=Nat.le_of_ble_eq_true hL16;have hge:∀ x∈L,n0≤x:=λx hx=>Nat.le_of_ble_eq_true (List.all_eq_true.1 hge x hx)
   split at h
   ·rename_i rr U2 U1 hr h2 h1
    cases h
    let ρ':Bg:=λo=>if t0≤o∧o<t0+L.length then (L[o - t0]?).bind ρ else ρ0 o
    let M':Nat→Prop:=λb=>M0 b ∨ ∃ x∈L,∃ c,ρ x=some (b,c)∧M b
    have hout:∀ o p,ρ0 o=some p→ρ' o=some p:=λo p e=>by
     show (if t0≤o∧o<t0+L.length then (L[o - t0]?).bind ρ else ρ0 o)=some p;rw [if_neg]
     ·exact e
     ·rintro ⟨k1,k2⟩
      rw [hs.new o k1 (by omega)] at e
      cases e
    have hin:∀ j x,L[j]? = some x→ρ' (t0+j)=ρ x:=λj x e=>by
     show (if t0≤t0+j∧t0+j<t0+L.length then (L[t0+j - t0]?).bind ρ else ρ0 (t0+j))=ρ x;have:=(List.getElem?_eq_some_iff.1 e).1;rw [if_pos ⟨by omega,by omega⟩,show t0+j - t0=j by omega,e];rfl
    have hσ:∀ o o' p,sgm n0 t0 L o=some o'→ρ o=some p→ρ' o'=some p:=λo o' p e1 e2=>by
     unfold sgm at e1;split at e1
     ·rename_i hlt
      cases e1
      have hlt:o<n0:=Nat.le_of_ble_eq_true hlt
      rcases hF.old o p e2 with h | h
      ·exact hout o p h
      ·omega
     ·obtain ⟨j,hj,rfl⟩:=Option.map_eq_some_iff.1 e1
      obtain ⟨_,hj⟩:=GL hj;rw [hin j o (by simpa using hj)];exact e2
    have hM:∀ b,M' b→M b:=λb h=>by
     rcases h with h | ⟨x,_,c,_,h⟩
     ·exact hF.sup b h
     ·exact h
    have ht:Tr ρ0 M0 W0 ρ' M' w:=⟨hF.tr.grow,hF.tr.keep,λb hb h=>hF.tr.mono b hb (hM b h),hout⟩;have hWn:∀ o,o<n0→o ∉ FF n0 s.wr→∀ x∈s.wr,x≠o:=λo ho hn x hx e=>hn (I4 (e ▸ hx) ho)
    have src:∀ o b,CR (lk H0) (U2 ++ U1) o=some b→∃ y b0 g c arr cs,lk s.H y=some b0∧IQ ρ M A w y b0 g c arr cs∧IQ ρ' M' A w o b g c arr cs∧((n0≤y∧∃ j,o=t0+j∧L[j]? = some y) ∨ (y<n0∧y=o)):=λo b e=>by
     rw [wT] at e
     rcases OS (K:=CR (lk H0) U1) h2 o with ⟨j,x,b',e1,e2,e3,e4⟩ | ⟨e1,e2,_⟩
     ·rw [e4] at e
      obtain rfl:=Option.some.inj e;obtain ⟨b0,l,k1,k2,rfl⟩:=Mg e3;obtain ⟨g,c,arr,cs,k⟩:=hF.heap.obj x b0 k1;have hxm:=List.mem_of_getElem? e2;refine ⟨x,b0,g,c,arr,cs,k1,k,⟨?_,.inr ⟨x,hxm,c,k.at_,k.mut_⟩,k.own,k.blk,k.ty,k.cells.ren hσ hM k2,k.pre,k.cap⟩,.inl ⟨hge x hxm,j,by omega,e2⟩⟩;rw [e1,Nat.add_zero,hin j x e2];exact k.at_
     ·rw [e2] at e
      rcases O3 (K:=lk H0) h1 o with ⟨k1,⟨b1,k2⟩,e',k3,k4⟩ | ⟨k1,k2⟩
      ·rw [k4] at e
       subst e;obtain ⟨b0,l,q1,q2,rfl⟩:=Mg k3;obtain ⟨g0,c0,arr0,cs0,kk⟩:=hs.heap.obj o b1 k2;have hlt:o<n0:=hd o _ kk.at_;obtain ⟨g,c,arr,cs,k⟩:=hF.heap.obj o b0 q1;have hg:(g,c)=(g0,c0):=by
        have:=hF.tr.ext _ _ kk.at_;rw [k.at_] at this;exact Option.some.inj this
       simp only [Prod.mk.injEq] at hg;refine ⟨o,b0,g,c,arr,cs,q1,k,⟨?_,.inl (by rw [hg.1]; exact kk.mut_),k.own,k.blk,k.ty,k.cells.ren hσ hM q2,k.pre,k.cap⟩,.inr ⟨hlt,rfl⟩⟩;rw [hg.1,hg.2];exact hout _ _ kk.at_
      ·rw [k2] at e
       obtain ⟨g0,c0,arr0,cs0,kk⟩:=hs.heap.obj o b e;have hlt:o<n0:=hd o _ kk.at_;obtain ⟨q1,q2⟩:=hF.kp o hlt (hWn o hlt k1);have hb:=q2 b g0 c0 e kk.at_;exact ⟨o,b,g0,c0,arr0,cs0,q1.trans e,kk.st hF.tr (hF.sup g0) hb,kk.st ht .inl hb,.inr ⟨hlt,rfl⟩⟩
    refine ⟨ρ',M',ht,Pi hσ hM hr hv,⟨λo b e=>?_,λo o' b b' g c c' e e' q q'=>?_⟩,λo p e=>?_,λ_=>.inl,λb h=>hF.mon b (hM b h),λb h=>hF.bnd b (hM b h),hF.fr,λo b g c e1 e2 e3=>?_⟩
    ·obtain ⟨y,b0,g,c,arr,cs,_,_,k,_⟩:=src o b e
     exact ⟨g,c,arr,cs,k⟩
    ·obtain ⟨y,b0,g1,c1,arr,cs,l1,k1,k2,k3⟩:=src o b e
     obtain ⟨y',b0',g1',c1',arr',cs',l1',k1',k2',k3'⟩:=src o' b' e';have e1:=k2.at_;have e1':=k2'.at_;rw [q] at e1;rw [q'] at e1';simp only [Option.some.injEq,Prod.mk.injEq] at e1 e1';have hy:y=y':=hF.heap.inj y y' b0 b0' g1 c1 c1' l1 l1' k1.at_ (by rw [k1'.at_,← e1'.1,e1.1]);subst hy
     rcases k3 with ⟨n1,j,rfl,hj⟩ | ⟨n1,rfl⟩ <;> rcases k3' with ⟨n1',j',rfl,hj'⟩ | ⟨n1',h⟩
     ·rw [Gg hnd hj hj']
     ·omega
     ·omega
     ·exact h
    ·by_cases ho:t0≤o∧o<t0+L.length
     ·exact .inr ⟨ho.1,by omega⟩
     ·refine .inl ?_
      have:ρ' o=ρ0 o:=if_neg ho;rw [← this];exact e
    ·obtain ⟨g0,c0,arr0,cs0,kk⟩:=hs.heap.obj o b e1
     have hlt:o<n0:=hd o _ kk.at_;refine (hF.kp o hlt (hWn o hlt λhm=>?_)).2 b g c e1 e3;obtain ⟨x,hx,e⟩:=OJ h1 o hm;exact e2 x (List.mem_append.2 (.inr hx)) e
   ·cases h
  ·cases h
end
end
end Go.Proofs.YtdopbgnkneeceaaGreat
