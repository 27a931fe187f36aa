/- An abstract machine: regions, in whatever order their operations come up. -/
import Derived.Test.YtgaehhapjnbieaaGreatqVd
set_option linter.unusedSectionVars false
set_option linter.unusedVariables false
set_option linter.unusedSimpArgs false
namespace Go.Proofs.YtgaehhapjnbieaaGreat
open Go.RowKit
variable [Env]
structure Fm where
 tm:List AV
 H:HP
 nx:Nat
 wr:List Nat
abbrev RC:=List Nat × HP
def bitB (m j:Nat):Bool:=Nat.testBit m j
def orL (prev:List Nat):List Nat→Nat
 | []=>0
 | j :: r=>2 ^ j ||| prev.getD j 0 ||| orL prev r
theorem orL_bit {prev:List Nat} {j:Nat}:∀ {l:List Nat},bitB (orL prev l) j=true→∃ k∈l,k=j ∨ bitB (prev.getD k 0) j=true
 | [],h=>by simp [orL,bitB] at h
 | k :: r,h=>by
  unfold orL bitB at h
  rw [Nat.testBit_or,Nat.testBit_or,Bool.or_eq_true,Bool.or_eq_true] at h
  rcases h with (h | h) | h
  ·rw [Nat.testBit_two_pow] at h
   exact ⟨k,by simp,.inl (of_decide_eq_true h)⟩
  ·exact ⟨k,by simp,.inr h⟩
  ·obtain ⟨k',h1,h2⟩:=orL_bit h
   exact ⟨k',by simp [h1],h2⟩
def depsL (o:Oper):List Nat:=(o.after.toList.filter (Region.binds .any)).map (·.on)
def cloG (draw:Bool):List Oper→Nat→List Nat→List Nat
 | [],_,prev=>prev
 | o :: r,i,prev=>cloG draw r (i+1) (prev ++ [if draw then orL prev (depsL o) else 2 ^ i - 1])
def cloOK (draw:Bool) (ops:Array Oper) (cl:List Nat):Bool:=(List.range ops.size).all fun i=>Nat.beq (cl.getD i 0) (if draw then orL cl (deps ops i) else 2 ^ i - 1)
def fdst (t:Nat):List Oper→Nat→Option Nat
 | [],_=>none
 | o :: r,i=>match o.dst with
  | some d=>if Nat.beq d t then some i else fdst t r (i+1)
  | none=>fdst t r (i+1)
theorem fdst_some {t:Nat}:∀ {l:List Oper} {i j:Nat},fdst t l i=some j→i≤j∧∃ o,l[j - i]? = some o∧o.dst=some t
 | [],_,_,h=>by cases h
 | o :: r,i,j,h=>by
  unfold fdst at h
  have rec_:fdst t r (i+1)=some j→i≤j∧∃ o',(o :: r)[j - i]? = some o'∧o'.dst=some t:=fun h=>by
   obtain ⟨h1,o',h2,h3⟩:=fdst_some h
   refine ⟨by omega,o',?_,h3⟩
   rw [show j - i=(j - (i+1))+1 by omega]
   exact h2
  split at h
  ·rename_i d hd
   split at h
   ·rename_i e
    have e:=Nat.eq_of_beq_eq_true e
    cases h
    exact ⟨Nat.le_refl _,o,by simp,by rw [hd,e]⟩
   ·exact rec_ h
  ·exact rec_ h
theorem fdst_none {t:Nat}:∀ {l:List Oper} {i:Nat},fdst t l i=none→∀ o∈l,o.dst≠some t
 | [],_,_,_,h=>by cases h
 | o :: r,i,h,o',ho=>by
  unfold fdst at h
  split at h
  ·rename_i d hd
   split at h
   ·cases h
   ·rename_i e
    rcases List.mem_cons.1 ho with rfl | ho
    ·rw [hd]
     intro e2
     exact e (by rw [Option.some.inj e2]; exact Nat.beq_refl t)
    ·exact fdst_none h o' ho
  ·rename_i hd
   rcases List.mem_cons.1 ho with rfl | ho
   ·rw [hd]; simp
   ·exact fdst_none h o' ho
def evA (tm:List AV) (opsL:List Oper) (cl:List Nat) (i:Nat) (res:List AV):Operand→Option AV
 | .const v=>some (.val v)
 | .func f=>some (.fn f [] [])
 | .global _=>none
 | .tmp t=>match fdst t opsL 0 with
  | some j=>if Nat.blt j i then (if bitB (cl.getD i 0) j then res[j]? else none) else if Nat.beq j i || bitB (cl.getD j 0) i then tm[t]? else none
  | none=>tm[t]?
def guardA (opsL:List Oper) (cl:List Nat) (i:Nat) (res:List AV) (o:Oper):Option Bool:=match o.guard with
 | none=>some true
 | some (j,b)=>if Nat.blt j i && bitB (cl.getD i 0) j && ((opsL[j]?).bind (·.dst)).isSome then (match res[j]? with
  | some (.val (.bool c))=>some (c == b)
  | some (.val (.tuple vs))=>if vs.size == 0 then some false else none
  | _=>none) else none
def noMeet (a b:List Nat):Bool:=a.all fun x=>!memN x b
theorem noMeet_no {a b:List Nat} (h:noMeet a b=true) {x:Nat} (ha:x∈a) (hb:x∈b):False:=by
 have:=List.all_eq_true.1 h x ha
 rw [memN_iff.2 hb] at this
 cases this
def okConf (c:Nat) (R D:List Nat):List RC→Nat→Bool
 | [],_=>true
 | p :: r,j=>(bitB c j || (noMeet D p.1 && noMeet D (p.2.map (·.1)) && noMeet R (p.2.map (·.1)))) && okConf c R D r (j+1)
theorem okConf_get {c:Nat} {R D:List Nat}:∀ {l:List RC} {j0 j:Nat} {p:RC},okConf c R D l j0=true→l[j]? = some p→bitB c (j0+j)=true ∨ ((∀ x∈D,x ∉ p.1)∧(∀ x∈D,x ∉ p.2.map (·.1))∧∀ x∈R,x ∉ p.2.map (·.1))
 | [],_,_,_,_,h=>by simp at h
 | q :: r,j0,j,p,h,hj=>by
  unfold okConf at h
  rw [Bool.and_eq_true] at h
  cases j with
  | zero =>
   simp only [List.getElem?_cons_zero,Option.some.injEq] at hj
   subst hj
   have h1:=h.1
   rw [Bool.or_eq_true,Bool.and_eq_true,Bool.and_eq_true] at h1
   rcases h1 with h1 | h1
   ·exact .inl h1
   ·exact .inr ⟨fun x hx hy=>noMeet_no h1.1.1 hx hy,fun x hx hy=>noMeet_no h1.1.2 hx hy,fun x hx hy=>noMeet_no h1.2 hx hy⟩
  | succ j =>
   have:=okConf_get (j:=j) h.2 (by simpa using hj)
   rw [show j0+1+j=j0+(j+1) by omega] at this
   exact this
noncomputable def opsA (T:Tb) (cf:CallF) (tm:List AV) (opsL:List Oper) (cl:List Nat) (base n0:Nat):List Oper→Nat→List AV→HP→List RC→Option (List AV × HP × List RC)
 | [],_,res,H,rc=>some (res,H,rc)
 | o :: r,i,res,H,rc=>match guardA opsL cl i res o with
  | none=>none
  | some false=>opsA T cf tm opsL cl base n0 r (i+1) (res ++ [.val undef]) H (rc ++ [([],[])])
  | some true=>match opA T cf H n0 (base+16*i) (evA tm opsL cl i res) o.op with
   | none=>none
   | some p=>if okConf (cl.getD i 0) p.2.1 (p.2.2.map (·.1)) rc 0 then opsA T cf tm opsL cl base n0 r (i+1) (res ++ [p.1]) (p.2.2 ++ H) (rc ++ [(p.2.1,p.2.2)]) else none
def hsP (H0:HP) (rc:List RC):HP:=rc.foldl (fun H p=>p.2 ++ H) H0
theorem hsP_snoc (H0:HP) (rc:List RC) (p:RC):hsP H0 (rc ++ [p])=p.2 ++ hsP H0 rc:=by simp [hsP]
section
variable {T : Tb} {cf : CallF} {tm : List AV} {opsL : List Oper} {cl : List Nat} {base n0 : Nat} {H0 : HP}
def StepOK (T : Tb) (cf : CallF) (tm : List AV) (opsL : List Oper) (cl : List Nat) (base n0 : Nat) (H0 : HP) (res : List AV) (rc : List RC) (i : Nat) (o : Oper) : Prop :=
  ∃ r R U, res[i]? = some r ∧ rc[i]? = some (R, U) ∧ okConf (cl.getD i 0) R (U.map (·.1)) (rc.take i) 0 = true ∧
    ((guardA opsL cl i (res.take i) o = some true ∧ opA T cf (hsP H0 (rc.take i)) n0 (base + 16 * i) (evA tm opsL cl i (res.take i)) o.op = some (r, R, U)) ∨
     (guardA opsL cl i (res.take i) o = some false ∧ r = .val undef ∧ R = [] ∧ U = []))
theorem okConf_nil {c:Nat}:∀ (l:List RC) (j:Nat),okConf c [] [] l j=true
 | [],_=>rfl
 | _ :: r,j=>by unfold okConf; simp [noMeet,okConf_nil r (j+1)]
theorem opsA_spec:∀ {l:List Oper} {i:Nat} {res:List AV} {H:HP} {rc:List RC} {res':List AV} {H':HP} {rc':List RC},opsA T cf tm opsL cl base n0 l i res H rc=some (res',H',rc')→res.length=i→rc.length=i→H=hsP H0 rc →
  res'.length=i+l.length∧rc'.length=i+l.length∧H'=hsP H0 rc'∧(∃ t,res'=res ++ t)∧(∃ t,rc'=rc ++ t)∧∀ j o,l[j]? = some o→StepOK T cf tm opsL cl base n0 H0 res' rc' (i+j) o
 | [],i,res,H,rc,res',H',rc',h,h1,h2,h3=>by
  simp only [opsA,Option.some.injEq,Prod.mk.injEq] at h
  obtain ⟨rfl,rfl,rfl⟩:=h
  exact ⟨by simp [h1],by simp [h2],h3,⟨[],by simp⟩,⟨[],by simp⟩,fun j o e=>by simp at e⟩
 | o :: r,i,res,H,rc,res',H',rc',h,h1,h2,h3=>by
  unfold opsA at h
  have key:∀ (v:AV) (p:RC),opsA T cf tm opsL cl base n0 r (i+1) (res ++ [v]) (p.2 ++ H) (rc ++ [p])=some (res',H',rc')→okConf (cl.getD i 0) p.1 (p.2.map (·.1)) rc 0=true→((guardA opsL cl i res o=some true∧opA T cf H n0 (base+16*i) (evA tm opsL cl i res) o.op=some (v,p.1,p.2)) ∨ (guardA opsL cl i res o=some false∧v = .val undef∧p.1=[]∧p.2=[])) →
    res'.length=i+(r.length+1)∧rc'.length=i+(r.length+1)∧H'=hsP H0 rc'∧(∃ t,res'=res ++ t)∧(∃ t,rc'=rc ++ t)∧∀ j o',(o :: r)[j]? = some o'→StepOK T cf tm opsL cl base n0 H0 res' rc' (i+j) o':=fun v p hh hc hg=>by
   obtain ⟨k1,k2,k3,⟨t1,k4⟩,⟨t2,k5⟩,k6⟩:=opsA_spec hh (by simp [h1]) (by simp [h2]) (by rw [hsP_snoc,h3])
   refine ⟨by omega,by omega,k3,⟨[v] ++ t1,by rw [k4,List.append_assoc]⟩,⟨[p] ++ t2,by rw [k5,List.append_assoc]⟩,fun j o' e=>?_⟩
   cases j with
   | zero =>
    simp only [List.getElem?_cons_zero,Option.some.injEq] at e
    subst e
    have ht1:res'.take i=res:=by rw [k4,List.append_assoc,← h1,List.take_left]
    have ht2:rc'.take i=rc:=by rw [k5,List.append_assoc,← h2,List.take_left]
    refine ⟨v,p.1,p.2,?_,?_,by rw [Nat.add_zero,ht2]; exact hc,?_⟩
    ·rw [k4,List.append_assoc,Nat.add_zero,← h1,List.getElem?_append_right (Nat.le_refl _)]
     simp
    ·rw [k5,List.append_assoc,Nat.add_zero,← h2,List.getElem?_append_right (Nat.le_refl _)]
     simp
    ·rw [Nat.add_zero,ht1,ht2,← h3]
     exact hg
   | succ j =>
    have:=k6 j o' (by simpa using e)
    rw [show i+1+j=i+(j+1) by omega] at this
    exact this
  split at h
  ·cases h
  ·rename_i hg
   exact key (.val undef) ([],[]) h (okConf_nil rc 0) (.inr ⟨hg,rfl,rfl,rfl⟩)
  ·rename_i hg
   split at h
   ·cases h
   ·rename_i p hp
    split at h
    ·rename_i hc
     exact key _ _ h hc (.inl ⟨hg,hp⟩)
    ·cases h
end
structure IM (A:Nat→Prop) (ops:Array Oper) (tm:List AV) (cl:List Nat) (base:Nat) (H0:HP) (res:List AV) (rc:List RC) (a0:Act) (w1:World) (ρ1:Rho) (M1:Nat→Prop)
  (m:Array Bool) (a:Act) (w:World) (ρ:Rho) (M:Nat→Prop) (H:Nat→Option OB):Prop where
 size:a.tmps.size=tm.length
 defers:a.defers=[]
 low:∀ t,(∀ i,dstOf ops i=some t→m.getD i false=false)→a.tmps[t]? = a0.tmps[t]?
 len:m.size=ops.size
 closed:∀ i j,m.getD i false=true→bitB (cl.getD i 0) j=true→m.getD j false=true
 facts:∀ i d r,m.getD i false=true→dstOf ops i=some d→res[i]? = some r→∃ v,a.tmps[d]? = some v∧RV ρ M w r v
 heap:RH ρ M A w H
 hc:∀ o k,(∀ j R U,rc[j]? = some (R,U)→(∃ x∈U,x.1=o)→(m.getD j false=true ↔ j<k))→H o=lk (hsP H0 (rc.take k)) o
 dom:∀ o p,ρ o=some p→ρ1 o=some p ∨ ∃ j,j<ops.size∧m.getD j false=true∧base+16*j≤o∧o<base+16*j+16
 bnd:∀ b,M b→b<w.heap.size
 tr:Tr ρ1 M1 w1 ρ M w
 sup:∀ b,M1 b→M b
 mon:∀ b,M b→M1 b ∨ w1.heap.size≤b
 fr:FrA A w1 w
 kp:∀ o b g c,lk H0 o=some b→(∀ j R U,m.getD j false=true→rc[j]? = some (R,U)→∀ x∈U,x.1≠o)→ρ1 o=some (g,c)→w.heap[g]? = w1.heap[g]?
section
variable {T : Tb} {cf : CallF} {A : Nat → Prop} {ops : Array Oper} {tm : List AV} {cl : List Nat} {base n0 : Nat} {H0 : HP} {res : List AV} {rc : List RC} {a0 : Act} {w1 : World} {ρ1 : Rho} {M1 : Nat → Prop} {m : Array Bool} {a : Act} {w : World} {ρ : Rho} {M : Nat → Prop} {H : Nat → Option OB} {Q : Exit → Act → World → Prop}
theorem hsP_skip {o i:Nat}:∀ {k:Nat},i≤k→(∀ j R U,i≤j→j<k→rc[j]? = some (R,U)→∀ x∈U,x.1≠o)→lk (hsP H0 (rc.take k)) o=lk (hsP H0 (rc.take i)) o
 | 0,hk,_=>by rw [show i=0 by omega]
 | k+1,hk,h=>by
  by_cases e:i=k+1
  ·rw [e]
  ·have ih:=hsP_skip (k:=k) (by omega) fun j R U h1 h2=>h j R U h1 (by omega)
   rw [← ih]
   cases hr:rc[k]? with
   | none =>
    rw [List.take_of_length_le (by have:=List.getElem?_eq_none_iff.1 hr; omega),List.take_of_length_le (List.getElem?_eq_none_iff.1 hr)]
   | some p =>
    rw [List.take_add_one,hr,Option.toList_some,hsP_snoc,lk_append,upd_out fun x hx=>h k p.1 p.2 (by omega) (by omega) hr x hx]
theorem put_parts (hd1:dstsB ops=true) (hdl:∀ i d,dstOf ops i=some d→d<tm.length) (hI:IM A ops tm cl base H0 res rc a0 w1 ρ1 M1 m a w ρ M H) {i:Nat} (hi:i<ops.size) (hm:m.getD i false=false) {o:Oper} (ho:ops[i]? = some o) {r:AV} {v:Value} {ρ':Rho} {M':Nat→Prop} {w':World} (hr:res[i]? = some r) (ht:Tr ρ M w ρ' M' w') (hv:RV ρ' M' w' r v) :
  (a.put o.dst v).tmps.size=tm.length∧(a.put o.dst v).defers=[]∧(∀ t,(∀ j,dstOf ops j=some t→(m.setIfInBounds i true).getD j false=false)→(a.put o.dst v).tmps[t]? = a0.tmps[t]?) ∧
  (∀ j d r,(m.setIfInBounds i true).getD j false=true→dstOf ops j=some d→res[j]? = some r→∃ v',(a.put o.dst v).tmps[d]? = some v'∧RV ρ' M' w' r v'):=by
 have hdi:dstOf ops i=o.dst:=by unfold dstOf; rw [ho]; rfl
 have hset:(m.setIfInBounds i true).getD i false=true:=set_same (by rw [hI.len]; exact hi)
 cases hd:o.dst with
 | none =>
  rw [hd] at hdi
  refine ⟨hI.size,hI.defers,fun t h=>hI.low t fun j hj=>unset (h j hj),fun j d r' h1 h2 h3=>?_⟩
  rcases getD_set_cases h1 with rfl | h1
  ·rw [hdi] at h2; cases h2
  ·obtain ⟨v',e,k⟩:=hI.facts j d r' h1 h2 h3
   exact ⟨v',e,k.st ht⟩
 | some d0 =>
  rw [hd] at hdi
  have hlt:d0<a.tmps.size:=by rw [hI.size]; exact hdl i d0 hdi
  refine ⟨by simp [Act.put,hI.size],hI.defers,fun t h=>?_,fun j d r' h1 h2 h3=>?_⟩
  ·have hne:d0≠t:=fun e=>by
    have:=h i (by rw [hdi,e])
    rw [hset] at this
    cases this
   rw [get_put_ne v hne]
   exact hI.low t fun j hj=>unset (h j hj)
  ·rcases getD_set_cases h1 with rfl | h1
   ·rw [hdi] at h2
    obtain rfl:=Option.some.inj h2
    rw [hr] at h3
    obtain rfl:=Option.some.inj h3
    exact ⟨v,get_put_same v hlt,hv⟩
   ·obtain ⟨v',e,k⟩:=hI.facts j d r' h1 h2 h3
    refine ⟨v',?_,k.st ht⟩
    rw [get_put_ne v ?_]
    ·exact e
    ·rintro rfl
     have:=dsts_inj hd1 hdi h2
     subst this
     rw [hm] at h1
     cases h1
theorem im_step (hT:TbOK T) (hcf:CallOK cf) (hn0:n0=base+16*ops.size) (hd1:dstsB ops=true) (hdl:∀ i d,dstOf ops i=some d→d<tm.length) (h1d:∀ o p,ρ1 o=some p→o<base) (hA:∀ b,w1.heap.size≤b→A b)
  (hsl:∀ (t:Nat) (x:AV),tm[t]? = some x→∃ v,a0.tmps[t]? = some v∧RV ρ1 M1 w1 x v)
  (hall:∀ i o,ops[i]? = some o→StepOK T cf tm ops.toList cl base n0 H0 res rc i o)
  (hI:IM A ops tm cl base H0 res rc a0 w1 ρ1 M1 m a w ρ M H) {i:Nat} (hi:i<ops.size) (hm:m.getD i false=false) (hcl:∀ j,bitB (cl.getD i 0) j=true→m.getD j false=true) :
  wpOp Tryz.prog ops Q i (fun a' w'=>∃ ρ' M' H',IM A ops tm cl base H0 res rc a0 w1 ρ1 M1 (m.setIfInBounds i true) a' w' ρ' M' H') a w:=by
 obtain ⟨o,ho⟩:∃ o,ops[i]? = some o:=⟨_,Array.getElem?_eq_getElem hi⟩
 obtain ⟨r,R,U,hr,hrc,hconf,hcase⟩:=hall i o ho
 have hlen':(m.setIfInBounds i true).size=ops.size:=by rw [Array.size_setIfInBounds]; exact hI.len
 have hset:(m.setIfInBounds i true).getD i false=true:=set_same (by rw [hI.len]; exact hi)
 have hclosed':∀ x j,(m.setIfInBounds i true).getD x false=true→bitB (cl.getD x 0) j=true→(m.setIfInBounds i true).getD j false=true:=fun x j h1 h2=>by
  rcases getD_set_cases h1 with rfl | h1
  ·exact getD_set_true (hcl j h2)
  ·exact getD_set_true (hI.closed x j h1 h2)
 have hres:∀ j x,(res.take i)[j]? = some x→res[j]? = some x:=fun j x e=>by
  rw [List.getElem?_take] at e
  split at e
  ·exact e
  ·cases e
 have hguard:∀ b,guardA ops.toList cl i (res.take i) o=some b→Region.wanted o (yielded ops a.tmps)=b:=fun b hg=>by
  have:GuardIs ops a o.guard b:=by
   unfold guardA at hg
   split at hg
   ·rename_i e
    cases hg
    rw [e]
    exact guard_free
   ·rename_i j q e
    rw [e]
    split at hg
    ·rename_i hc
     rw [Bool.and_eq_true,Bool.and_eq_true] at hc
     obtain ⟨d,hd⟩:=Option.isSome_iff_exists.1 hc.2
     have hd:dstOf ops j=some d:=by
      unfold dstOf
      rw [← Array.getElem?_toList]
      exact hd
     have hmj:=hcl j hc.1.2
     split at hg
     ·rename_i c hrj
      cases hg
      obtain ⟨v,e1,e2⟩:=hI.facts j d _ hmj hd (hres j _ hrj)
      have e2:v = .bool c:=e2
      subst e2
      exact guard_at hd e1
     ·rename_i vs hrj
      split at hg
      ·rename_i hz
       cases hg
       obtain ⟨v,e1,e2⟩:=hI.facts j d _ hmj hd (hres j _ hrj)
       have e2:v = .tuple vs:=e2
       have hz:vs = #[]:=by
        apply Array.eq_empty_of_size_eq_zero
        simpa using hz
       rw [hz] at e2
       subst e2
       exact guard_undef hd e1
      ·cases hg
     ·cases hg
    ·cases hg
  exact this o rfl
 have noU:U=[]→∀ o k,(∀ j R U,rc[j]? = some (R,U)→(∃ x∈U,x.1=o)→((m.setIfInBounds i true).getD j false=true ↔ j<k))→H o=lk (hsP H0 (rc.take k)) o:=fun hU o k h=>hI.hc o k fun j R' U' h1 h2=>by
  rw [← h j R' U' h1 h2]
  have hne:i≠j:=by
   rintro rfl
   rw [hrc] at h1
   simp only [Option.some.injEq,Prod.mk.injEq] at h1
   obtain ⟨x,hx,_⟩:=h2
   rw [← h1.2,hU] at hx
   cases hx
  rw [getD_set_ne false hne]
 unfold wpOp
 simp only [ho]
 rcases hcase with ⟨hg,hop⟩ | ⟨hg,rfl,rfl,rfl⟩
 ·rw [if_pos (hguard _ hg)]
  left
  have hdom0:∀ o p,ρ o=some p→o<n0:=fun o p e=>by
   rcases hI.dom o p e with h | ⟨j,h1,h2,h3,h4⟩
   ·have:=h1d o p h; omega
   ·omega
  have hs:St0 ρ M A w (base+16*i) H:=by
   refine ⟨hI.heap,hI.bnd,fun o h1 h2=>?_,fun b hb=>hA b (by have:=hI.fr.size; omega)⟩
   cases e:ρ o with
   | none=>rfl
   | some p =>
    exfalso
    rcases hI.dom o p e with h | ⟨j,h3,h4,h5,h6⟩
    ·have:=h1d o p h; omega
    ·have:j=i:=by omega
     subst this
     rw [hm] at h4
     cases h4
  have hag:∀ o∈R,H o=lk (hsP H0 (rc.take i)) o:=fun o hoR=>hI.hc o i fun j R' U' h1 h2=>by
   obtain ⟨x,hx,rfl⟩:=h2
   have hxU:x.1∈U'.map (·.1):=List.mem_map.2 ⟨x,hx,rfl⟩
   rcases Nat.lt_trichotomy j i with hlt | rfl | hgt
   ·refine ⟨fun _=>hlt,fun _=>?_⟩
    have hj:(rc.take i)[j]? = some (R',U'):=by rw [List.getElem?_take,if_pos hlt]; exact h1
    rcases okConf_get hconf hj with hb | ⟨_,_,h3⟩
    ·rw [Nat.zero_add] at hb; exact hcl j hb
    ·exact absurd hxU (h3 _ hoR)
   ·rw [hm]
    exact ⟨fun h=>by (cases h),fun h=>by omega⟩
   ·refine ⟨fun hmj=>?_,fun h=>by omega⟩
    exfalso
    have hjlt:j<ops.size:=by
     rcases Nat.lt_or_ge j ops.size with h | h
     ·exact h
     ·have:m.getD j false=false:=by
       simp [Array.getD_eq_getD_getElem?,Array.getElem?_eq_none (by rw [hI.len]; exact h)]
      rw [this] at hmj; cases hmj
    obtain ⟨oj,hoj⟩:∃ o,ops[j]? = some o:=⟨_,Array.getElem?_eq_getElem hjlt⟩
    obtain ⟨_,Rj,Uj,_,hrcj,hconfj,_⟩:=hall j oj hoj
    rw [h1] at hrcj
    simp only [Option.some.injEq,Prod.mk.injEq] at hrcj
    obtain ⟨rfl,rfl⟩:=hrcj
    have hi':(rc.take j)[i]? = some (R,U):=by rw [List.getElem?_take,if_pos hgt]; exact hrc
    rcases okConf_get hconfj hi' with hb | ⟨h3,_,_⟩
    ·rw [Nat.zero_add] at hb
     have:=hI.closed j i hmj hb
     rw [hm] at this; cases this
    ·exact h3 _ hxU hoR
  have hev:∀ x y,evA tm ops.toList cl i (res.take i) x=some y→RV ρ M w y (a.eval x):=fun x y hx=>by
   have old:∀ t,tm[t]? = some y→(∀ j,dstOf ops j=some t→m.getD j false=false)→RV ρ M w y (a.eval (.tmp t)):=fun t h1 h2=>by
    obtain ⟨v,e1,e2⟩:=hsl t y h1
    rw [eval_of ((hI.low t h2).trans e1)]
    exact e2.st hI.tr
   unfold evA at hx
   split at hx
   ·cases hx; exact rfl
   ·cases hx
    show Rp ρ M w (.fn _ [] []) [_]
    unfold Rp
    exact ⟨#[],#[],rfl,by unfold Rps; rfl,by unfold Rps; rfl⟩
   ·cases hx
   ·rename_i t
    split at hx
    ·rename_i j hj
     obtain ⟨_,oj,e1,e2⟩:=fdst_some hj
     have hdj:dstOf ops j=some t:=by
      unfold dstOf
      rw [← Array.getElem?_toList]
      rw [Nat.sub_zero] at e1
      rw [e1]
      exact e2
     split at hx
     ·rename_i hlt
      split at hx
      ·rename_i hb
       obtain ⟨v,e3,e4⟩:=hI.facts j t y (hcl j hb) hdj (hres j y hx)
       rw [eval_of e3]
       exact e4
      ·cases hx
     ·split at hx
      ·rename_i hb
       refine old t hx fun j' hj'=>?_
       have:=dsts_inj hd1 hdj hj'
       subst this
       rw [Bool.or_eq_true] at hb
       rcases hb with hb | hb
       ·rw [Nat.eq_of_beq_eq_true hb]; exact hm
       ·cases hmj:m.getD j false with
        | false=>rfl
        | true=>have:=hI.closed j i hmj hb; rw [hm] at this; cases this
      ·cases hx
    ·rename_i hj
     refine old t hx fun j' hj'=>?_
     exfalso
     unfold dstOf at hj'
     rw [← Array.getElem?_toList] at hj'
     obtain ⟨o',e1,e2⟩:=Option.bind_eq_some_iff.1 hj'
     exact fdst_none hj o' (List.mem_of_getElem? e1) e2
  have hdoes:=opA_sound hT hcf hop hs hag hev hdom0 (by omega)
  refine hdoes.upon (fun v w' hp=>?_) rfl
  obtain ⟨ρ',M',ht,hv,hRH,hdm,hsup,hmon,hbnd,hfr,hkp⟩:=hp
  obtain ⟨p1,p2,p3,p4⟩:=put_parts hd1 hdl hI hi hm ho hr ht hv
  refine ⟨ρ',M',upd H U,p1,p2,p3,hlen',hclosed',p4,hRH,fun x k h=>?_,fun x p e=>?_,hbnd,hI.tr.trans ht,fun b h=>hsup b (hI.sup b h),fun b h=>?_,hI.fr.trans hfr,fun x b g c h1 h2 h3=>?_⟩
  ·by_cases hx:∃ y∈U,y.1=x
   ·have hik:i<k:=(h i R U hrc hx).1 hset
    have hskip:lk (hsP H0 (rc.take k)) x=lk (hsP H0 (rc.take (i+1))) x:=hsP_skip hik fun j R' U' h1 h2 h3 y hy=>by
     rintro rfl
     have hmj:=(h j R' U' h3 ⟨y,hy,rfl⟩).2 h2
     have hne:i≠j:=by omega
     rw [getD_set_ne false hne] at hmj
     have hjlt:j<ops.size:=by
      rcases Nat.lt_or_ge j ops.size with h | h
      ·exact h
      ·have:m.getD j false=false:=by
        simp [Array.getD_eq_getD_getElem?,Array.getElem?_eq_none (by rw [hI.len]; exact h)]
       rw [this] at hmj; cases hmj
     obtain ⟨oj,hoj⟩:∃ o,ops[j]? = some o:=⟨_,Array.getElem?_eq_getElem hjlt⟩
     obtain ⟨_,Rj,Uj,_,hrcj,hconfj,_⟩:=hall j oj hoj
     rw [h3] at hrcj
     simp only [Option.some.injEq,Prod.mk.injEq] at hrcj
     obtain ⟨rfl,rfl⟩:=hrcj
     have hi':(rc.take j)[i]? = some (R,U):=by rw [List.getElem?_take,if_pos (by omega)]; exact hrc
     rcases okConf_get hconfj hi' with hb | ⟨_,h5,_⟩
     ·rw [Nat.zero_add] at hb
      have:=hI.closed j i hmj hb
      rw [hm] at this; cases this
     ·obtain ⟨z,hz,e⟩:=hx
      exact h5 y.1 (List.mem_map.2 ⟨y,hy,rfl⟩) (List.mem_map.2 ⟨z,hz,e⟩)
    rw [hskip,List.take_add_one,hrc,Option.toList_some,hsP_snoc,lk_append]
    exact upd_in hx
   ·have hx':∀ y∈U,y.1≠x:=fun y hy e=>hx ⟨y,hy,e⟩
    rw [upd_out hx']
    refine hI.hc x k fun j R' U' h1 h2=>?_
    rw [← h j R' U' h1 h2]
    have hne:i≠j:=by
     rintro rfl
     rw [hrc] at h1
     simp only [Option.some.injEq,Prod.mk.injEq] at h1
     rw [← h1.2] at h2
     exact hx h2
    rw [getD_set_ne false hne]
  ·rcases hdm x p e with h | h
   ·rcases hI.dom x p h with h | ⟨j,h1,h2,h3⟩
    ·exact .inl h
    ·exact .inr ⟨j,h1,getD_set_true h2,h3⟩
   ·exact .inr ⟨i,hi,hset,h⟩
  ·rcases hmon b h with h | h
   ·exact hI.mon b h
   ·exact .inr (Nat.le_trans hI.fr.size h)
  ·have hUx:=h2 i R U hset hrc
   have hH:H x=some b:=by
    rw [hI.hc x 0 fun j R' U' h4 ⟨y,hy,e⟩=>⟨fun hmj=>absurd e (h2 j R' U' (getD_set_true hmj) h4 y hy),fun h=>by omega⟩]
    exact h1
   have hk:=hI.kp x b g c h1 (fun j R' U' h4 h5=>h2 j R' U' (getD_set_true h4) h5) h3
   exact (hkp x b g c hH hUx (hI.tr.ext _ _ h3)).trans hk
 ·rw [if_neg (by rw [hguard _ hg]; simp)]
  obtain ⟨p1,p2,p3,p4⟩:=put_parts (v:=undef) hd1 hdl hI hi hm ho hr (Tr.refl _ _ _) rfl
  refine ⟨ρ,M,H,p1,p2,p3,hlen',hclosed',p4,hI.heap,noU rfl,fun x p e=>?_,hI.bnd,hI.tr,hI.sup,hI.mon,hI.fr,fun x b g c h1 h2 h3=>hI.kp x b g c h1 (fun j R' U' h4 h5=>h2 j R' U' (getD_set_true h4) h5) h3⟩
  rcases hI.dom x p e with h | ⟨j,h1,h2,h3⟩
  ·exact .inl h
  ·exact .inr ⟨j,h1,getD_set_true h2,h3⟩
end
end Go.Proofs.YtgaehhapjnbieaaGreat
namespace Go.Proofs.YtgaehhapjnbieaaGreat
open Go.RowKit
variable [Env]
structure FS (A:Nat→Prop) (W0:World) (ρ0:Rho) (M0:Nat→Prop) (H0:HP) (n0:Nat) (s:Fm) (ρ:Rho) (M:Nat→Prop) (a:Act) (w:World):Prop where
 size:a.tmps.size=s.tm.length
 defers:a.defers=[]
 slots:∀ (t:Nat) (x:AV),s.tm[t]? = some x→∃ v,a.tmps[t]? = some v∧RV ρ M w x v
 heap:RH ρ M A w (lk s.H)
 dom:∀ o p,ρ o=some p→o<s.nx
 nx:n0≤s.nx
 bnd:∀ b,M b→b<w.heap.size
 fr:FrA A W0 w
 tr:Tr ρ0 M0 W0 ρ M w
 sup:∀ b,M0 b→M b
 mon:∀ b,M b→M0 b ∨ W0.heap.size≤b
 old:∀ o p,ρ o=some p→ρ0 o=some p ∨ n0≤o
 kp:∀ o,o<n0→(∀ x∈s.wr,x≠o)→lk s.H o=lk H0 o∧∀ b g c,lk H0 o=some b→ρ0 o=some (g,c)→w.heap[g]? = W0.heap[g]?
def tmN (opsL:List Oper) (res:List AV):List AV→Nat→List AV
 | [],_=>[]
 | a :: r,t=>(match fdst t opsL 0 with | some j=>res.getD j a | none=>a) :: tmN opsL res r (t+1)
theorem tmN_get {opsL:List Oper} {res:List AV}:∀ {l:List AV} {t k:Nat},(tmN opsL res l t)[k]? = (l[k]?).map fun a=>match fdst (t+k) opsL 0 with | some j=>res.getD j a | none=>a
 | [],_,_=>by simp [tmN]
 | a :: r,t,0=>by simp [tmN]
 | a :: r,t,k+1=>by
  unfold tmN
  rw [List.getElem?_cons_succ,tmN_get,List.getElem?_cons_succ,show t+1+k=t+(k+1) by omega]
theorem tmN_len {opsL:List Oper} {res:List AV}:∀ {l:List AV} {t:Nat},(tmN opsL res l t).length=l.length
 | [],_=>rfl
 | a :: r,t=>by simp [tmN,tmN_len]
def planA (draw:Bool) (ops:Array Oper) (cl:List Nat) (N:Nat):Bool:=dagB ops && dstsB ops && cloOK draw ops cl && ops.toList.all fun o=>match o.dst with | none=>true | some d=>Nat.blt d N
def domsOf:List RC→List Nat
 | []=>[]
 | p :: r=>p.2.map (·.1) ++ domsOf r
theorem domsOf_mem {x:Nat}:∀ {l:List RC} {p:RC},p∈l→x∈p.2.map (·.1)→x∈domsOf l
 | [],_,h,_=>by cases h
 | q :: r,p,h,hx=>by
  unfold domsOf
  rcases List.mem_cons.1 h with rfl | h
  ·exact List.mem_append.2 (.inl hx)
  ·exact List.mem_append.2 (.inr (domsOf_mem h hx))
noncomputable def regionA (T:Tb) (cf:CallF) (draw:Bool) (ops:Array Oper) (s:Fm):Option Fm:=
 if planA draw ops (cloG draw ops.toList 0 []) s.tm.length then
  match opsA T cf s.tm ops.toList (cloG draw ops.toList 0 []) s.nx (s.nx+16*ops.size) ops.toList 0 [] s.H [] with
  | some p=>some ⟨tmN ops.toList p.1 s.tm 0,p.2.1,s.nx+16*ops.size,s.wr ++ domsOf p.2.2⟩
  | none=>none
 else none
section
variable {T : Tb} {cf : CallF} {A : Nat → Prop} {W0 : World} {ρ0 : Rho} {M0 : Nat → Prop} {H0 : HP} {n0 : Nat} {s s' : Fm} {ρ1 : Rho} {M1 : Nat → Prop} {a0 : Act} {w1 : World} {ops : Array Oper} {draw : Bool} {Q : Exit → Act → World → Prop}
theorem any_gen {ops:Array Oper} {I:Array Bool→Act→World→Prop} (hdag:dagB ops=true) (hlen:∀ m a w,I m a w→m.size=ops.size)
  (hs:∀ m a w i,I m a w→i∈Region.ready .any ops m→wpOp Tryz.prog ops Q i (fun a' w'=>I (m.setIfInBounds i true) a' w') a w)
  (fin:∀ m a w,I m a w→(∀ i,i<ops.size→m.getD i false=true)→Q .normal a w) :
  ∀ (fuel:Nat) (m:Array Bool) (a:Act) (w:World),cnt ops.size m≤fuel→I m a w→wpAny Tryz.prog .any ops Q fuel m a w:=by
 intro fuel
 induction fuel with
 | zero =>
  intro m a w hc hI
  have hr:Region.ready .any ops m=[]:=by
   apply List.eq_nil_iff_forall_not_mem.2
   intro i hi
   obtain ⟨h0,o,ho,_⟩:=mem_ready.1 hi
   have:=cnt_set (Array.getElem?_eq_some_iff.1 ho).1 (hlen _ _ _ hI) h0
   omega
  exact ⟨hr,fin m a w hI (ready_nil hdag (hlen _ _ _ hI) hr)⟩
 | succ fuel ih =>
  intro m a w hc hI
  refine ⟨fun hr=>fin m a w hI (ready_nil hdag (hlen _ _ _ hI) hr),fun i hi=>?_⟩
  obtain ⟨h0,o,ho,_⟩:=mem_ready.1 hi
  have hlt:=(Array.getElem?_eq_some_iff.1 ho).1
  refine wpOp_mono (fun a' w' hI'=>ih _ a' w' ?_ hI') (hs m a w i hI hi)
  have:=cnt_set hlt (hlen _ _ _ hI) h0
  omega
theorem seq_gen {ops:Array Oper} {I:Array Bool→Act→World→Prop}
  (hs:∀ m a w i,i<ops.size→I m a w→(∀ j,m.getD j false=decide (j<i))→wpOp Tryz.prog ops Q i (fun a' w'=>I (m.setIfInBounds i true) a' w') a w) (hlen:∀ m a w,I m a w→m.size=ops.size)
  (fin:∀ m a w,I m a w→(∀ i,i<ops.size→m.getD i false=true)→Q .normal a w) :
  ∀ (j k:Nat) (m:Array Bool) (a:Act) (w:World),k+j=ops.size→(∀ i,m.getD i false=decide (i<k))→I m a w→wpOps Tryz.prog ops Q (List.range' k j) a w:=by
 intro j
 induction j with
 | zero =>
  intro k m a w hk hm hI
  exact fin m a w hI (fun i hi=>by rw [hm i]; simp; omega)
 | succ j ih =>
  intro k m a w hk hm hI
  rw [List.range'_succ,wpOps_cons]
  have hlt:k<ops.size:=by omega
  refine wpOp_mono (fun a' w' hI'=>ih (k+1) _ a' w' (by omega) (fun i=>?_) hI') (hs m a w k hlt hI hm)
  by_cases e:k=i
  ·subst e
   simp [Array.getD_eq_getD_getElem?,show k<m.size by rw [hlen _ _ _ hI]; exact hlt]
  ·rw [getD_set_ne false e,hm i]
   simp; omega
theorem region_sound (hT:TbOK T) (hcf:CallOK cf) {id:Nat} (h:regionA T cf draw ops s=some s') (hA:∀ b,W0.heap.size≤b→A b) (hF:FS A W0 ρ0 M0 H0 n0 s ρ1 M1 a0 w1) (k:∀ ρ M a w,FS A W0 ρ0 M0 H0 n0 s' ρ M a w→Q .normal a w):(Code.region id ops draw).wp Tryz.prog Q a0 w1:=by
 unfold regionA at h
 split at h
 ·rename_i hpl
  generalize cloG draw ops.toList 0 []=cl at h hpl
  unfold planA at hpl
  simp only [Bool.and_eq_true] at hpl
  obtain ⟨⟨⟨hdag,hdst⟩,hclo⟩,hdl⟩:=hpl
  have hdl':∀ i d,dstOf ops i=some d→d<s.tm.length:=fun i d e=>by
   unfold dstOf at e
   obtain ⟨o,h1,h2⟩:=Option.bind_eq_some_iff.1 e
   have:=List.all_eq_true.1 hdl o (by simpa using Array.mem_of_getElem? h1)
   have h2:o.dst=some d:=h2
   rw [h2] at this
   exact Nat.le_of_ble_eq_true this
  split at h
  ·rename_i p hp
   obtain ⟨res,H',rc⟩:=p
   cases h
   obtain ⟨k1,k2,k3,_,_,k6⟩:=opsA_spec (H0:=s.H) hp rfl rfl rfl
   simp only [Nat.zero_add] at k1 k2
   have hsz0:ops.toList.length=ops.size:=Array.length_toList
   rw [hsz0] at k1 k2
   have hall:∀ i o,ops[i]? = some o→StepOK T cf s.tm ops.toList cl s.nx (s.nx+16*ops.size) s.H res rc i o:=fun i o e=>by
    have:=k6 i o (by rw [Array.getElem?_toList]; exact e)
    rwa [Nat.zero_add] at this
   have hA1:∀ b,w1.heap.size≤b→A b:=fun b hb=>hA b (Nat.le_trans hF.fr.size hb)
   let I:Array Bool→Act→World→Prop:=fun m a w=>∃ ρ M H,IM A ops s.tm cl s.nx s.H res rc a0 w1 ρ1 M1 m a w ρ M H
   have hlen:∀ m a w,I m a w→m.size=ops.size:=fun m a w ⟨_,_,_,hI⟩=>hI.len
   have step:∀ m a w i,i<ops.size→m.getD i false=false→(∀ j,bitB (cl.getD i 0) j=true→m.getD j false=true)→I m a w→wpOp Tryz.prog ops Q i (fun a' w'=>I (m.setIfInBounds i true) a' w') a w:=fun m a w i hi hm hc ⟨ρ,M,H,hI⟩ =>
    im_step hT hcf rfl hdst hdl' hF.dom hA1 hF.slots hall hI hi hm hc
   have fin:∀ m a w,I m a w→(∀ i,i<ops.size→m.getD i false=true)→Q .normal a w:=fun m a w ⟨ρ,M,H,hI⟩ hm=>by
    have hrl:∀ j (p:RC),rc[j]? = some p→j<ops.size:=fun j p e=>by
     have:=(List.getElem?_eq_some_iff.1 e).1
     omega
    have hH:H=lk H':=funext fun o=>by
     have:=hI.hc o ops.size fun j R U h1 _=>⟨fun _=>hrl j _ h1,fun h=>hm j h⟩
     rw [this,k3,List.take_of_length_le (by omega)]
    refine k ρ M a w ⟨by rw [tmN_len]; exact hI.size,hI.defers,fun t x hx=>?_,by rw [← hH]; exact hI.heap,fun o p e=>?_,Nat.le_trans hF.nx (Nat.le_add_right _ _),hI.bnd,hF.fr.trans hI.fr,hF.tr.trans hI.tr,fun b hb=>hI.sup b (hF.sup b hb),fun b hb=>?_,fun o p e=>?_,fun o ho hw=>?_⟩
    ·rw [tmN_get,Nat.zero_add] at hx
     obtain ⟨y,hy,hx⟩:=Option.map_eq_some_iff.1 hx
     split at hx
     ·rename_i j hj
      obtain ⟨_,oj,e1,e2⟩:=fdst_some hj
      rw [Nat.sub_zero] at e1
      have hdj:dstOf ops j=some t:=by
       unfold dstOf
       rw [← Array.getElem?_toList,e1]
       exact e2
      have hjl:j<ops.size:=by
       have:=(List.getElem?_eq_some_iff.1 e1).1
       rwa [Array.length_toList] at this
      have hrj:res[j]? = some x:=by
       rw [← hx,List.getD_eq_getElem?_getD,List.getElem?_eq_getElem (by omega)]
       rfl
      exact hI.facts j t x (hm j hjl) hdj hrj
     ·rename_i hj
      subst hx
      obtain ⟨v,e1,e2⟩:=hF.slots t y hy
      refine ⟨v,(hI.low t fun i hi=>?_).trans e1,e2.st hI.tr⟩
      exfalso
      unfold dstOf at hi
      rw [← Array.getElem?_toList] at hi
      obtain ⟨o',e3,e4⟩:=Option.bind_eq_some_iff.1 hi
      exact fdst_none hj o' (List.mem_of_getElem? e3) e4
    ·rcases hI.dom o p e with h | ⟨j,h1,_,_,h2⟩
     ·have:=hF.dom o p h
      show o<s.nx+16*ops.size
      omega
     ·show o<s.nx+16*ops.size
      omega
    ·rcases hI.mon b hb with h | h
     ·exact hF.mon b h
     ·exact .inr (Nat.le_trans hF.fr.size h)
    ·rcases hI.dom o p e with h | ⟨j,h1,_,h2,_⟩
     ·exact hF.old o p h
     ·have:=hF.nx
      exact .inr (by omega)
    ·have hw1:∀ x∈s.wr,x≠o:=fun x hx=>hw x (List.mem_append.2 (.inl hx))
     have hw2:∀ (j:Nat) (R:List Nat) (U:HP),rc[j]? = some (R,U)→∀ x∈U,x.1≠o:=fun j R U h1 x hx=>hw x.1 (List.mem_append.2 (.inr (domsOf_mem (List.mem_of_getElem? h1) (List.mem_map.2 ⟨x,hx,rfl⟩))))
     obtain ⟨q1,q2⟩:=hF.kp o ho hw1
     have hsame:lk H' o=lk s.H o:=by
      have:=hsP_skip (H0:=s.H) (rc:=rc) (o:=o) (i:=0) (k:=rc.length) (Nat.zero_le _) fun j R U _ _ h1=>hw2 j R U h1
      rw [List.take_length] at this
      rw [k3,this]
      rfl
     refine ⟨hsame.trans q1,fun b g c e1 e2=>?_⟩
     exact (hI.kp o b g c (q1.trans e1) (fun j R U _ h1=>hw2 j R U h1) (hF.tr.ext _ _ e2)).trans (q2 b g c e1 e2)
   have start:∀ w,(w=w1 ∨ w=w1.drew)→I (Array.replicate ops.size false) a0 w:=fun w hw=>by
    have hheap:w.heap=w1.heap:=by rcases hw with rfl | rfl <;> rfl
    have hm:∀ i,(Array.replicate ops.size false).getD i false=false:=fun i=>by
     simp [Array.getD_eq_getD_getElem?,Array.getElem?_replicate]
     split <;> rfl
    have hg:Grow w1 w:=⟨by rw [hheap]; exact Nat.le_refl _,fun _ _ _ e=>by rw [hheap]; exact e,fun _ _ _ e=>by rw [hheap]; exact e⟩
    have ht:Tr ρ1 M1 w1 ρ1 M1 w:=⟨hg,fun _ _ _=>by rw [hheap],fun _ _ h=>h,fun _ _ h=>h⟩
    have hfr:FrA A w1 w:=by
     rcases hw with rfl | rfl
     ·exact FrA.refl _ _
     ·exact ⟨rfl,rfl,rfl,Nat.le_refl _,fun _ _ _=>rfl⟩
    refine ⟨ρ1,M1,lk s.H,hF.size,hF.defers,fun _ _=>rfl,by simp,fun i j hi=>(by rw [hm i] at hi; cases hi),fun i d r hi=>(by rw [hm i] at hi; cases hi),hF.heap.st ht (fun _ h=>h) fun _ _ _ _ _ _=>by rw [hheap],fun o kk hk=>?_,fun o p e=>.inl e,fun b hb=>by rw [hheap]; exact hF.bnd b hb,ht,fun _ h=>h,fun _ h=>.inl h,hfr,fun _ _ _ _ _ _ _=>by rw [hheap]⟩
    have:=hsP_skip (H0:=s.H) (rc:=rc) (o:=o) (i:=0) (k:=kk) (Nat.zero_le _) fun j R U _ h2 h1 x hx e=>by
     have:=(hk j R U h1 ⟨x,hx,e⟩).2 h2
     rw [hm] at this
     cases this
    rw [this]
    rfl
   have hcl:∀ i,i<ops.size→cl.getD i 0=if draw then orL cl (deps ops i) else 2 ^ i - 1:=fun i hi=>Nat.eq_of_beq_eq_true (List.all_eq_true.1 hclo i (List.mem_range.2 hi))
   cases draw with
   | true =>
    refine wp_region_any (by kernel_rfl) ?_
    refine any_gen (I:=I) hdag hlen (fun m a w i hI hr=>?_) fin _ _ _ _ ?_ (start w1.drew (.inr rfl))
    ·obtain ⟨ρ,M,H,hI'⟩:=hI
     refine step m a w i (lt_of_ready hr) (ready_not hr) (fun j hj=>?_) ⟨ρ,M,H,hI'⟩
     rw [hcl i (lt_of_ready hr)] at hj
     obtain ⟨x,hx,hj⟩:=orL_bit hj
     have hmx:=ready_dep hr hx
     rcases hj with rfl | hj
     ·exact hmx
     ·exact hI'.closed x j hmx hj
    ·unfold cnt
     exact Nat.le_trans (List.length_filter_le _ _) (by simp)
   | false =>
    refine wp_region ?_
    rw [List.range_eq_range']
    refine seq_gen (I:=I) (fun m a w i hi hI hm=>?_) hlen fin _ 0 (Array.replicate ops.size false) _ _ (by omega) (fun i=>?_) (start w1 (.inl rfl))
    ·refine step m a w i hi (by rw [hm]; simp) (fun j hj=>?_) hI
     rw [hcl i hi] at hj
     have hj:Nat.testBit (2 ^ i - 1) j=true:=hj
     rw [Nat.testBit_two_pow_sub_one] at hj
     rw [hm]
     exact hj
    ·simp [Array.getD_eq_getD_getElem?,Array.getElem?_replicate]
     split <;> rfl
  ·cases h
 ·cases h
end
inductive OutA where
 | fall (s:Fm)
 | ret (s:Fm)
 | exit (n:Nat) (s:Fm)
end Go.Proofs.YtgaehhapjnbieaaGreat
namespace Go.Proofs.YtgaehhapjnbieaaGreat
open Go.RowKit
variable [Env]
mutual
def renV (σ:Nat→Option Nat):AV→Option AV
 | .ptr o off=>(σ o).map fun o'=>.ptr o' off
 | .sl o off len cap=>(σ o).map fun o'=>.sl o' off len cap
 | .slx o c=>(σ o).map fun o'=>.slx o' c
 | .epx o c=>(σ o).map fun o'=>.epx o' c
 | .fn f a b=>match renL σ a,renL σ b with
  | some a',some b'=>some (.fn f a' b')
  | _,_=>none
 | .agg l=>(renL σ l).map .agg
 | .tup l=>(renL σ l).map .tup
 | .row n l=>(renL σ l).map (.row n)
 | .rptr l=>(renL σ l).map .rptr
 | a=>some a
def renL (σ:Nat→Option Nat):List AV→Option (List AV)
 | []=>some []
 | a :: l=>match renV σ a,renL σ l with
  | some a',some l'=>some (a' :: l')
  | _,_=>none
end
section
variable {σ : Nat → Option Nat} {ρ ρ' : Rho} {M M' : Nat → Prop} {w : World}
mutual
theorem renV_sound (hσ:∀ o o' p,σ o=some o'→ρ o=some p→ρ' o'=some p) (hM:∀ b,M' b→M b):∀ (a a':AV) (cs:List Value),renV σ a=some a'→Rp ρ M w a cs→Rp ρ' M' w a' cs
 | .val _,_,_,h,r=>by unfold renV at h; cases h; unfold Rp at r ⊢; exact r
 | .num _,_,_,h,r=>by unfold renV at h; cases h; unfold Rp at r ⊢; exact r
 | .rat _,_,_,h,r=>by unfold renV at h; cases h; unfold Rp at r ⊢; exact r
 | .rats _,_,_,h,r=>by
  unfold renV at h
  cases h
  unfold Rp at r ⊢
  obtain ⟨A,c,e,hc,r⟩:=r
  refine ⟨A,c,e,hc,fun h0=>?_⟩
  obtain ⟨g,off,xs,e1,m,s,ra,rc⟩:=r h0
  exact ⟨g,off,xs,e1,fun h=>m (hM _ h),s,ra,rc⟩
 | .row n l,_,_,h,r=>by
  unfold renV at h
  obtain ⟨l',hl,rfl⟩:=Option.map_eq_some_iff.1 h
  unfold Rp at r ⊢
  obtain ⟨A,c,e,hc,r⟩:=r
  refine ⟨A,c,e,hc,fun h0=>?_⟩
  obtain ⟨g,off,xs,e1,m,s,ra,rc⟩:=r h0
  exact ⟨g,off,xs,e1,fun h=>m (hM _ h),s,ra,renL_sound hσ hM l l' xs hl rc⟩
 | .rptr l,_,_,h,r=>by
  unfold renV at h
  obtain ⟨l',hl,rfl⟩:=Option.map_eq_some_iff.1 h
  unfold Rp at r ⊢
  obtain ⟨g,off,xs,e1,m,s,ra,rc⟩:=r
  exact ⟨g,off,xs,e1,fun h=>m (hM _ h),s,ra,renL_sound hσ hM l l' xs hl rc⟩
 | .ptr o off,_,_,h,r=>by
  unfold renV at h
  obtain ⟨o',ho,rfl⟩:=Option.map_eq_some_iff.1 h
  unfold Rp at r ⊢
  obtain ⟨g,c,e,k⟩:=r
  exact ⟨g,c,hσ _ _ _ ho e,k⟩
 | .sl o _ _ _,_,_,h,r=>by
  unfold renV at h
  obtain ⟨o',ho,rfl⟩:=Option.map_eq_some_iff.1 h
  unfold Rp at r ⊢
  obtain ⟨g,c,k,e,r⟩:=r
  exact ⟨g,c,k,hσ _ _ _ ho e,r⟩
 | .fn f a b,_,_,h,r=>by
  unfold renV at h
  split at h
  ·rename_i a' b' ha hb
   cases h
   unfold Rp at r ⊢
   obtain ⟨xs,ys,e,r1,r2⟩:=r
   exact ⟨xs,ys,e,renL_sound hσ hM a a' _ ha r1,renL_sound hσ hM b b' _ hb r2⟩
  ·cases h
 | .ext _ _ c,_,_,h,r=>by
  unfold renV at h
  cases h
  unfold Rp at r ⊢
  exact ⟨r.1,(Env.X c).st _ _ _ _ _ (Grow.refl w) (fun _ _ _=>rfl) (fun b _ h=>hM b h) r.2⟩
 | .slx o _,_,_,h,r=>by
  unfold renV at h
  obtain ⟨o',ho,rfl⟩:=Option.map_eq_some_iff.1 h
  unfold Rp at r ⊢
  obtain ⟨g,k,cc,e,r⟩:=r
  exact ⟨g,k,cc,hσ _ _ _ ho e,r⟩
 | .epx o _,_,_,h,r=>by
  unfold renV at h
  obtain ⟨o',ho,rfl⟩:=Option.map_eq_some_iff.1 h
  unfold Rp at r ⊢
  obtain ⟨g,cc,e,r⟩:=r
  exact ⟨g,cc,hσ _ _ _ ho e,r⟩
 | .any,_,_,_,r=>by unfold Rp at r; exact r.elim
 | .agg _,_,_,_,r=>by unfold Rp at r; exact r.elim
 | .tup _,_,_,_,r=>by unfold Rp at r; exact r.elim
theorem renL_sound (hσ:∀ o o' p,σ o=some o'→ρ o=some p→ρ' o'=some p) (hM:∀ b,M' b→M b):∀ (l l':List AV) (cs:List Value),renL σ l=some l'→Rps ρ M w l cs→Rps ρ' M' w l' cs
 | [],_,_,h,r=>by unfold renL at h; cases h; unfold Rps at r ⊢; exact r
 | a :: l,_,_,h,r=>by
  unfold renL at h
  split at h
  ·rename_i a' l' ha hl
   cases h
   unfold Rps at r ⊢
   obtain ⟨x,y,e,r1,r2⟩:=r
   exact ⟨x,y,e,renV_sound hσ hM a a' x ha r1,renL_sound hσ hM l l' y hl r2⟩
  ·cases h
end
theorem ren_rv1 (hσ:∀ o o' p,σ o=some o'→ρ o=some p→ρ' o'=some p) (hM:∀ b,M' b→M b) {a a':AV} {v:Value} (h:renV σ a=some a') (r:RV1 ρ M w a v):RV1 ρ' M' w a' v:=by
 have plain:Rp ρ M w a [v]→(∀ x:AV,renV σ a=some x→Rp ρ' M' w x [v]→RV1 ρ' M' w x v)→RV1 ρ' M' w a' v:=fun r k=>k a' h (renV_sound hσ hM a a' _ h r)
 cases a with
 | any=>unfold renV at h; cases h; trivial
 | val u=>unfold renV at h; cases h; exact r
 | num z =>
  obtain ⟨cs,e,r⟩:=r
  have:=renV_sound hσ hM _ _ _ h r
  unfold renV at h
  cases h
  exact ⟨cs,e,this⟩
 | rat q =>
  obtain ⟨cs,e,r⟩:=r
  have:=renV_sound hσ hM _ _ _ h r
  unfold renV at h
  cases h
  exact ⟨cs,e,this⟩
 | agg l =>
  obtain ⟨cs,e,r⟩:=r
  unfold renV at h
  obtain ⟨l',hl,rfl⟩:=Option.map_eq_some_iff.1 h
  exact ⟨cs,e,renL_sound hσ hM l l' _ hl r⟩
 | tup l=>exact r.elim
 | ext n ag c =>
  cases ag with
  | true =>
   obtain ⟨cs,e,r⟩:=r
   have:=renV_sound hσ hM _ _ _ h r
   unfold renV at h
   cases h
   exact ⟨cs,e,this⟩
  | false=>exact plain r fun x hx k=>by unfold renV at hx; cases hx; exact k
 | slx o c=>exact plain r fun x hx k=>by unfold renV at hx; obtain ⟨_,_,rfl⟩:=Option.map_eq_some_iff.1 hx; exact k
 | epx o c=>exact plain r fun x hx k=>by unfold renV at hx; obtain ⟨_,_,rfl⟩:=Option.map_eq_some_iff.1 hx; exact k
 | rats l=>exact plain r fun x hx k=>by unfold renV at hx; cases hx; exact k
 | row n l=>exact plain r fun x hx k=>by unfold renV at hx; obtain ⟨_,_,rfl⟩:=Option.map_eq_some_iff.1 hx; exact k
 | rptr l=>exact plain r fun x hx k=>by unfold renV at hx; obtain ⟨_,_,rfl⟩:=Option.map_eq_some_iff.1 hx; exact k
 | ptr o off=>exact plain r fun x hx k=>by unfold renV at hx; obtain ⟨_,_,rfl⟩:=Option.map_eq_some_iff.1 hx; exact k
 | sl o off len cap=>exact plain r fun x hx k=>by unfold renV at hx; obtain ⟨_,_,rfl⟩:=Option.map_eq_some_iff.1 hx; exact k
 | fn f a b =>
  exact plain r fun x hx k=>by
   unfold renV at hx
   split at hx
   ·cases hx; exact k
   ·cases hx
theorem CellsB.ren (hσ:∀ o o' p,σ o=some o'→ρ o=some p→ρ' o'=some p) (hM:∀ b,M' b→M b) {b:OB} {l:List AV} {cs:List Value} (h:renL σ b.cs=some l) (r:CellsB ρ M w b cs):CellsB ρ' M' w { b with cs:=l } cs:=by
 unfold CellsB at r ⊢
 split at r
 ·rename_i hb
  simp only [hb]
  exact renL_sound hσ hM _ _ _ h r
 ·rename_i c hb
  simp only [hb]
  exact (Env.B c).st _ _ _ _ _ (Grow.refl w) (fun _ _ _=>rfl) (fun b _ h=>hM b h) r
theorem ren_rvs (hσ:∀ o o' p,σ o=some o'→ρ o=some p→ρ' o'=some p) (hM:∀ b,M' b→M b):∀ {l l':List AV} {vs:List Value},renL σ l=some l'→RVs ρ M w l vs→RVs ρ' M' w l' vs
 | [],_,_,h,r=>by unfold renL at h; cases h; exact r
 | a :: l,_,_,h,r=>by
  unfold renL at h
  split at h
  ·rename_i a' l' ha hl
   cases h
   obtain ⟨v,vr,e,r1,r2⟩:=r
   exact ⟨v,vr,e,ren_rv1 hσ hM ha r1,ren_rvs hσ hM hl r2⟩
  ·cases h
theorem ren_rv (hσ:∀ o o' p,σ o=some o'→ρ o=some p→ρ' o'=some p) (hM:∀ b,M' b→M b) {a a':AV} {v:Value} (h:renV σ a=some a') (r:RV ρ M w a v):RV ρ' M' w a' v:=by
 cases a with
 | tup l =>
  obtain ⟨vs,e,r⟩:=r
  unfold renV at h
  obtain ⟨l',hl,rfl⟩:=Option.map_eq_some_iff.1 h
  exact ⟨vs,e,ren_rvs hσ hM hl r⟩
 | _=>exact (ren_rv1 hσ hM h r).rv
end
def idxN (o:Nat):List Nat→Nat→Option Nat
 | [],_=>none
 | x :: l,i=>if Nat.beq x o then some i else idxN o l (i+1)
theorem idxN_get {o:Nat}:∀ {l:List Nat} {i j:Nat},idxN o l i=some j→i≤j∧l[j - i]? = some o
 | [],_,_,h=>by cases h
 | x :: l,i,j,h=>by
  unfold idxN at h
  split at h
  ·rename_i e
   cases h
   have:=Nat.eq_of_beq_eq_true e
   simp [this]
  ·obtain ⟨h1,h2⟩:=idxN_get h
   refine ⟨by omega,?_⟩
   rw [show j - i=(j - (i+1))+1 by omega]
   exact h2
def sgm (n0 t0:Nat) (L:List Nat) (o:Nat):Option Nat:=if Nat.blt o n0 then some o else (idxN o L 0).map (t0 + ·)
def reachN (H:HP) (n0:Nat):Nat→List Nat→List Nat→Option (List Nat)
 | _,[],acc=>some acc
 | 0,_ :: _,_=>none
 | k+1,o :: r,acc=>if Nat.blt o n0 || memN o acc then reachN H n0 k r acc else match lk H o with
  | some b=>reachN H n0 k (idsL b.cs ++ r) (acc ++ [o])
  | none=>none
def packO (σ:Nat→Option Nat) (H:HP) (o:Nat):Option (Option OB):=match lk H o with
 | none=>some none
 | some b=>(renL σ b.cs).map fun l=>some { b with cs:=l }
def packW (σ:Nat→Option Nat) (H H0:HP):List Nat→Option HP
 | []=>some []
 | o :: r=>match lk H0 o,packO σ H o,packW σ H H0 r with
  | some _,some e,some l=>some ((o,e) :: l)
  | _,_,_=>none
def packN (σ:Nat→Option Nat) (H:HP) (t0:Nat):List Nat→Nat→Option HP
 | [],_=>some []
 | o :: r,i=>match packO σ H o,packN σ H t0 r (i+1) with
  | some (some b),some l=>some ((t0+i,some b) :: l)
  | _,_=>none
def nodupN:List Nat→Bool
 | []=>true
 | x :: l=>!memN x l && nodupN l
def dedupN (n0:Nat):List Nat→List Nat
 | []=>[]
 | x :: l=>if Nat.blt x n0 && !memN x (dedupN n0 l) then x :: dedupN n0 l else dedupN n0 l
theorem dedupN_mem {n0 o:Nat}:∀ {l:List Nat},o∈l→o<n0→o∈dedupN n0 l
 | [],h,_=>by cases h
 | x :: l,h,hn=>by
  unfold dedupN
  split
  ·rcases List.mem_cons.1 h with rfl | h
   ·exact List.mem_cons_self ..
   ·exact List.mem_cons_of_mem _ (dedupN_mem h hn)
  ·rename_i hc
   rcases List.mem_cons.1 h with rfl | h
   ·have hb:Nat.blt o n0=true:=by simpa [Nat.blt] using Nat.ble_eq_true_of_le hn
    rw [hb,Bool.true_and] at hc
    have:memN o (dedupN n0 l)=true:=by
     cases e:memN o (dedupN n0 l) with
     | true=>rfl
     | false=>rw [e] at hc; exact absurd rfl hc
    exact memN_iff.1 this
   ·exact dedupN_mem h hn
def contents (H:HP):List Nat→List Nat
 | []=>[]
 | o :: r=>(match lk H o with | some b=>idsL b.cs | none=>[]) ++ contents H r
def packA (H0:HP) (n0 t0:Nat) (s:Fm) (r:AV):Option (AV × HP):=match reachN s.H n0 400 (idsV r ++ contents s.H (dedupN n0 s.wr)) [] with
 | none=>none
 | some L=>if Nat.ble L.length 16 && nodupN L && (L.all fun o=>Nat.ble n0 o) then (match renV (sgm n0 t0 L) r,packN (sgm n0 t0 L) s.H t0 L 0,packW (sgm n0 t0 L) s.H H0 (dedupN n0 s.wr) with
  | some r',some U2,some U1=>some (r',U2 ++ U1)
  | _,_,_=>none) else none
theorem nodupN_get:∀ {l:List Nat} {i j x:Nat},nodupN l=true→l[i]? = some x→l[j]? = some x→i=j
 | [],_,_,_,_,h,_=>by simp at h
 | y :: l,i,j,x,hn,h1,h2=>by
  unfold nodupN at hn
  rw [Bool.and_eq_true,Bool.not_eq_true'] at hn
  have hno:∀ k,l[k]? = some y→False:=fun k e=>by
   have:=memN_iff.2 (List.mem_of_getElem? e)
   rw [hn.1] at this
   cases this
  cases i with
  | zero =>
   simp at h1
   subst h1
   cases j with
   | zero=>rfl
   | succ j=>exact (hno j (by simpa using h2)).elim
  | succ i =>
   cases j with
   | zero =>
    simp at h2
    subst h2
    exact (hno i (by simpa using h1)).elim
   | succ j=>exact congrArg (· + 1) (nodupN_get (x:=x) hn.2 (by simpa using h1) (by simpa using h2))
section
variable {σ : Nat → Option Nat} {H H0 : HP} {K : Nat → Option OB} {n0 t0 : Nat}
theorem packO_some {o:Nat} {b:OB} (h:packO σ H o=some (some b)):∃ b0 l,lk H o=some b0∧renL σ b0.cs=some l∧b = { b0 with cs:=l }:=by
 unfold packO at h
 split at h
 ·cases h
 ·rename_i b0 hb
  obtain ⟨l,hl,e⟩:=Option.map_eq_some_iff.1 h
  exact ⟨b0,l,hb,hl,(Option.some.inj e).symm⟩
theorem packN_upd:∀ {L:List Nat} {i:Nat} {U:HP},packN σ H t0 L i=some U→∀ o,(∃ j x b,o=t0+i+j∧L[j]? = some x∧packO σ H x=some (some b)∧upd K U o=some b) ∨ ((∀ j,j<L.length→o≠t0+i+j)∧upd K U o=K o∧∀ y∈U,y.1≠o)
 | [],i,U,h,o=>by
  unfold packN at h
  cases h
  exact .inr ⟨fun j hj=>by simp at hj,rfl,fun y hy=>by cases hy⟩
 | x :: L,i,U,h,o=>by
  unfold packN at h
  split at h
  ·rename_i b l hb hl
   cases h
   by_cases ho:t0+i=o
   ·refine .inl ⟨0,x,b,by omega,rfl,hb,?_⟩
    simp only [upd]
    rw [if_pos (by simpa using ho)]
   ·have hne:upd K ((t0+i,some b) :: l) o=upd K l o:=by
     simp only [upd]
     rw [if_neg (by simpa using ho)]
    rcases packN_upd hl o with ⟨j,x',b',e1,e2,e3,e4⟩ | ⟨e1,e2,e3⟩
    ·exact .inl ⟨j+1,x',b',by omega,by simpa using e2,e3,by rw [hne]; exact e4⟩
    ·refine .inr ⟨fun j hj=>?_,by rw [hne]; exact e2,fun y hy=>?_⟩
     ·cases j with
      | zero=>omega
      | succ j=>have:=e1 j (by simpa using hj); omega
     ·rcases List.mem_cons.1 hy with rfl | hy
      ·exact ho
      ·exact e3 y hy
  ·cases h
theorem packW_upd:∀ {W:List Nat} {U:HP},packW σ H H0 W=some U→∀ o,(o∈W∧(∃ b0,lk H0 o=some b0)∧∃ e,packO σ H o=some e∧upd K U o=e) ∨ (o ∉ W∧upd K U o=K o)
 | [],U,h,o=>by
  unfold packW at h
  cases h
  exact .inr ⟨by simp,rfl⟩
 | x :: W,U,h,o=>by
  unfold packW at h
  split at h
  ·rename_i b0 e l hb he hl
   cases h
   by_cases ho:x=o
   ·subst ho
    refine .inl ⟨by simp,⟨b0,hb⟩,e,he,?_⟩
    simp only [upd]
    rw [if_pos (by simp)]
   ·have hne:upd K ((x,e) :: l) o=upd K l o:=by
     simp only [upd]
     rw [if_neg (by simpa using ho)]
    rcases packW_upd hl o with ⟨e1,e2,e3,e4,e5⟩ | ⟨e1,e2⟩
    ·exact .inl ⟨by simp [e1],e2,e3,e4,by rw [hne]; exact e5⟩
    ·exact .inr ⟨by simp [e1,Ne.symm ho],by rw [hne]; exact e2⟩
  ·cases h
theorem packW_dom:∀ {W:List Nat} {U:HP},packW σ H H0 W=some U→∀ o∈W,∃ x∈U,x.1=o
 | [],_,_,_,h=>by cases h
 | x :: W,U,h,o,ho=>by
  unfold packW at h
  split at h
  ·rename_i b0 e l hb he hl
   cases h
   rcases List.mem_cons.1 ho with rfl | ho
   ·exact ⟨_,List.mem_cons_self ..,rfl⟩
   ·obtain ⟨y,hy,e⟩:=packW_dom hl o ho
    exact ⟨y,List.mem_cons_of_mem _ hy,e⟩
  ·cases h
end
theorem upd_app {K:Nat→Option OB} (U V:HP) (o:Nat):upd K (U ++ V) o=upd (upd K V) U o:=by
 induction U with
 | nil=>rfl
 | cons x r ih=>simp only [List.cons_append,upd,ih]
section
variable {A : Nat → Prop} {W0 : World} {ρ0 : Rho} {M0 : Nat → Prop} {H0 : HP} {n0 t0 : Nat} {s : Fm} {ρ : Rho} {M : Nat → Prop} {a : Act} {w : World}
theorem pack_post {r r':AV} {U:HP} {v:Value} (hs:St0 ρ0 M0 A W0 t0 (lk H0)) (hd:∀ o p,ρ0 o=some p→o<n0) (hF:FS A W0 ρ0 M0 H0 n0 s ρ M a w) (hv:RV ρ M w r v) (h:packA H0 n0 t0 s r=some (r',U)):Post ρ0 M0 A W0 t0 (lk H0) U r' v w:=by
 unfold packA at h
 split at h
 ·cases h
 ·rename_i L _
  split at h
  ·rename_i hc
   simp only [Bool.and_eq_true] at hc
   obtain ⟨⟨hL16,hnd⟩,hge⟩:=hc
   have hL16:L.length≤16:=Nat.le_of_ble_eq_true hL16
   have hge:∀ x∈L,n0≤x:=fun x hx=>Nat.le_of_ble_eq_true (List.all_eq_true.1 hge x hx)
   split at h
   ·rename_i rr U2 U1 hr h2 h1
    cases h
    let ρ':Rho:=fun o=>if t0≤o∧o<t0+L.length then (L[o - t0]?).bind ρ else ρ0 o
    let M':Nat→Prop:=fun b=>M0 b ∨ ∃ x∈L,∃ c,ρ x=some (b,c)∧M b
    have hout:∀ o p,ρ0 o=some p→ρ' o=some p:=fun o p e=>by
     show (if t0≤o∧o<t0+L.length then (L[o - t0]?).bind ρ else ρ0 o)=some p
     rw [if_neg]
     ·exact e
     ·rintro ⟨k1,k2⟩
      rw [hs.new o k1 (by omega)] at e
      cases e
    have hin:∀ j x,L[j]? = some x→ρ' (t0+j)=ρ x:=fun j x e=>by
     show (if t0≤t0+j∧t0+j<t0+L.length then (L[t0+j - t0]?).bind ρ else ρ0 (t0+j))=ρ x
     have:=(List.getElem?_eq_some_iff.1 e).1
     rw [if_pos ⟨by omega,by omega⟩,show t0+j - t0=j by omega,e]
     rfl
    have hσ:∀ o o' p,sgm n0 t0 L o=some o'→ρ o=some p→ρ' o'=some p:=fun o o' p e1 e2=>by
     unfold sgm at e1
     split at e1
     ·rename_i hlt
      cases e1
      have hlt:o<n0:=Nat.le_of_ble_eq_true hlt
      rcases hF.old o p e2 with h | h
      ·exact hout o p h
      ·omega
     ·obtain ⟨j,hj,rfl⟩:=Option.map_eq_some_iff.1 e1
      obtain ⟨_,hj⟩:=idxN_get hj
      rw [hin j o (by simpa using hj)]
      exact e2
    have hM:∀ b,M' b→M b:=fun b h=>by
     rcases h with h | ⟨x,_,c,_,h⟩
     ·exact hF.sup b h
     ·exact h
    have ht:Tr ρ0 M0 W0 ρ' M' w:=⟨hF.tr.grow,hF.tr.keep,fun b hb h=>hF.tr.mono b hb (hM b h),hout⟩
    have hWn:∀ o,o<n0→o ∉ dedupN n0 s.wr→∀ x∈s.wr,x≠o:=fun o ho hn x hx e=>hn (dedupN_mem (e ▸ hx) ho)
    have src:∀ o b,upd (lk H0) (U2 ++ U1) o=some b→∃ y b0 g c arr cs,lk s.H y=some b0∧ObOK ρ M A w y b0 g c arr cs∧ObOK ρ' M' A w o b g c arr cs∧((n0≤y∧∃ j,o=t0+j∧L[j]? = some y) ∨ (y<n0∧y=o)):=fun o b e=>by
     rw [upd_app] at e
     rcases packN_upd (K:=upd (lk H0) U1) h2 o with ⟨j,x,b',e1,e2,e3,e4⟩ | ⟨e1,e2,_⟩
     ·rw [e4] at e
      obtain rfl:=Option.some.inj e
      obtain ⟨b0,l,k1,k2,rfl⟩:=packO_some e3
      obtain ⟨g,c,arr,cs,k⟩:=hF.heap.obj x b0 k1
      have hxm:=List.mem_of_getElem? e2
      refine ⟨x,b0,g,c,arr,cs,k1,k,⟨?_,.inr ⟨x,hxm,c,k.at_,k.mut_⟩,k.own,k.blk,k.ty,k.cells.ren hσ hM k2,k.pre,k.cap⟩,.inl ⟨hge x hxm,j,by omega,e2⟩⟩
      rw [e1,Nat.add_zero,hin j x e2]
      exact k.at_
     ·rw [e2] at e
      rcases packW_upd (K:=lk H0) h1 o with ⟨k1,⟨b1,k2⟩,e',k3,k4⟩ | ⟨k1,k2⟩
      ·rw [k4] at e
       subst e
       obtain ⟨b0,l,q1,q2,rfl⟩:=packO_some k3
       obtain ⟨g0,c0,arr0,cs0,kk⟩:=hs.heap.obj o b1 k2
       have hlt:o<n0:=hd o _ kk.at_
       obtain ⟨g,c,arr,cs,k⟩:=hF.heap.obj o b0 q1
       have hg:(g,c)=(g0,c0):=by
        have:=hF.tr.ext _ _ kk.at_
        rw [k.at_] at this
        exact Option.some.inj this
       simp only [Prod.mk.injEq] at hg
       refine ⟨o,b0,g,c,arr,cs,q1,k,⟨?_,.inl (by rw [hg.1]; exact kk.mut_),k.own,k.blk,k.ty,k.cells.ren hσ hM q2,k.pre,k.cap⟩,.inr ⟨hlt,rfl⟩⟩
       rw [hg.1,hg.2]
       exact hout _ _ kk.at_
      ·rw [k2] at e
       obtain ⟨g0,c0,arr0,cs0,kk⟩:=hs.heap.obj o b e
       have hlt:o<n0:=hd o _ kk.at_
       obtain ⟨q1,q2⟩:=hF.kp o hlt (hWn o hlt k1)
       have hb:=q2 b g0 c0 e kk.at_
       exact ⟨o,b,g0,c0,arr0,cs0,q1.trans e,kk.st hF.tr (hF.sup g0) hb,kk.st ht .inl hb,.inr ⟨hlt,rfl⟩⟩
    refine ⟨ρ',M',ht,ren_rv hσ hM hr hv,⟨fun o b e=>?_,fun o o' b b' g c c' e e' q q'=>?_⟩,fun o p e=>?_,fun _=>.inl,fun b h=>hF.mon b (hM b h),fun b h=>hF.bnd b (hM b h),hF.fr,fun o b g c e1 e2 e3=>?_⟩
    ·obtain ⟨y,b0,g,c,arr,cs,_,_,k,_⟩:=src o b e
     exact ⟨g,c,arr,cs,k⟩
    ·obtain ⟨y,b0,g1,c1,arr,cs,l1,k1,k2,k3⟩:=src o b e
     obtain ⟨y',b0',g1',c1',arr',cs',l1',k1',k2',k3'⟩:=src o' b' e'
     have e1:=k2.at_
     have e1':=k2'.at_
     rw [q] at e1
     rw [q'] at e1'
     simp only [Option.some.injEq,Prod.mk.injEq] at e1 e1'
     have hy:y=y':=hF.heap.inj y y' b0 b0' g1 c1 c1' l1 l1' k1.at_ (by rw [k1'.at_,← e1'.1,e1.1])
     subst hy
     rcases k3 with ⟨n1,j,rfl,hj⟩ | ⟨n1,rfl⟩ <;> rcases k3' with ⟨n1',j',rfl,hj'⟩ | ⟨n1',h⟩
     ·rw [nodupN_get hnd hj hj']
     ·omega
     ·omega
     ·exact h
    ·by_cases ho:t0≤o∧o<t0+L.length
     ·exact .inr ⟨ho.1,by omega⟩
     ·refine .inl ?_
      have:ρ' o=ρ0 o:=if_neg ho
      rw [← this]
      exact e
    ·obtain ⟨g0,c0,arr0,cs0,kk⟩:=hs.heap.obj o b e1
     have hlt:o<n0:=hd o _ kk.at_
     refine (hF.kp o hlt (hWn o hlt fun hm=>?_)).2 b g c e1 e3
     obtain ⟨x,hx,e⟩:=packW_dom h1 o hm
     exact e2 x (List.mem_append.2 (.inr hx)) e
   ·cases h
  ·cases h
end
end Go.Proofs.YtgaehhapjnbieaaGreat
namespace Go.Proofs.YtgaehhapjnbieaaGreat
open Go.RowKit
variable [Env]
noncomputable def fnOf (f:Nat):Option Func:=Tryz.prog.funcs[f]?
noncomputable def loadR (H:HP) (a:AV) (T:TypeId):Option AV:=do
 let p ← place H a
 let n ← tySz T
 let l ← takeC n p.1
 mkT T l
noncomputable def resA (s:Fm):List ResultVar→Option (List AV)
 | []=>some []
 | .tmp t :: r=>match s.tm[t]?,resA s r with
  | some a,some l=>some (a :: l)
  | _,_=>none
 | .cell t T :: r=>match s.tm[t]?,resA s r with
  | some a,some l=>(loadR s.H a T).map (· :: l)
  | _,_=>none
def outA:List AV→Option AV
 | [a]=>some a
 | l=>if l.all AV.one then some (.tup l) else none
noncomputable def finA (H:HP) (n0 t0:Nat) (fn:Func) (s:Fm):Option (AV × HP):=match resA s fn.results.toList with
 | some l=>match outA l with
  | some r=>packA H n0 t0 s r
  | none=>none
 | none=>none
noncomputable def callW (pl:List Nat) (run:Code→Fm→Option OutA):CallF:=fun f xs H n0 t0=>match fnOf f with
 | none=>none
 | some fn=>match fn.body with
  | none=>none
  | some c=>if memN f pl && Nat.ble xs.length fn.ntmps then (match run c ⟨xs ++ List.replicate (fn.ntmps - xs.length) (.val undef),H,n0,[]⟩ with
   | some (.fall s)=>finA H n0 t0 fn s
   | some (.ret s)=>finA H n0 t0 fn s
   | _=>none) else none
noncomputable def runA (T:Tb) (pl:List Nat):Nat→Code→Fm→Option OutA
 | 0,_,_=>none
 | n+1,c,s=>match c with
  | .skip=>some (.fall s)
  | .region _ ops dr=>(regionA T (orC T.call (callW pl (runA T pl n))) dr ops s).map .fall
  | .seq x y=>match runA T pl n x s with
   | some (.fall s')=>runA T pl n y s'
   | o=>o
  | .cond (.tmp t) x y=>match s.tm[t]? with
   | some (.val (.bool true))=>runA T pl n x s
   | some (.val (.bool false))=>runA T pl n y s
   | _=>none
  | .cond (.const (.bool b)) x y=>if b then runA T pl n x s else runA T pl n y s
  | .block i x=>match runA T pl n x s with
   | some (.exit m s')=>if Nat.beq m i then some (.fall s') else some (.exit m s')
   | o=>o
  | .loop x=>match runA T pl n x s with
   | some (.fall s')=>runA T pl n (.loop x) s'
   | o=>o
  | .exit i=>some (.exit i s)
  | .ret=>some (.ret s)
  | _=>none
section
variable {T : Tb} {pl : List Nat}
def OutK (A:Nat→Prop) (W0:World) (ρ0:Rho) (M0:Nat→Prop) (H0:HP) (n0:Nat) (Q:Exit→Act→World→Prop):OutA→Prop
 | .fall s=>∀ ρ M a w,FS A W0 ρ0 M0 H0 n0 s ρ M a w→Q .normal a w
 | .ret s=>∀ ρ M a w,FS A W0 ρ0 M0 H0 n0 s ρ M a w→Q .ret a w
 | .exit n s=>∀ ρ M a w,FS A W0 ρ0 M0 H0 n0 s ρ M a w→Q (.exit n) a w
def RunOK (T:Tb) (pl:List Nat) (n:Nat):Prop:=∀ c s o,runA T pl n c s=some o→∀ (A:Nat→Prop) (W0:World) (ρ0:Rho) (M0:Nat→Prop) (H0:HP) (n0:Nat) (ρ:Rho) (M:Nat→Prop) (a:Act) (w:World) (Q:Exit→Act→World→Prop),
 (∀ b,W0.heap.size≤b→A b)→FS A W0 ρ0 M0 H0 n0 s ρ M a w→OutK A W0 ρ0 M0 H0 n0 Q o→c.wp Tryz.prog Q a w
def LoopOK (T:Tb) (pl:List Nat) (n:Nat):Prop:=∀ c s o,runA T pl n (.loop c) s=some o→∃ k,∀ (A:Nat→Prop) (W0:World) (ρ0:Rho) (M0:Nat→Prop) (H0:HP) (n0:Nat) (ρ:Rho) (M:Nat→Prop) (a:Act) (w:World) (Q:Exit→Act→World→Prop),
 (∀ b,W0.heap.size≤b→A b)→FS A W0 ρ0 M0 H0 n0 s ρ M a w→OutK A W0 ρ0 M0 H0 n0 Q o→Code.rounds Tryz.prog c Q k a w
section
variable {A : Nat → Prop} {W0 : World} {ρ0 : Rho} {M0 : Nat → Prop} {H0 : HP} {n0 : Nat} {s : Fm} {ρ : Rho} {M : Nat → Prop} {a : Act} {w : World}
theorem fs_st0 (hF : FS A W0 ρ0 M0 H0 n0 s ρ M a w) (hA : ∀ b, W0.heap.size ≤ b → A b) : St0 ρ M A w s.nx (lk s.H) :=
 ⟨hF.heap, hF.bnd, fun o h1 _ => by
  cases e : ρ o with
  | none => rfl
  | some p => have := hF.dom o p e; omega, fun b hb => hA b (Nat.le_trans hF.fr.size hb)⟩
theorem loadR_sound (hs:St0 ρ M A w n0 (lk s.H)) {x r:AV} {U:TypeId} {v:Value} (h:loadR s.H x U=some r) (hv:RV ρ M w x v):∃ u,(asAddr v >>= fun p=>loadVar U p).run Tryz.prog w = .ok u w∧RV1 ρ M w r u:=by
 simp only [loadR,Option.bind_eq_bind,Option.bind_eq_some_iff] at h
 obtain ⟨⟨l,R⟩,hp,n,hn,l',ht,hm⟩:=h
 obtain ⟨g,off,xs,rfl,hl,hr⟩:=place_sound hs hp (fun _ _=>rfl) hv
 obtain ⟨u,hrun,hu⟩:=loadT_sound hn ht hm hl hr
 refine ⟨u,?_,hu⟩
 simp only [Instr.loadAt,Instr.sureAddr,Sem.run_bind,Sem.run_pure,Result.andThen_ok] at hrun
 simp only [asAddr,Sem.run_bind,Sem.run_pure,Result.andThen_ok]
 exact hrun
theorem getD_of {x:Nat} {tm:Array Value} {v:Value} (h:tm[x]? = some v):tm.getD x undef=v:=by
 rw [Array.getD_eq_getD_getElem?,h]; rfl
theorem resA_sound (hF:FS A W0 ρ0 M0 H0 n0 s ρ M a w) (hA:∀ b,W0.heap.size≤b→A b):∀ {rs:List ResultVar} {l:List AV},resA s rs=some l→∃ vs,(rs.mapM (resRun a.tmps)).run Tryz.prog w = .ok vs w∧vs.length=l.length∧(l.all AV.one=true→RVs ρ M w l vs)∧∀ x,l=[x]→∃ v,vs=[v]∧RV ρ M w x v
 | [],l,h=>by
  unfold resA at h
  cases h
  exact ⟨[],by simp,rfl,fun _=>rfl,fun x e=>by cases e⟩
 | .tmp t :: r,l,h=>by
  unfold resA at h
  split at h
  ·rename_i x l' hx hl
   cases h
   obtain ⟨v,e1,e2⟩:=hF.slots t x hx
   obtain ⟨vs,k1,k2,k3,_⟩:=resA_sound hF hA hl
   have hr:(resRun a.tmps (.tmp t)).run Tryz.prog w = .ok v w:=by
    show (pure (a.tmps.getD t undef):Sem Value).run _ _=_
    rw [getD_of e1]
    rfl
   refine ⟨v :: vs,by simp [List.mapM_cons,Sem.run_bind,hr,k1],by simp [k2],fun ho=>?_,fun y e=>?_⟩
   ·rw [List.all_cons,Bool.and_eq_true] at ho
    exact ⟨v,vs,rfl,e2.one ho.1,k3 ho.2⟩
   ·simp only [List.cons.injEq] at e
    obtain ⟨rfl,rfl⟩:=e
    have:vs=[]:=List.length_eq_zero_iff.1 k2
    exact ⟨v,by rw [this],e2⟩
  ·cases h
 | .cell t U :: r,l,h=>by
  unfold resA at h
  split at h
  ·rename_i x l' hx hl
   obtain ⟨y,hy,rfl⟩:=Option.map_eq_some_iff.1 h
   obtain ⟨v,e1,e2⟩:=hF.slots t x hx
   obtain ⟨vs,k1,k2,k3,_⟩:=resA_sound hF hA hl
   obtain ⟨u,hu,hr1⟩:=loadR_sound (s:=s) (n0:=s.nx) (fs_st0 hF hA) hy e2
   have hr:(resRun a.tmps (.cell t U)).run Tryz.prog w = .ok u w:=by
    show (asAddr (a.tmps.getD t undef) >>= fun p=>loadVar U p).run _ _=_
    rw [getD_of e1]
    exact hu
   refine ⟨u :: vs,by simp [List.mapM_cons,Sem.run_bind,hr,k1],by simp [k2],fun ho=>?_,fun z e=>?_⟩
   ·rw [List.all_cons,Bool.and_eq_true] at ho
    exact ⟨u,vs,rfl,hr1,k3 ho.2⟩
   ·simp only [List.cons.injEq] at e
    obtain ⟨rfl,rfl⟩:=e
    have:vs=[]:=List.length_eq_zero_iff.1 k2
    exact ⟨u,by rw [this],hr1.rv⟩
  ·cases h
theorem results_sound (hF:FS A W0 ρ0 M0 H0 n0 s ρ M a w) (hA:∀ b,W0.heap.size≤b→A b) {fn:Func} {l:List AV} {r:AV} (h:resA s fn.results.toList=some l) (ho:outA l=some r):∃ v,(results fn a.tmps).run Tryz.prog w = .ok v w∧RV ρ M w r v:=by
 obtain ⟨vs,k1,k2,k3,k4⟩:=resA_sound hF hA h
 have hres:(results fn a.tmps)=(do
   let vs ← fn.results.mapM (resRun a.tmps)
   pure (if h:vs.size=1 then vs[0] else .tuple vs)):=by
  unfold results
  congr 1
 have hm:(fn.results.mapM (resRun a.tmps)).run Tryz.prog w = .ok vs.toArray w:=by
  rw [Array.mapM_eq_mapM_toList,map_eq_pure_bind,Sem.run_bind,k1]
  rfl
 rw [hres,Sem.run_bind,hm]
 unfold outA at ho
 split at ho
 ·cases ho
  obtain ⟨v,rfl,hv⟩:=k4 _ rfl
  exact ⟨v,rfl,hv⟩
 ·rename_i hne
  split at ho
  ·rename_i hall
   cases ho
   have hsz:¬ vs.toArray.size=1:=fun e=>by
    rw [List.size_toArray,k2] at e
    obtain ⟨x,e⟩:=List.length_eq_one_iff.1 e
    exact hne x e
   refine ⟨.tuple vs.toArray,?_,⟨vs.toArray,rfl,k3 hall⟩⟩
   show (pure (if h:vs.toArray.size=1 then vs.toArray[0] else Value.tuple vs.toArray):Sem Value).run Tryz.prog w = .ok (.tuple vs.toArray) w
   split
   ·rename_i e
    exact absurd e hsz
   ·rfl
  ·cases ho
end
theorem RVs.len {ρ:Rho} {M:Nat→Prop} {w:World}:∀ {l:List AV} {vs:List Value},RVs ρ M w l vs→vs.length=l.length
 | [],_,h=>by have h:_=[]:=h; rw [h]; rfl
 | _ :: _,_,⟨v,r,e,_,h⟩=>by rw [e,List.length_cons,h.len,List.length_cons]
theorem callW_ok (hpl:∀ f∈pl,Plainly f) {n:Nat} (hn:RunOK T pl n):CallOK (callW pl (runA T pl n)):=by
 intro f xs H n0 t0 r U h
 unfold callW at h
 split at h
 ·cases h
 ·rename_i fn hfn
  split at h
  ·cases h
  ·rename_i c hc
   split at h
   ·rename_i hcond
    rw [Bool.and_eq_true] at hcond
    have hlen:=Nat.le_of_ble_eq_true hcond.2
    refine ⟨hpl f (memN_iff.1 hcond.1),fun ρ M w vs hs hd ht hv=>?_⟩
    have hfn:Tryz.prog.funcs[f]? = some fn:=hfn
    refine calls_of_wp hfn hc ?_
    have hvl:vs.length=xs.length:=hv.len
    have hget:∀ (l:List AV) (vs:List Value),RVs ρ M w l vs→∀ (t:Nat) (x:AV),l[t]? = some x→∃ v,vs[t]? = some v∧RV ρ M w x v:=fun l vs hv t x hx=>by
     obtain ⟨v,e,k⟩:=hv.get hx
     exact ⟨v,e,k.rv⟩
    let s0:Fm:=⟨xs ++ List.replicate (fn.ntmps - xs.length) (.val undef),H,n0,[]⟩
    let a0:Act:={ tmps:=vs.toArray ++ Array.replicate (fn.ntmps - vs.toArray.size) undef,defers:=[] }
    have hF:FS (Own ρ w (lk H)) w ρ M H n0 s0 ρ M a0 w:=by
     refine ⟨by simp [a0,s0,hvl],rfl,fun t x hx=>?_,hs.heap,hd,Nat.le_refl _,hs.bnd,FrA.refl _ _,Tr.refl _ _ _,fun _ h=>h,fun _ h=>.inl h,fun o p e=>.inl e,fun o _ _=>⟨rfl,fun _ _ _ _ _=>rfl⟩⟩
     have hx:(xs ++ List.replicate (fn.ntmps - xs.length) (.val undef))[t]? = some x:=hx
     show ∃ v,(vs.toArray ++ Array.replicate (fn.ntmps - vs.toArray.size) undef)[t]? = some v∧_
     rw [List.getElem?_append] at hx
     split at hx
     ·rename_i hlt
      obtain ⟨v,e,k⟩:=hget xs vs hv t x hx
      exact ⟨v,by rw [Array.getElem?_append_left (by simp [hvl,hlt])]; simpa using e,k⟩
     ·rename_i hge
      rw [List.getElem?_replicate] at hx
      split at hx
      ·cases hx
       refine ⟨undef,?_,rfl⟩
       rw [Array.getElem?_append_right (by simp [hvl]; omega),Array.getElem?_replicate,if_pos]
       simp [hvl]
       omega
      ·cases hx
    have hfin:∀ s,finA H n0 t0 fn s=some (r,U)→∀ ρ' M' a' w',FS (Own ρ w (lk H)) w ρ M H n0 s ρ' M' a' w'→a'.defers=[]∧∃ v,(results fn a'.tmps).run Tryz.prog w' = .ok v w'∧∃ u,Ending.returned v = .returned u∧Post ρ M (Own ρ w (lk H)) w t0 (lk H) U r u w':=fun s hf ρ' M' a' w' hF'=>by
     unfold finA at hf
     split at hf
     ·rename_i l hl
      split at hf
      ·rename_i r0 hr0
       obtain ⟨v,e1,e2⟩:=results_sound hF' hs.fresh hl hr0
       exact ⟨hF'.defers,v,e1,v,rfl,pack_post hs hd hF' e2 hf⟩
      ·cases hf
     ·cases hf
    split at h
    ·rename_i s hrun
     refine hn c s0 _ hrun _ _ _ _ _ _ _ _ a0 w _ hs.fresh hF ?_
     exact fun ρ' M' a' w' hF'=>hfin s h ρ' M' a' w' hF'
    ·rename_i s hrun
     refine hn c s0 _ hrun _ _ _ _ _ _ _ _ a0 w _ hs.fresh hF ?_
     exact fun ρ' M' a' w' hF'=>hfin s h ρ' M' a' w' hF'
    ·cases h
   ·cases h
theorem run_ok (hT:TbOK T) (hpl:∀ f∈pl,Plainly f):∀ n,RunOK T pl n∧LoopOK T pl n:=by
 intro n
 induction n with
 | zero=>exact ⟨fun c s o h=>by (unfold runA at h; cases h),fun c s o h=>by (unfold runA at h; cases h)⟩
 | succ n ih =>
  have hloop:LoopOK T pl (n+1):=by
   intro c s o h
   simp only [runA] at h
   split at h
   ·rename_i s' hr
    obtain ⟨k,hk⟩:=ih.2 c s' o h
    refine ⟨k+1,fun A W0 ρ0 M0 H0 n0 ρ M a w Q hA hF hQ=>?_⟩
    rw [rounds_succ]
    exact ih.1 c s _ hr A W0 ρ0 M0 H0 n0 ρ M a w _ hA hF fun ρ' M' a' w' hF'=>hk A W0 ρ0 M0 H0 n0 ρ' M' a' w' Q hA hF' hQ
   ·rename_i hne
    refine ⟨1,fun A W0 ρ0 M0 H0 n0 ρ M a w Q hA hF hQ=>?_⟩
    rw [rounds_succ]
    refine ih.1 c s _ h A W0 ρ0 M0 H0 n0 ρ M a w _ hA hF ?_
    cases o with
    | fall s'=>exact absurd h (hne s')
    | ret s'=>exact hQ
    | exit m s'=>exact hQ
  refine ⟨?_,hloop⟩
  intro c s o h A W0 ρ0 M0 H0 n0 ρ M a w Q hA hF hQ
  have h0:=h
  unfold runA at h
  cases c with
  | skip=>cases h; exact wp_skip (hQ _ _ _ _ hF)
  | region i ops dr =>
   simp only [] at h
   obtain ⟨s',hs',rfl⟩:=Option.map_eq_some_iff.1 h
   exact region_sound hT (orC_ok hT.call (callW_ok hpl ih.1)) hs' hA hF hQ
  | seq x y =>
   simp only [] at h
   split at h
   ·rename_i s' hr
    exact wp_seq (ih.1 x s _ hr A W0 ρ0 M0 H0 n0 ρ M a w _ hA hF fun ρ' M' a' w' hF'=>ih.1 y s' o h A W0 ρ0 M0 H0 n0 ρ' M' a' w' Q hA hF' hQ)
   ·rename_i hne
    refine wp_seq (ih.1 x s _ h A W0 ρ0 M0 H0 n0 ρ M a w _ hA hF ?_)
    cases o with
    | fall s'=>exact absurd h (hne s')
    | ret s'=>exact hQ
    | exit m s'=>exact hQ
  | cond t x y =>
   cases t with
   | tmp t =>
    simp only [] at h
    split at h
    ·rename_i ht
     obtain ⟨v,e1,e2⟩:=hF.slots t _ ht
     have e2:v = .bool true:=e2
     exact wp_cond_true (by rw [eval_of e1,e2]) (ih.1 x s o h A W0 ρ0 M0 H0 n0 ρ M a w Q hA hF hQ)
    ·rename_i ht
     obtain ⟨v,e1,e2⟩:=hF.slots t _ ht
     have e2:v = .bool false:=e2
     exact wp_cond_false (by rw [eval_of e1,e2]) (ih.1 y s o h A W0 ρ0 M0 H0 n0 ρ M a w Q hA hF hQ)
    ·cases h
   | const v =>
    cases v with
    | bool b =>
     simp only [] at h
     cases b with
     | true=>exact wp_cond_true rfl (ih.1 x s o (by simpa using h) A W0 ρ0 M0 H0 n0 ρ M a w Q hA hF hQ)
     | false=>exact wp_cond_false rfl (ih.1 y s o (by simpa using h) A W0 ρ0 M0 H0 n0 ρ M a w Q hA hF hQ)
    | _=>cases h
   | _=>cases h
  | block i x =>
   simp only [] at h
   refine wp_block ?_
   split at h
   ·rename_i m s' hr
    refine ih.1 x s _ hr A W0 ρ0 M0 H0 n0 ρ M a w _ hA hF fun ρ' M' a' w' hF'=>?_
    show if m=i then Q .normal a' w' else Q (.exit m) a' w'
    split at h
    ·rename_i e
     have e:=Nat.eq_of_beq_eq_true e
     cases h
     rw [if_pos e]
     exact hQ _ _ _ _ hF'
    ·rename_i e
     cases h
     rw [if_neg fun h=>e (by rw [h]; exact Nat.beq_refl i)]
     exact hQ _ _ _ _ hF'
   ·rename_i hne
    refine ih.1 x s _ h A W0 ρ0 M0 H0 n0 ρ M a w _ hA hF ?_
    cases o with
    | fall s'=>exact hQ
    | ret s'=>exact hQ
    | exit m s'=>exact absurd h (hne m s')
  | loop x =>
   obtain ⟨k,hk⟩:=hloop x s o h0
   exact wp_loop_rounds k (hk A W0 ρ0 M0 H0 n0 ρ M a w Q hA hF hQ)
  | exit i=>cases h; exact wp_exit (hQ _ _ _ _ hF)
  | ret=>cases h; exact wp_ret (hQ _ _ _ _ hF)
  | _=>cases h
theorem vm_calls (hT:TbOK T) (hpl:∀ f∈pl,Plainly f) {n f:Nat} {xs:List AV} {r:AV} {t:HP} (h:callW pl (runA T pl n) f xs [] 16 0=some (r,t)) {w:World} {vs:List Value} (hv:RVs (fun _=>none) (fun _=>False) w xs vs) :
  Calls Tryz.prog f vs.toArray w fun e w'=>∃ v,e = .returned v∧(∃ ρ M,RV ρ M w' r v)∧Below w.heap.size w w':=by
 obtain ⟨_,hc⟩:=callW_ok hpl (run_ok hT hpl n).1 f xs [] 16 0 r t h
 refine Calls.mono (hc (fun _=>none) (fun _=>False) w vs ⟨⟨fun o b e=>(by cases e),fun o o' b b' g c c' e=>(by cases e)⟩,fun _ h=>h.elim,fun _ _ _=>rfl,fun b hb=>.inl hb⟩ (fun o p e=>(by cases e)) (by omega) hv) fun e w' he=>?_
 obtain ⟨v,e,ρ',M',ht,hrv,_,_,_,_,_,hfr,_⟩:=he
 exact ⟨v,e,⟨ρ',M',hrv⟩,⟨hfr.os,hfr.tape,hfr.output,hfr.size,fun b hb=>ht.keep b hb fun h=>h⟩⟩
end
end Go.Proofs.YtgaehhapjnbieaaGreat
namespace Go.Proofs.YtgaehhapjnbieaaGreat
open Go.RowKit
def agL:AV→Bool
 | .num _ | .rat _ | .ext _ true _=>true
 | _=>false
def leafB:AV→AV→Bool
 | .val (.int .i64 a),.val (.int .i64 b)=>decide (a=b)
 | .val (.bool a),.val (.bool b)=>decide (a=b)
 | .val (.slice none a b),.val (.slice none c d)=>Nat.beq a c && Nat.beq b d
 | .num a,.num b=>decide (a=b)
 | .rat a,.rat b=>decide (a=b)
 | .ext n g c,.ext n' g' c'=>Nat.beq n n' && decide (g=g') && CE.beq c c'
 | _,_=>false
theorem leafB_eq {a b : AV} (h : leafB a b = true) : a = b := by
  unfold leafB at h
  split at h <;> first
    | (cases h; done)
    | (rw [of_decide_eq_true h]; done)
    | (rw [Bool.and_eq_true] at h; rw [Nat.eq_of_beq_eq_true h.1, Nat.eq_of_beq_eq_true h.2]; done)
    | (rw [Bool.and_eq_true, Bool.and_eq_true] at h
       rw [Nat.eq_of_beq_eq_true h.1.1, of_decide_eq_true h.1.2, CE.beq_eq h.2])
structure Rd where
 vs:List (AV × AV)
 ns:List (CE × CE)
 bs:List (CE × CE)
 rest:List (Nat × CE × CE × CE)
 rp:List Nat
 nx:Nat
def Rd.out (d:Rd):List Nat:=d.rest.map (·.1) ++ d.rp
def Rd.keep (d:Rd) (o:Nat):Bool:=Nat.blt o d.nx && !(memN o d.out)
def okP (L:List (AV × AV)) (a b:AV):Bool:=decide (agL a=agL b) && L.any fun p=>leafB p.1 a && leafB p.2 b
def okE (L:List (CE × CE)) (a b:CE):Bool:=L.any fun p=>CE.beq p.1 a && CE.beq p.2 b
def capB:Option Nat→Option Nat→Bool
 | some a,some b=>Nat.beq a b
 | none,none=>true
 | _,_=>false
theorem capB_eq {a b:Option Nat} (h:capB a b=true):a=b:=by
 unfold capB at h
 split at h
 ·rw [Nat.eq_of_beq_eq_true h]
 ·rfl
 ·cases h
mutual
def wkC (d:Rd) (H:HP):AV→AV→Bool
 | .ptr o a,.ptr o' b=>Nat.beq o o' && Nat.beq a b && d.keep o
 | .ptr o a,.rptr l=>Nat.beq a 0 && memN o d.rp && (match lk H o with
  | some b=>b.bl.isNone && wkCs d H b.cs l
  | none=>false)
 | .sl o a n c,.sl o' a' n' c'=>Nat.beq o o' && Nat.beq a a' && Nat.beq n n' && capB c c' && d.keep o
 | .slx o c,.slx o' c'=>Nat.beq o o' && d.keep o && okE d.ns c c'
 | .slx o c,.ext 1 false c'=>d.rest.any fun p=>Nat.beq p.1 o && CE.beq p.2.1 c && CE.beq p.2.2.2 c'
 | .fn f a b,.fn f' a' b'=>Nat.beq f f' && wkCs d H a a' && wkCs d H b b'
 | .rptr l,.rptr l'=>wkCs d H l l'
 | .val (.slice none n c),.val (.slice none n' c')=>Nat.beq n n' && Nat.beq c c'
 | a,b=>okP d.vs a b
termination_by structural _ b=>b
def wkCs (d:Rd) (H:HP):List AV→List AV→Bool
 | [],[]=>true
 | a :: l,b :: m=>wkC d H a b && wkCs d H l m
 | _,_=>false
termination_by structural _ b=>b
end
def wkV (d:Rd) (H:HP) (a:AV):AV→Bool
 | .any=>true
 | .agg m=>(match a with
  | .agg l=>wkCs d H l m
  | _=>false)
 | b=>wkC d H a b
def wkVs (d:Rd) (H:HP):List AV→List AV→Bool
 | [],[]=>true
 | a :: l,b :: m=>wkV d H a b && wkVs d H l m
 | _,_=>false
def wkB (d:Rd) (H:HP) (b b':OB):Bool:=Nat.beq b.ty b'.ty && Nat.beq b.k b'.k && decide (b.room=b'.room) && (match b.bl,b'.bl with
 | none,none=>wkCs d H b.cs b'.cs
 | some c,some c'=>okE d.bs c c'
 | _,_=>false)
def wkH (d:Rd) (H:HP):HP→Bool
 | []=>true
 | (_,none) :: r=>wkH d H r
 | (o,some b') :: r=>d.keep o && (match lk H o with | some b=>wkB d H b b' | none=>false) && wkH d H r
def wkR (n0:Nat) (H:HP):List (Nat × CE × CE × CE)→Bool
 | []=>true
 | (o,_,c,_) :: r=>Nat.ble n0 o && (match lk H o with | some b=>(match b.bl with | some c'=>CE.beq c c' | none=>false) | none=>false) && wkR n0 H r
def wkP (n0:Nat) (H:HP):List Nat→Bool
 | []=>true
 | o :: r=>Nat.ble n0 o && (match lk H o with | some b=>b.bl.isNone | none=>false) && wkP n0 H r
def below (n0:Nat) (H:HP):HP:=H.filter fun x=>Nat.blt x.1 n0
def wkF (d:Rd) (n0:Nat) (s s':Fm):Bool:=wkVs d s.H s.tm s'.tm && wkH d s.H s'.H && wkR n0 s.H d.rest && wkP n0 s.H d.rp && Nat.beq s'.nx d.nx && Nat.ble n0 d.nx && s.wr.all fun x=>Nat.ble n0 x
structure RdOK (E E':Env) (d:Rd):Prop where
 vs:∀ p∈d.vs,∀ (ρ ρ':Rho) (M:Nat→Prop) (w:World) (cs:List Value),@Rp E ρ M w p.1 cs → @Rp E' ρ' M w p.2 cs
 ns:∀ p∈d.ns,E.N p.1=E'.N p.2
 bs:∀ p∈d.bs,∀ (M:Nat→Prop) (w:World) (cs:List Value),(E.B p.1).p M w cs→(E'.B p.2).p M w cs
 rest:∀ p∈d.rest,∀ (M:Nat→Prop) (w:World) (g k:Nat) (cs:List Value),¬ M g→g<w.heap.size→w.rangeAt g 0 cs→(E.B p.2.2.1).p M w cs→E.N p.2.1≤k→(E'.X p.2.2.2).p M w [.slice (some ⟨g,0,none⟩) (E.N p.2.1) k]
def rhoK (d:Rd) (ρ:Rho):Rho:=fun o=>if d.keep o then ρ o else none
def resM (d:Rd) (ρ:Rho) (M:Nat→Prop) (b:Nat):Prop:=M b∧∀ o c,memN o d.out=true→ρ o≠some (b,c)
section
variable {E E' : Env} {d : Rd} {ρ : Rho} {M A : Nat → Prop} {w : World}
theorem out_rest (E:Env) {p:Nat × CE × CE × CE} (h:p∈d.rest):memN p.1 d.out=true:=(@memN_iff E _ _).2 (List.mem_append.2 (.inl (List.mem_map.2 ⟨p,h,rfl⟩)))
theorem out_rp (E:Env) {o:Nat} (h:memN o d.rp=true):memN o d.out=true:=(@memN_iff E _ _).2 (List.mem_append.2 (.inr ((@memN_iff E _ _).1 h)))
theorem resM_tr:Tr ρ M w ρ (resM d ρ M) w:=⟨Grow.refl w,fun _ _ _=>rfl,fun _ _ h=>h.1,fun _ _ h=>h⟩
theorem leaf_self {a b:AV} (h:leafB a b=true) {ρ ρ':Rho} {cs:List Value} (r:@Rp E ρ M w b cs):@Rp E ρ' M w b cs:=by
 unfold leafB at h
 split at h <;> first
  | (cases h; done)
  | (unfold Rp at r ⊢; exact r)
theorem okP_sound (hd:RdOK E E' d) {a b:AV} (h:okP d.vs a b=true) {cs:List Value} (r:@Rp E ρ M w a cs):@Rp E' (rhoK d ρ) (resM d ρ M) w b cs:=by
 unfold okP at h
 rw [Bool.and_eq_true] at h
 obtain ⟨p,hp,h⟩:=List.any_eq_true.1 h.2
 rw [Bool.and_eq_true] at h
 have e1:=leafB_eq h.1
 have e2:=leafB_eq h.2
 have r1:=hd.vs p hp ρ ρ M w cs (e1 ▸ r)
 rw [e2] at r1
 exact @leaf_self E' (resM d ρ M) w _ _ h.2 ρ _ cs (@Rp.st E' ρ ρ M (resM d ρ M) w w resM_tr b cs r1)
theorem keep_at {o:Nat} (h:d.keep o=true):rhoK d ρ o=ρ o:=by unfold rhoK; rw [if_pos h]
def RestOK (E:Env) (d:Rd) (H:HP) (ρ:Rho) (M:Nat→Prop) (w:World):Prop:=(∀ p∈d.rest,∀ g c,ρ p.1=some (g,c)→∃ cs,g<w.heap.size∧w.rangeAt g 0 cs∧(E.B p.2.2.1).p (resM d ρ M) w cs) ∧
 ∀ o b g c,memN o d.rp=true→lk H o=some b→b.bl.isNone=true→ρ o=some (g,c)→∃ cs,g<w.heap.size∧w.rangeAt g 0 cs ∧ @Rps E ρ M w b.cs cs
mutual
theorem wkC_sound {H:HP} (hd:RdOK E E' d) (hr:RestOK E d H ρ M w):∀ (a b:AV) (cs:List Value),wkC d H a b=true → @Rp E ρ M w a cs → @Rp E' (rhoK d ρ) (resM d ρ M) w b cs:=by
 intro a b cs h r
 unfold wkC at h
 split at h
 ·rw [Bool.and_eq_true,Bool.and_eq_true] at h
  have e1:=Nat.eq_of_beq_eq_true h.1.1
  have e2:=Nat.eq_of_beq_eq_true h.1.2
  subst e1
  subst e2
  unfold Rp at r ⊢
  rw [keep_at h.2]
  exact r
 ·rename_i o a l
  rw [Bool.and_eq_true,Bool.and_eq_true] at h
  have e0:=Nat.eq_of_beq_eq_true h.1.1
  subst e0
  have h2:=h.2
  split at h2
  ·rename_i b hb
   rw [Bool.and_eq_true] at h2
   unfold Rp at r ⊢
   obtain ⟨g,c,q1,rfl⟩:=r
   obtain ⟨xs,k1,k2,k3⟩:=hr.2 o b g c h.1.2 hb h2.1 q1
   exact ⟨g,0,xs,rfl,fun hm=>hm.2 o c (out_rp E h.1.2) q1,k1,k2,wkCs_sound hd hr b.cs l xs h2.2 k3⟩
  ·cases h2
 ·simp only [Bool.and_eq_true] at h
  obtain ⟨⟨⟨⟨h1,h2⟩,h3⟩,h4⟩,h5⟩:=h
  have e1:=Nat.eq_of_beq_eq_true h1
  have e2:=Nat.eq_of_beq_eq_true h2
  have e3:=Nat.eq_of_beq_eq_true h3
  have e4:=capB_eq h4
  subst e1
  subst e2
  subst e3
  subst e4
  unfold Rp at r ⊢
  rw [keep_at h5]
  exact r
 ·simp only [Bool.and_eq_true] at h
  obtain ⟨⟨h1,h2⟩,h3⟩:=h
  have e1:=Nat.eq_of_beq_eq_true h1
  subst e1
  obtain ⟨p,hp,h3⟩:=List.any_eq_true.1 h3
  rw [Bool.and_eq_true] at h3
  have e2:=CE.beq_eq h3.1
  have e3:=CE.beq_eq h3.2
  have hn:=hd.ns p hp
  rw [e2,e3] at hn
  unfold Rp at r ⊢
  rw [keep_at h2,← hn]
  exact r
 ·rename_i o c c'
  obtain ⟨p,hp,h⟩:=List.any_eq_true.1 h
  simp only [Bool.and_eq_true] at h
  obtain ⟨⟨h1,h2⟩,h3⟩:=h
  have e1:=Nat.eq_of_beq_eq_true h1
  have e2:=CE.beq_eq h2
  have e3:=CE.beq_eq h3
  subst e1
  subst e2
  subst e3
  unfold Rp at r ⊢
  obtain ⟨g,k,cc,q1,rfl,q3⟩:=r
  obtain ⟨xs,k1,k2,k3⟩:=hr.1 p hp g cc q1
  refine ⟨rfl,hd.rest p hp (resM d ρ M) w g k xs ?_ k1 k2 k3 q3⟩
  intro hm
  exact hm.2 p.1 cc (out_rest E hp) q1
 ·rename_i f a1 b1 f' a2 b2
  rw [Bool.and_eq_true,Bool.and_eq_true] at h
  have e1:=Nat.eq_of_beq_eq_true h.1.1
  subst e1
  unfold Rp at r ⊢
  obtain ⟨xs,ys,e,r1,r2⟩:=r
  exact ⟨xs,ys,e,wkCs_sound hd hr a1 a2 _ h.1.2 r1,wkCs_sound hd hr b1 b2 _ h.2 r2⟩
 ·rename_i l l'
  unfold Rp at r ⊢
  obtain ⟨g,off,xs,e,m,sz,ra,rc⟩:=r
  exact ⟨g,off,xs,e,fun k=>m k.1,sz,ra,wkCs_sound hd hr l l' xs h rc⟩
 ·rw [Bool.and_eq_true] at h
  have e1:=Nat.eq_of_beq_eq_true h.1
  have e2:=Nat.eq_of_beq_eq_true h.2
  subst e1
  subst e2
  unfold Rp at r ⊢
  exact r
 ·exact okP_sound hd h r
theorem wkCs_sound {H:HP} (hd:RdOK E E' d) (hr:RestOK E d H ρ M w):∀ (l m:List AV) (cs:List Value),wkCs d H l m=true → @Rps E ρ M w l cs → @Rps E' (rhoK d ρ) (resM d ρ M) w m cs:=by
 intro l m cs h r
 match l,m with
 | [],[]=>unfold Rps at r ⊢; exact r
 | a :: l,b :: m =>
  unfold wkCs at h
  rw [Bool.and_eq_true] at h
  unfold Rps at r ⊢
  obtain ⟨x,y,e,r1,r2⟩:=r
  exact ⟨x,y,e,wkC_sound hd hr a b x h.1 r1,wkCs_sound hd hr l m y h.2 r2⟩
 | [],_ :: _=>unfold wkCs at h; cases h
 | _ :: _,[]=>unfold wkCs at h; cases h
end
end
end Go.Proofs.YtgaehhapjnbieaaGreat
namespace Go.Proofs.YtgaehhapjnbieaaGreat
open Go.RowKit
section
variable {E E' : Env} {d : Rd} {ρ : Rho} {M A : Nat → Prop} {w : World}
theorem leaf_in {p a:AV} (h:leafB p a=true) {v:Value} (r:@RV E ρ M w a v):(agL a=false ∧ @Rp E ρ M w a [v]) ∨ (agL a=true∧∃ cs,v = .agg cs ∧ @Rp E ρ M w a cs.toList):=by
 unfold leafB at h
 split at h <;> first | (cases h; done) | skip
 ·have r:v=_:=r
  subst r
  exact .inl ⟨rfl,by unfold Rp; exact ⟨rfl,rfl⟩⟩
 ·have r:v=_:=r
  subst r
  exact .inl ⟨rfl,by unfold Rp; exact ⟨rfl,rfl⟩⟩
 ·have r:v=_:=r
  subst r
  exact .inl ⟨rfl,by unfold Rp; exact ⟨rfl,rfl⟩⟩
 ·exact .inr ⟨rfl,r⟩
 ·exact .inr ⟨rfl,r⟩
 ·rename_i g' c'
  cases g' with
  | true=>exact .inr ⟨rfl,r⟩
  | false=>exact .inl ⟨rfl,r⟩
theorem leaf_out {p b:AV} (h:leafB p b=true) {v:Value} (r:(agL b=false ∧ @Rp E ρ M w b [v]) ∨ (agL b=true∧∃ cs,v = .agg cs ∧ @Rp E ρ M w b cs.toList)):@RV E ρ M w b v:=by
 unfold leafB at h
 split at h <;> first | (cases h; done) | skip
 ·rcases r with ⟨_,r⟩ | ⟨e,_⟩
  ·unfold Rp at r
   exact (List.cons.inj r.1).1
  ·cases e
 ·rcases r with ⟨_,r⟩ | ⟨e,_⟩
  ·unfold Rp at r
   exact (List.cons.inj r.1).1
  ·cases e
 ·rcases r with ⟨_,r⟩ | ⟨e,_⟩
  ·unfold Rp at r
   exact (List.cons.inj r.1).1
  ·cases e
 ·rcases r with ⟨e,_⟩ | ⟨_,r⟩
  ·cases e
  ·exact r
 ·rcases r with ⟨e,_⟩ | ⟨_,r⟩
  ·cases e
  ·exact r
 ·rename_i g' c'
  cases g' with
  | true =>
   rcases r with ⟨e,_⟩ | ⟨_,r⟩
   ·cases e
   ·exact r
  | false =>
   rcases r with ⟨_,r⟩ | ⟨e,_⟩
   ·exact r
   ·cases e
theorem wkC_rv {H:HP} (hd:RdOK E E' d) (hr:RestOK E d H ρ M w) {a b:AV} {v:Value} (h:wkC d H a b=true) (r:@RV E ρ M w a v):@RV E' (rhoK d ρ) (resM d ρ M) w b v:=by
 have h0:=h
 unfold wkC at h
 split at h
 ·exact wkC_sound hd hr _ _ [v] h0 r
 ·exact wkC_sound hd hr _ _ [v] h0 r
 ·exact wkC_sound hd hr _ _ [v] h0 r
 ·exact wkC_sound hd hr _ _ [v] h0 r
 ·exact wkC_sound hd hr _ _ [v] h0 r
 ·exact wkC_sound hd hr _ _ [v] h0 r
 ·exact wkC_sound hd hr _ _ [v] h0 r
 ·rw [Bool.and_eq_true] at h
  have e1:=Nat.eq_of_beq_eq_true h.1
  have e2:=Nat.eq_of_beq_eq_true h.2
  subst e1
  subst e2
  exact r
 ·have h1:=h
  unfold okP at h1
  rw [Bool.and_eq_true] at h1
  have he:=of_decide_eq_true h1.1
  obtain ⟨p,hp,h2⟩:=List.any_eq_true.1 h1.2
  rw [Bool.and_eq_true] at h2
  refine leaf_out (E:=E') h2.2 ?_
  rcases leaf_in (E:=E) h2.1 r with ⟨e,r⟩ | ⟨e,cs,ev,r⟩
  ·exact .inl ⟨he ▸ e,okP_sound hd h r⟩
  ·exact .inr ⟨he ▸ e,cs,ev,okP_sound hd h r⟩
theorem wkV_rv {H:HP} (hd:RdOK E E' d) (hr:RestOK E d H ρ M w) {a b:AV} {v:Value} (h:wkV d H a b=true) (r:@RV E ρ M w a v):@RV E' (rhoK d ρ) (resM d ρ M) w b v:=by
 unfold wkV at h
 split at h
 ·exact True.intro
 ·split at h
  ·obtain ⟨cs,e,r⟩:=r
   exact ⟨cs,e,wkCs_sound hd hr _ _ _ h r⟩
  ·cases h
 ·exact wkC_rv hd hr h r
theorem wkVs_get (d:Rd) (H:HP):∀ {l m:List AV} {t:Nat} {x':AV},wkVs d H l m=true→m[t]? = some x'→∃ x,l[t]? = some x∧wkV d H x x'=true
 | [],[],_,_,_,e=>by cases e
 | a :: l,b :: m,0,x',h,e=>by
  unfold wkVs at h
  rw [Bool.and_eq_true] at h
  cases e
  exact ⟨a,rfl,h.1⟩
 | a :: l,b :: m,t+1,x',h,e=>by
  unfold wkVs at h
  rw [Bool.and_eq_true] at h
  exact wkVs_get d H (t:=t) h.2 (by simpa using e)
 | [],_ :: _,_,_,h,_=>by unfold wkVs at h; cases h
 | _ :: _,[],_,_,h,_=>by unfold wkVs at h; cases h
theorem wkVs_len (d:Rd) (H:HP):∀ {l m:List AV},wkVs d H l m=true→m.length=l.length
 | [],[],_=>rfl
 | a :: l,b :: m,h=>by
  unfold wkVs at h
  rw [Bool.and_eq_true] at h
  rw [List.length_cons,List.length_cons,wkVs_len d H h.2]
 | [],_ :: _,h=>by unfold wkVs at h; cases h
 | _ :: _,[],h=>by unfold wkVs at h; cases h
theorem wkH_get (d:Rd) (H:HP):∀ {H':HP} {o:Nat} {b':OB},wkH d H H'=true→lk H' o=some b'→d.keep o=true∧∃ b,lk H o=some b∧wkB d H b b'=true
 | [],_,_,_,e=>by cases e
 | (x,none) :: r,o,b',h,e=>by
  unfold wkH at h
  unfold lk at e
  split at e
  ·cases e
  ·exact wkH_get d H h e
 | (x,some c) :: r,o,b',h,e=>by
  unfold wkH at h
  rw [Bool.and_eq_true,Bool.and_eq_true] at h
  unfold lk at e
  split at e
  ·rename_i hx
   have hx:=Nat.eq_of_beq_eq_true hx
   subst hx
   cases e
   refine ⟨h.1.1,?_⟩
   have h2:=h.1.2
   split at h2
   ·rename_i b hb
    exact ⟨b,hb,h2⟩
   ·cases h2
  ·exact wkH_get d H h.2 e
theorem wkR_get {n0:Nat} {H:HP}:∀ {l:List (Nat × CE × CE × CE)} {p:Nat × CE × CE × CE},wkR n0 H l=true→p∈l→n0≤p.1∧∃ b,lk H p.1=some b∧b.bl=some p.2.2.1
 | [],_,_,hp=>by cases hp
 | (o,c1,c2,c3) :: r,p,h,hp=>by
  unfold wkR at h
  rw [Bool.and_eq_true,Bool.and_eq_true] at h
  rcases List.mem_cons.1 hp with rfl | hp
  ·refine ⟨Nat.le_of_ble_eq_true h.1.1,?_⟩
   have h2:=h.1.2
   split at h2
   ·rename_i b hb
    split at h2
    ·rename_i c hc
     have:=CE.beq_eq h2
     exact ⟨b,hb,by rw [hc,← this]⟩
    ·cases h2
   ·cases h2
  ·exact wkR_get h.2 hp
theorem wkP_get {n0:Nat} {H:HP}:∀ {l:List Nat} {o:Nat},wkP n0 H l=true→o∈l→n0≤o∧∃ b,lk H o=some b∧b.bl.isNone=true
 | [],_,_,hp=>by cases hp
 | x :: r,o,h,hp=>by
  unfold wkP at h
  rw [Bool.and_eq_true,Bool.and_eq_true] at h
  rcases List.mem_cons.1 hp with rfl | hp
  ·refine ⟨Nat.le_of_ble_eq_true h.1.1,?_⟩
   have h2:=h.1.2
   split at h2
   ·rename_i b hb
    exact ⟨b,hb,h2⟩
   ·cases h2
  ·exact wkP_get h.2 hp
theorem lk_below {n0 o:Nat} (ho:o<n0):∀ {H:HP},lk (below n0 H) o=lk H o
 | []=>rfl
 | (x,e) :: r=>by
  unfold below
  rw [List.filter_cons]
  split
  ·unfold lk
   rw [show lk (List.filter (fun x=>Nat.blt x.1 n0) r) o=lk r o from lk_below ho]
  ·rename_i hx
   have hne:¬ Nat.beq x o=true:=fun e=>by
    have:=Nat.eq_of_beq_eq_true e
    subst this
    exact hx (Nat.ble_eq_true_of_le ho)
   rw [show lk ((x,e) :: r) o=lk r o by simp only [lk]; rw [if_neg hne]]
   exact lk_below ho
theorem FS.move {W0:World} {ρ0:Rho} {M0:Nat→Prop} {H0:HP} {n0:Nat} {s s':Fm} {a:Act} (hd:RdOK E E' d) (hr0:∀ o p,ρ0 o=some p→o<n0) (hm0:∀ b,M0 b→b<W0.heap.size) (hown:d.out=[] ∨ ∀ b,A b→W0.heap.size≤b ∨ ∃ o bo c,lk H0 o=some bo∧ρ0 o=some (b,c))
  (h:wkF d n0 s s'=true) (hb:below n0 s'.H=below n0 s.H) (hF:@FS E A W0 ρ0 M0 H0 n0 s ρ M a w):@FS E' A W0 ρ0 M0 H0 n0 s' (rhoK d ρ) (resM d ρ M) a w:=by
 unfold wkF at h
 obtain ⟨Fsize,Fdef,Fslots,⟨Fobj,Finj⟩,Fdom,Fnx,Fbnd,Ffr,Ftr,Fsup,Fmon,Fold,Fkp⟩:=hF
 simp only [Bool.and_eq_true] at h
 obtain ⟨⟨⟨⟨⟨⟨h1,h2⟩,h3⟩,h7⟩,h4⟩,h5⟩,h6⟩:=h
 have h4:=Nat.eq_of_beq_eq_true h4
 have h5:=Nat.le_of_ble_eq_true h5
 have hwr:∀ x∈s.wr,n0≤x:=fun x hx=>Nat.le_of_ble_eq_true (List.all_eq_true.1 h6 x hx)
 have hrest:∀ o,memN o d.out=true→n0≤o∧∃ b,lk s.H o=some b:=fun o hm=>by
  rcases List.mem_append.1 ((@memN_iff E _ _).1 hm) with hm | hm
  ·obtain ⟨p,hp,rfl⟩:=List.mem_map.1 hm
   obtain ⟨k1,b,k2,_⟩:=wkR_get h3 hp
   exact ⟨k1,b,k2⟩
  ·obtain ⟨k1,b,k2,_⟩:=wkP_get h7 hm
   exact ⟨k1,b,k2⟩
 have hro:RestOK E d s.H ρ M w:=⟨fun p hp g c hg=>by
  obtain ⟨k1,b,k2,k3⟩:=wkR_get h3 hp
  obtain ⟨g',c',arr,cs,⟨k_at,k_mut,k_own,k_blk,k_ty,k_cells,k_pre,k_cap⟩⟩:=Fobj p.1 b k2
  have:=k_at
  rw [hg] at this
  simp only [Option.some.injEq,Prod.mk.injEq] at this
  obtain ⟨tl,he,_⟩:=k_pre
  have hc:=k_cells
  unfold CellsB at hc
  rw [k3] at hc
  refine ⟨cs,this.1 ▸ lt_of_get k_blk,this.1 ▸ @range_all E w arr b.ty g' cs tl k_blk he,?_⟩
  exact (E.B p.2.2.1).st M (resM d ρ M) w w cs (Grow.refl w) (fun _ _ _=>rfl) (fun _ _ h=>h.1) hc,fun o b g c _ hb hn hg=>by
  obtain ⟨g',c',arr,cs,⟨k_at,k_mut,k_own,k_blk,k_ty,k_cells,k_pre,k_cap⟩⟩:=Fobj o b hb
  have:=k_at
  rw [hg] at this
  simp only [Option.some.injEq,Prod.mk.injEq] at this
  obtain ⟨tl,he,_⟩:=k_pre
  exact ⟨cs,this.1 ▸ lt_of_get k_blk,this.1 ▸ @range_all E w arr b.ty g' cs tl k_blk he,@CellsB.rps E ρ M w b cs k_cells (Option.isNone_iff_eq_none.1 hn)⟩⟩
 have hkeep:∀ {o},d.keep o=true→o<d.nx∧memN o d.out=false:=fun {o} hk=>by
  unfold Rd.keep at hk
  rw [Bool.and_eq_true,Bool.not_eq_true'] at hk
  exact ⟨Nat.le_of_ble_eq_true hk.1,hk.2⟩
 have hlk:∀ o,o<n0→lk s'.H o=lk s.H o:=fun o ho=>by rw [← lk_below ho,hb,lk_below ho]
 have hext:∀ o p,ρ0 o=some p→rhoK d ρ o=some p:=fun o p e=>by
  have ho:=hr0 o p e
  unfold rhoK
  rw [if_pos,Ftr.ext o p e]
  unfold Rd.keep
  rw [Bool.and_eq_true,Bool.not_eq_true']
  refine ⟨Nat.ble_eq_true_of_le (by show o+1≤d.nx; omega),?_⟩
  cases hm:memN o d.out with
  | false=>rfl
  | true=>have:=(hrest o hm).1; omega
 refine ⟨?_,Fdef,fun t x' e=>?_,⟨fun o b' e=>?_,fun o o' b b' g c c' e e' r r'=>?_⟩,fun o p e=>?_,?_,fun b hb=>Fbnd b hb.1,Ffr,⟨Ftr.grow,Ftr.keep,fun b hb hm=>Ftr.mono b hb hm.1,hext⟩,fun b hb=>⟨Fsup b hb,fun o c hm hg=>?_⟩,fun b hb=>Fmon b hb.1,fun o p e=>?_,fun o ho hw=>?_⟩
 ·rw [Fsize,wkVs_len d s.H h1]
 ·obtain ⟨x,e1,e2⟩:=wkVs_get d s.H h1 e
  obtain ⟨v,e3,e4⟩:=Fslots t x e1
  exact ⟨v,e3,wkV_rv hd hro e2 e4⟩
 ·obtain ⟨k0,b,k1,k2⟩:=wkH_get d s.H h2 e
  obtain ⟨g,c,arr,cs,⟨k_at,k_mut,k_own,k_blk,k_ty,k_cells,k_pre,k_cap⟩⟩:=Fobj o b k1
  unfold wkB at k2
  simp only [Bool.and_eq_true] at k2
  obtain ⟨⟨⟨q1,q2⟩,q3⟩,q4⟩:=k2
  have q1:=Nat.eq_of_beq_eq_true q1
  have q2:=Nat.eq_of_beq_eq_true q2
  have q3:=of_decide_eq_true q3
  refine ⟨g,c,arr,cs,(keep_at k0).trans k_at,⟨k_mut,fun o1 c1 hm hg=>?_⟩,k_own,q1 ▸ k_blk,q1 ▸ k_ty,?_,q3 ▸ k_pre,?_⟩
  ·obtain ⟨_,b1,hb1⟩:=hrest o1 hm
   have:=Finj o o1 b b1 g c c1 k1 hb1 k_at hg
   subst this
   have:=(hkeep k0).2
   rw [hm] at this
   cases this
  ·have hc:=k_cells
   unfold CellsB at hc ⊢
   split at q4
   ·rename_i e1 e2
    rw [e1] at hc
    rw [e2]
    exact wkCs_sound hd hro _ _ _ q4 hc
   ·rename_i c0 c1 e1 e2
    rw [e1] at hc
    rw [e2]
    obtain ⟨p,hp,q4⟩:=List.any_eq_true.1 q4
    rw [Bool.and_eq_true] at q4
    have e3:=CE.beq_eq q4.1
    have e4:=CE.beq_eq q4.2
    have:=hd.bs p hp M w cs (e3 ▸ hc)
    rw [e4] at this
    exact (E'.B c1).st M (resM d ρ M) w w cs (Grow.refl w) (fun _ _ _=>rfl) (fun _ _ h=>h.1) this
   ·cases q4
  ·rw [← q2,← q3]
   exact k_cap
 ·obtain ⟨k0,b1,k1,_⟩:=wkH_get d s.H h2 e
  obtain ⟨k0',b2,k2,_⟩:=wkH_get d s.H h2 e'
  exact Finj o o' b1 b2 g c c' k1 k2 ((keep_at k0).symm.trans r) ((keep_at k0').symm.trans r')
 ·unfold rhoK at e
  split at e
  ·rename_i hk
   rw [h4]
   exact (hkeep hk).1
  ·cases e
 ·rw [h4]; exact h5
 ·rcases hown with e | hown
  ·rw [e] at hm
   cases hm
  ·obtain ⟨k1,b1,k2⟩:=hrest o hm
   obtain ⟨g',c',arr,cs,⟨k_at,k_mut,k_own,k_blk,k_ty,k_cells,k_pre,k_cap⟩⟩:=Fobj o b1 k2
   have hA:A b:=by
    have:=k_at
    rw [hg] at this
    simp only [Option.some.injEq,Prod.mk.injEq] at this
    rw [this.1]
    exact k_own
   rcases hown b hA with hlt | ⟨o',bo,c2,q1,q2⟩
   ·have:=hm0 b hb
    omega
   ·have ho':=hr0 o' _ q2
    have hl:lk s.H o'=some bo:=((Fkp o' ho' fun x hx=>by have:=hwr x hx; omega).1).trans q1
    have:=Finj o o' b1 bo b c c2 k2 hl hg (Ftr.ext _ _ q2)
    omega
 ·unfold rhoK at e
  split at e
  ·exact Fold o p e
  ·cases e
 ·obtain ⟨k1,k2⟩:=Fkp o ho fun x hx=>by have:=hwr x hx; omega
  exact ⟨(hlk o ho).trans k1,k2⟩
end
end Go.Proofs.YtgaehhapjnbieaaGreat
