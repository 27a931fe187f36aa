/- Layer 5: quotients, denominators that are 1, the first number of a row that is not 0. -/
import Derived.Test.YtdopbgnkneeceaaGreatqVv
set_option linter.unusedSectionVars false
set_option linter.unusedVariables false
set_option linter.unusedSimpArgs false
set_option maxRecDepth 100000
namespace Go.Proofs.YtdopbgnkneeceaaGreat
open Go.RowKit
theorem EC{V:VL}(hz:∀ k,V.z k=0){L:List (CE × Nat × Int)}{B:List (CE × Nat)}{Z:List (CE × Bool)}{U:List (CE × Nat)}(hl:∀ x∈L,((lD V x.1).length:Int)=x.2.2)(hb:∀ x∈B,∀ y∈lD V x.1,AR y x.2)(hzr:∀ x∈Z,decide (qD V x.1=0)=x.2)(hu:∀ x∈U,rD V x.1=[]):Bi V ⟨[],L,B,Z,[],U,[]⟩:=
 ⟨hz 0,λk=>by rw [hz k]; omega,λ_ h=>(by cases h),λx hx=>by rw [hl x hx,hz]; omega,hb,hzr,λ_ h=>(by cases h),λx hx y hy=>(by rw [hu x hx] at hy; cases hy),λ_ h=>(by cases h)⟩
def ZM(q:CE):CE:=.ap 32 (.ap 48 q (.lit 0)) (.ap 36 (.lit 1) (.lit 1))
theorem Pj(V:VL)(q:CE):(qD V (ZM q)=0)=((qD V q).den=1):=by
 unfold ZM;simp only [qD];have:mkRat 1 (1:Int).toNat=1:=by decide
 rw [this];refine propext ⟨λh=>?_,λh=>?_⟩
 ·have h2:(((qD V q).den:Int):Rat)=1:=by grind
  have h3:((qD V q).den:Int)=1:=Rat.intCast_inj.1 h2;omega
 ·rw [h]
  show ((1:Int):Rat) - 1=0
  grind
def nzC(F:Fa)(q:CE):Bool:=match Iz F.zr q with
 | some b=>!b
 | none=>false
theorem fG{V:VL}{F:Fa}(hF:Bi V F){q:CE}(h:nzC F q=true):qD V q≠0:=by
 unfold nzC at h;split at h
 ·rename_i b hb
  have:=hF.zr _ (Bu hb)
  cases b with
  | true=>cases h
  | false=>exact of_decide_eq_false this
 ·cases h
def dvM(F:Fa):List AV→Option AV
 | [x,y]=>match FO x,FO y with
  | some p,some q=>if Nat.ble p.2 90000000 && Nat.ble q.2 90000000 && nzC F q.1 then some (.tup [aQ (.ap 46 p.1 q.1) (p.2+q.2),.val (.int .i64 0)]) else none
  | _,_=>none
 | _=>none
noncomputable def OY(F:Fa):PE:=⟨113,dvM F⟩
def onM(F:Fa):List AV→Option AV
 | [.ext 2 true (.ap 54 q (.lit n))]=>if Nat.ble n.toNat 1000000000 then (Iz F.zr (ZM q)).map λb=>.val (.bool b) else none
 | _=>none
noncomputable def YS(F:Fa):PE:=⟨93,onM F⟩
section
variable {V : VL} {F : Fa}
theorem Js(hF:Bi V F):@PE.ok (Ab V) (OY F):=by
 intro xs r e;have e:dvM F xs=some r:=e;refine ⟨λ_ _=>by simp [OY,go_sem],λρ M w vs _ hv=>?_⟩;unfold dvM at e;split at e
 ·rename_i x y
  split at e
  ·rename_i p q hp hq
   split at e
   ·rename_i hc
    rw [Bool.and_eq_true,Bool.and_eq_true] at hc
    cases e
    obtain ⟨va,_,rfl,h1,vb,_,rfl,h2,h3⟩:=hv;have h3:_=[]:=h3;subst h3;obtain ⟨a1,a2⟩:=Bn hp (@Bz.rv (Ab V) ρ M w _ _ h1);obtain ⟨b1,b2⟩:=Bn hq (@Bz.rv (Ab V) ρ M w _ _ h2);have hne:qD V q.1≠0:=fG hF hc.2;have l1:=Nat.le_of_ble_eq_true hc.1.1;have l2:=Nat.le_of_ble_eq_true hc.1.2;refine Calls.mono (Ab4 a1 b1 a2 b2 (by omega) (by omega) hne) λe w' ⟨v,e1,e2,e3⟩=>⟨v,e1,?_,e3⟩
    obtain ⟨u,c,rfl,q1,q2⟩:=e2;refine ⟨_,rfl,u,_,rfl,Fk (V:=V) (q:=.ap 46 p.1 q.1) ?_ ?_,c,_,rfl,q2,rfl⟩
    ·simp only [qD]
     exact q1
    ·simp only [qD]
     exact a2.div b2
   ·cases e
  ·cases e
 ·cases e
theorem lO(hF:Bi V F):@PE.ok (Ab V) (YS F):=by
 intro xs r e;have e:onM F xs=some r:=e;refine ⟨λ_ _=>by simp [YS,go_sem],λρ M w vs _ hv=>?_⟩;unfold onM at e;split at e
 ·rename_i q n _
  split at e
  ·rename_i hn
   obtain ⟨b,hb,rfl⟩:=Option.map_eq_some_iff.1 e;obtain ⟨va,_,rfl,h1,h3⟩:=hv;have h3:_=[]:=h3;subst h3;obtain ⟨cs,rfl,hc⟩:=h1;unfold Rp at hc;obtain ⟨_,s,x,y,e2,hi⟩:=hc;have hcs:cs = #[x,y]:=Array.toList_inj.1 e2;subst hcs;have hq:decide (qD V (ZM q)=0)=b:=hF.zr _ (Bu hb);have hd:decide (((qD V q).den:Int)=1)=b:=by
    rw [← hq];rw [decide_eq_decide,Pj];omega
   refine Calls.mono (Abs (x:=((qD V q).den:Int)) (i:=n.toNat) hi s (Nat.le_of_ble_eq_true hn)) λe w' ⟨v,e1,e3,e4⟩=>⟨v,e1,?_,e4⟩
   have e3:v = .bool (decide (((qD V q).den:Int)=1)):=e3;rw [e3,hd];exact rfl
  ·cases e
 ·cases e
end
def LB:Nat:=80001
def cI(i:Nat):CE:=.ap 30 (.v 0) (.i 0 (i:Int))
def Akn(n j:Nat):List (CE × Bool):=((List.range j).map λi=>(cI i,true)) ++ (if j<n then [(cI j,false)] else [])
def AiP(n j:Nat):Fa:=⟨[],[(.v 0,0,(n:Int))],[(.v 0,80001)],Akn n j,[],[],[]⟩
noncomputable def Akl(n j:Nat):Option AV:=bL [.leaf] (BR AC (Dd (Wn (AiP n j) []) AC 200) 91 [aL (.v 0)] [] 16 0)
def AdZ(n j:Nat):CE:=if j<n then cI j else .ap 36 (.lit 1) (.lit 1)
def isN(q:CE)(b:Nat)(o:Option AV):Bool:=match o with
 | some a=>(match FO a with
  | some p=>CE.beq p.1 q && Nat.ble p.2 b
  | none=>false)
 | none=>false
noncomputable def AhO:Bool:=(List.range 7).all λn=>(List.range (n+1)).all λj=>isN (AdZ n j) 80001 (Akl n j)
theorem AcD:AhO=true:=by kernel_rfl
theorem rH:∀(l:List Rat),∃ j,j≤l.length∧(∀ i,i<j→l.getD i 0=0)∧(j<l.length→l.getD j 0≠0)∧gG l=(if j<l.length then l.getD j 0 else 1)
 | []=>⟨0,Nat.le_refl _,λi h=>absurd h (Nat.not_lt_zero i),λh=>absurd h (Nat.not_lt_zero 0),rfl⟩
 | x :: l=>by
  by_cases hx:x=0
  ·obtain ⟨j,h1,h2,h3,h4⟩:=rH l
   refine ⟨j+1,by simp; omega,λi hi=>?_,λh=>?_,?_⟩
   ·cases i with
    | zero=>exact hx
    | succ i=>exact h2 i (by omega)
   ·exact h3 (by simpa using h)
   ·unfold gG
    rw [if_pos hx,h4];simp
  ·refine ⟨0,Nat.zero_le _,λi h=>absurd h (Nat.not_lt_zero i),λ_=>hx,?_⟩
   unfold gG;rw [if_neg hx];rfl
theorem Z7{q:CE}{b:Nat}{o:Option AV}(h:isN q b o=true):∃ a n,o=some a∧FO a=some (q,n)∧n≤b:=by
 unfold isN at h;split at h
 ·rename_i a
  split at h
  ·rename_i p hp
   rw [Bool.and_eq_true] at h;exact ⟨a,p.2,rfl,by rw [hp,← CE.beq_eq h.1],Nat.le_of_ble_eq_true h.2⟩
  ·cases h
 ·cases h
theorem Aj0{l:List Rat}(hs:∀ x∈l,AR x 80001)(hn:l.length≤6){M:Nat→Prop}{w:World}{v:Value}(hm0:∀ b,M b→b<w.heap.size)(hv:(XP.rats l).p M w [v]) :
  Calls Tryz.prog 91 #[v] w (Aj (An (gG l)) w):=by
 obtain ⟨j,h1,h2,h3,h4⟩:=rH l
 let V:VL:=⟨λ_=>0,λk=>match k with | 0=>l | _=>[],λ_=>0,λ_=>[]⟩
 have hel:∀ i,qD V (cI i)=l.getD i 0:=λi=>by simp [cI,qD,lD,zD,V]
 have hF:Bi V (AiP l.length j):=EC (λ_=>rfl) (λx hx=>by
  rw [List.mem_singleton] at hx;subst hx;simp [lD,V]) (λx hx=>by
  rw [List.mem_singleton] at hx;subst hx;simpa [lD,V] using hs) (λx hx=>by
  rcases List.mem_append.1 hx with hx | hx
  ·obtain ⟨i,hi,rfl⟩:=List.mem_map.1 hx
   rw [hel];exact decide_eq_true (h2 i (List.mem_range.1 hi))
  ·split at hx
   ·rename_i hj
    rw [List.mem_singleton] at hx;subst hx;rw [hel];exact decide_eq_false (h3 hj)
   ·cases hx) (λ_ h=>by cases h)
 have hr:=List.all_eq_true.1 (List.all_eq_true.1 AcD l.length (List.mem_range.2 (by omega))) j (List.mem_range.2 (by omega));obtain ⟨ra,b,hr,hq,_⟩:=Z7 hr;refine Calls.mono (J4 (M:=M) (w:=w) (vs:=[v]) hF (λ_ h=>by cases h) hr hm0 ⟨v,_,rfl,EP (V:=V) (e:=.v 0) hv,rfl⟩) λe w' ⟨u,e1,e2,e3⟩=>⟨u,e1,?_,e3⟩
 have:=(Bn hq e2).1;have e:qD V (AdZ l.length j)=gG l:=by
  rw [h4];unfold AdZ;split
  ·exact hel j
  ·simp only [qD]
   decide
 rw [e] at this;exact this
def exB:Ex→Ex→Bool
 | .nor,.nor=>true
 | .ret,.ret=>true
 | .ext a,.ext b=>Nat.beq a b
 | _,_=>false
theorem AeT{a b:Ex}(h:exB a b=true):a=b:=by
 cases a <;> cases b <;> first
  | rfl
  | (cases h; done)
  | (rw [Nat.eq_of_beq_eq_true h])
def wU(n0:Nat)(H:HP)(wr:List Nat):Bool:=(below n0 H).all λx=>memN x.1 wr
theorem OK{n0:Nat}{H:HP}{wr:List Nat}(h:wU n0 H wr=true){o:Nat}(ho:o<n0)(hw:∀ x∈wr,x≠o):lk H o=none:=by
 cases hl:lk H o with
 | none=>rfl
 | some b =>
  exfalso;have hb:lk (below n0 H) o=some b:=by rw [FW ho]; exact hl
  have:memN o wr=true:=by
   unfold wU at h
   revert hb h
   generalize below n0 H=K
   induction K with
   | nil=>intro _ hb; cases hb
   | cons x r ih =>
    intro c5 hb;rw [List.all_cons,Bool.and_eq_true] at c5;unfold lk at hb;split at hb
    ·rename_i hx
     rw [← Nat.eq_of_beq_eq_true hx];exact c5.1
    ·exact ih c5.2 hb
  have mem:∀{l:List Nat},memN o l=true→o∈l:=fun {l}=>by
   induction l with
   | nil=>intro h; cases h
   | cons x l ih =>
    intro h;unfold memN at h;split at h
    ·rename_i hx
     rw [Nat.eq_of_beq_eq_true hx];exact List.mem_cons_self ..
    ·exact List.mem_cons_of_mem _ (ih h)
  exact hw o (mem this) rfl
noncomputable def ON(n0:Nat)(Lf:Fm→List (Nat × Nat))(B:List Nat)(d:Rd)(s1 s':Fm):Bool:=match nW n0 (Lf s1) B s'.nx s1 with
 | some s2=>iJ d n0 s2 s' && (s2.wr.all λx=>Nat.ble n0 x || memN x s'.wr) && wU n0 s2.H s'.wr && wU n0 s'.H s'.wr
 | none=>false
noncomputable def oW(T:Tb)(cf:Cf)(k:List WI)(e:Ex)(n0:Nat)(s:Fm)(Lf:Fm→List (Nat × Nat))(B:List Nat)(d:Rd)(s':Fm):Bool:=match DR T AC 300 300 cf k s with
 | some (.done e' s1)=>exB e e' && ON n0 Lf B d s1 s'
 | _=>false
section
variable {A : Nat → Prop} {W0 : World} {ρ0 : Bg} {M0 : Nat → Prop} {H0 : HP} {n0 : Nat} {s s' : Fm} {ρ : Bg} {M : Nat → Prop} {a : Act} {w : World} {Q : Exit → Act → World → Prop} {V V' : VL} {d : Rd} {B : List Nat} {Lf : Fm → List (Nat × Nat)}
theorem JC{s1:Fm}(hd:K5 (Ab V) (Ab V') d)(ho:d.out=[])(hr0:∀ o p,ρ0 o=some p→o<n0)(h:ON n0 Lf B d s1 s'=true)(hS:@FS (Ab V) A W0 ρ0 M0 H0 n0 s1 ρ M a w):∃ ρ' M',@FS (Ab V') A W0 ρ0 M0 H0 n0 s' ρ' M' a w:=by
 unfold ON at h;split at h
 ·rename_i s2 h2
  simp only [Bool.and_eq_true] at h;obtain ⟨⟨⟨h3,h4⟩,h5⟩,h6⟩:=h;obtain ⟨ρ2,hS2⟩:=@FS.ren (Ab V) _ _ _ _ _ _ _ _ _ _ _ _ _ _ _ h2 hr0 hS;refine ⟨_,_,FS.moveG hd hr0 (λo b c hm=>?_) h3 (λo hlt hw=>⟨λx hx e=>?_,?_⟩) hS2⟩
  ·rw [ho] at hm
   cases hm
  ·have:=List.all_eq_true.1 h4 x hx
   rw [Bool.or_eq_true] at this
   rcases this with q | q
   ·have:=Nat.le_of_ble_eq_true q
    omega
   ·exact hw x ((@CB (Ab V) _ _).1 q) e
  ·rw [OK h6 hlt hw,OK h5 hlt hw]
 ·cases h
theorem xF{F:Fa}{l:List PE}{C:BD}{cf:Cf}{k:List WI}{e:Ex}(hA:∀ b,W0.heap.size≤b→A b)(hF:Bi V F)(hl:∀ e∈l,@PE.ok (Ab V) e)(hC:@B5 (Ab V) C)(hd:K5 (Ab V) (Ab V') d)(ho:d.out=[])(hr0:∀ o p,ρ0 o=some p→o<n0)
  (h:oW (T8 F l C) cf k e n0 s Lf B d s'=true) (hS:@FS (Ab V) A W0 ρ0 M0 H0 n0 s ρ M a w) (hQ:∀ ρ M a w,@FS (Ab V') A W0 ρ0 M0 H0 n0 s' ρ M a w→Q e.e a w):holds Q k a w cf:=by
 unfold oW at h;split at h
 ·rename_i e' s1 hr
  rw [Bool.and_eq_true] at h
  cases AeT h.1
  refine IF hA hF hl hC _ hr hS λρ1 M1 a1 w1 hS1=>?_
  obtain ⟨ρ2,M2,hS2⟩:=JC hd ho hr0 h.2 hS1;exact hQ ρ2 M2 a1 w1 hS2
 ·cases h
theorem DT{q q':CE}{n n':Nat}(h:qD V q=qD V' q')(hs:AR (qD V' q') n'):Le V V' (aQ q n,aQ q' n'):=λρ ρ' M w cs r=>by
 unfold Rp at r ⊢;refine ⟨r.1,?_⟩;obtain ⟨_,a,b,c,d,e,h1,h2⟩:=r.2;show (XP.num (qD V' q') ((n':Int)).toNat).p M w cs;rw [← h];exact ⟨by rw [h]; simpa using hs,a,b,c,d,e,h1,h2⟩
theorem Jk(x:AV)(h:match x with | .val _=>True | .rat _=>True | .num _=>True | _=>False):Le V V' (x,x):=λρ ρ' M w cs r=>by
 cases x <;> first
  | exact h.elim
  | (unfold Rp at r ⊢; exact r)
end
def kdP(U:HP):Kd→AV→Option AV
 | .leaf,.ext n g c=>some (.ext n g c)
 | .leaf,.rat q=>some (.rat q)
 | .leaf,_=>none
 | k,.sl o a n c=>gI U k (.sl o a n c)
 | _,_=>none
def IK(U:HP):List Kd→List AV→Option (List AV)
 | [],[]=>some []
 | k :: ks,a :: l=>match kdP U k a,IK U ks l with
  | some r,some rs=>some (r :: rs)
  | _,_=>none
 | _,_=>none
section
variable {V : VL} {F : Fa} {ρ : Bg} {M M' : Nat → Prop} {w w0 : World}
theorem AcO{U:HP}{k:Kd}{o a n:Nat}{c:Option Nat}{r:AV}(h:gI U k (.sl o a n c)=some r):∃ c',r = .ext 1 false c':=by
 have key:∀ k:Kd,(match lk U o with
   | some b=>if b.bl.isNone then kdR n b.cs k else none
   | none=>none)=some r→(k = .leaf→False)→∃ c',r = .ext 1 false c':=λk h hk=>by
  split at h
  ·split at h
   ·cases k
    ·exact (hk rfl).elim
    all_goals
     unfold kdR at h;obtain ⟨_,_,rfl⟩:=Option.map_eq_some_iff.1 h;exact ⟨_,rfl⟩
   ·cases h
  ·cases h
 cases a with
 | zero=>cases k with
  | leaf=>cases h
  | L=>exact key .L h (λe=>by cases e)
  | Z=>exact key .Z h (λe=>by cases e)
  | X=>exact key .X h (λe=>by cases e)
  | M=>exact key .M h (λe=>by cases e)
 | succ a=>cases k <;> cases h
theorem ZT(hF:Bi V F)(hm0:∀ b,M b→b<w0.heap.size)(hsup:∀ b,M b→M' b){U:HP}(hR:@RH (Ab V) ρ M' (Di BQ w0 (lk [])) w (CR (lk []) U)){k:Kd}{a r:AV}{cs:List Value}(h:kdP U k a=some r)(hv:@Rp (Ab V) ρ M' w a cs):@Rp (Ab V) BQ M w r cs:=by
 letI:=Ab V
 unfold kdP at h;split at h
 ·cases h
  unfold Rp at hv ⊢;exact ⟨hv.1,((Ab V).X _).st M' M w w cs (Bt.refl w) (λ_ _ _=>.inl rfl) (λb _ hb=>hsup b hb) hv.2⟩
 ·cases h
  unfold Rp at hv ⊢;exact hv
 ·cases h
 ·rename_i k o a n c _
  have hv2:=hv;unfold Rp at hv2;obtain ⟨g,cc,kk,q1,rfl,_⟩:=hv2;have key:Bz BQ M w r _:=Dp hF hm0 hsup hR h (show Bz ρ M' w (.sl o a n c) _ from hv);obtain ⟨c',rfl⟩:=AcO h;exact key
 ·cases h
theorem NJ(hF:Bi V F)(hm0:∀ b,M b→b<w0.heap.size)(hsup:∀ b,M b→M' b){U:HP}(hR:@RH (Ab V) ρ M' (Di BQ w0 (lk [])) w (CR (lk []) U)):∀{ks:List Kd}{l rs:List AV}{cs:List Value},IK U ks l=some rs → @AQ (Ab V) ρ M' w l cs → @AQ (Ab V) BQ M w rs cs
 | [],[],_,_,h,hv=>by
  unfold IK at h
  cases h
  unfold AQ at hv ⊢;exact hv
 | k :: ks,a :: l,rs,cs,h,hv=>by
  unfold IK at h;split at h
  ·rename_i r rs' h1 h2
   cases h
   unfold AQ at hv ⊢;obtain ⟨x,y,e,q1,q2⟩:=hv;exact ⟨x,y,e,ZT hF hm0 hsup hR h1 q1,NJ hF hm0 hsup hR h2 q2⟩
  ·cases h
 | [],_ :: _,_,_,h,_=>by unfold IK at h; cases h
 | _ :: _,[],_,_,h,_=>by unfold IK at h; cases h
end
end Go.Proofs.YtdopbgnkneeceaaGreat
