/- Layer 5: lowered. -/
import Derived.Test.YtdopbgnkneeceaaGreatqN1
set_option linter.unusedSectionVars false
set_option linter.unusedVariables false
set_option linter.unusedSimpArgs false
set_option maxRecDepth 100000
namespace Go.Proofs.YtdopbgnkneeceaaGreat
open Go.RowKit
noncomputable def dH:Func:=Tryz.f67
noncomputable def cN:=DH dH
noncomputable def xW:=lpB cN []
noncomputable def xI:List WI:=lpK cN []
noncomputable def jU:PE:=⟨91,λxs=>match xs with
 | [.ext 1 false (.ap 51 (.v 0) _)]=>some (aQ (.ap 29 (.v 0) (.lit 0)) 80001)
 | _=>none⟩
def BV(l:List Rat)(c:Rat)(k:Nat):VL:=⟨λ_=>0,λm=>match m with | 0=>l | _=>[],λm=>match m with | 0=>c | 1=>Cn l k | m+2=>l.getD m 0 / Cn l k,λ_=>[]⟩
def QY(k:Nat):CE:=.ap 46 (cI k) (.v 1)
def K7(k:Nat):CE:=.ap 48 (QY k) (.lit 0)
def ZW(k:Nat):Nat→List (CE × Bool)
 | 0=>[(cI k,true)]
 | 1=>[(cI k,false),(.v 1,false),(ZM (QY k),true)]
 | 2=>[(cI k,false),(.v 1,false),(ZM (QY k),false),(K7 k,false)]
 | _=>[]
def Tt(n k p:Nat):Fa:=⟨[],[(.v 0,0,(n:Int))],[(.v 0,80001)],ZW k p,[],[],[]⟩
def Yq:List AV:=[aQ (.v 0) 50000000,aL (.v 0)]
noncomputable def jN(n k p:Nat):Tb:=T8 (Tt n k p) [jU,OY (Tt n k p),YS (Tt n k p)] N6
noncomputable def pO(n:Nat):=DR (jN n 0 3) AC 300 300 (.run cN) [] (Aeo 54 Yq)
def iv(n:Nat):AV:=.val (.int .i64 (n:Int))
def Mc(j:Nat):AV:=aQ (.v (2+j)) 80001
noncomputable def pN(n k:Nat)(f:Bool):Fm:=gD 54 [(2,.ptr 16 0),(4,.ptr 19 0),(5,.ptr 17 0),(6,.sl 18 0 k (if f then some k else none)),(16,aL (.v 0)),(17,iv n),(18,iv k)]
  [(16,some ⟨36,1,[aQ (.v 0) 50000000],false,none⟩),(17,some ⟨36,1,[aQ (.v 1) 80001],false,none⟩),(18,some ⟨36,4,(List.range k).map Mc,!f,none⟩),
   (19,some ⟨78,1,[.val (.bool false),.val (.slice none 0 0),.val (.bool false),.val (.slice none 0 0),.val (.slice none 0 0)],false,none⟩)] 100
def Ain(s:Fm):List (Nat × Nat):=match (s.tm[2]? : Option AV),(s.tm[4]? : Option AV),(s.tm[5]? : Option AV),(s.tm[6]? : Option AV) with
 | some (.ptr a _),some (.ptr b _),some (.ptr c _),some (.sl d _ _ _)=>[(a,16),(c,17),(d,18),(b,19)]
 | _,_,_,_=>[]
def xK(n k:Nat):List (AV × AV):=[(aQ (.v 0) 50000000,aQ (.v 0) 50000000),(aL (.v 0),aL (.v 0)),(iv n,iv n),(iv k,iv k),(.val (.bool false),.val (.bool false))]
def AiG(n:Nat):Rd:=⟨(aQ (.ap 29 (.v 0) (.lit 0)) 80001,aQ (.v 1) 80001) :: xK n 0,[],[],[],[],100⟩
def lS(k:Nat):Nat→List (AV × AV)
 | 0=>(aQ (.v 1) 80001,aQ (.v 1) 80001) :: (aQ (cI k) 80001,Mc k) :: (List.range k).map λj=>(Mc j,Mc j)
 | 1=>(aQ (.v 1) 80001,aQ (.v 1) 80001) :: (aQ (QY k) 160002,Mc k) :: (List.range k).map λj=>(Mc j,Mc j)
 | _=>(aQ (.ap 46 (.v 1) (K7 k)) 240003,aQ (.v 1) 80001) :: (aQ (.ap 33 (QY k) (K7 k)) 320004,Mc k) :: (List.range k).map λj=>(aQ (.ap 33 (.v (2+j)) (K7 k)) 240003,Mc j)
def AgG(n k p:Nat):Rd:=⟨lS k p ++ xK n (k+1),[],[],[],[],100⟩
noncomputable def Acj(n:Nat):Bool:=ON 16 Ain [] (AiG n) (Mm (pO n)) (pN n 0 (Nat.beq n 0))
noncomputable def kV(n k p:Nat)(f:Bool):Bool:=oW (jN n k p) (.run xW) [] .nor 16 (pN n k f) Ain [] (AgG n k p) (pN n (k+1) (Nat.beq p 2))
noncomputable def oU(n:Nat)(f:Bool):=DR (jN n n 3) AC 300 300 (.run xW) [] (pN n n f)
noncomputable def Ahp(n:Nat)(f:Bool):=DR (jN n n 3) AC 300 300 (.at_ (.ext 0)) xI (Mm (oU n f))
def AiB(n:Nat):List AV:=[aQ (.ap 33 (.v 0) (.v 1)) 50080001,aL (FY ((List.range n).map λj=>.v (2+j)))]
def Gv:List AV→List AV→Bool
 | [],[]=>true
 | a :: l,b :: m=>Ft a b && Gv l m
 | _,_=>false
theorem C6:∀{l m:List AV},Gv l m=true→l=m
 | [],[],_=>rfl
 | a :: l,b :: m,h=>by
  unfold Gv at h;rw [Bool.and_eq_true] at h;rw [FN h.1,C6 h.2]
 | [],_ :: _,h=>by cases h
 | _ :: _,[],h=>by cases h
noncomputable def AgX(fn:Func)(s:Fm)(ks:List Kd)(rs:List AV):Bool:=match MY s fn.results.toList with
 | some [.agg l]=>(match IK s.H ks l with
  | some r=>Gv r rs
  | none=>false)
 | _=>false
noncomputable def Zb(n:Nat)(f:Bool):Bool:=(match oU n f,Ahp n f with
 | some (.done (.ext 0) _),some (.done .ret s)=>AgX dH s [.leaf,.L] (AiB n)
 | _,_=>false)
theorem Aie:∀ n,n<7→pO n=some (.loop xW xI (Mm (pO n)))
 | 0,_=>by kernel_rfl
 | 1,_=>by kernel_rfl
 | 2,_=>by kernel_rfl
 | 3,_=>by kernel_rfl
 | 4,_=>by kernel_rfl
 | 5,_=>by kernel_rfl
 | 6,_=>by kernel_rfl
noncomputable def AgJ:Bool:=(List.range 7).all Acj
noncomputable def Ahn:Bool:=(List.range 7).all λn=>Zb n true && Zb n false
noncomputable def Ah7(n:Nat):Bool:=(List.range n).all λk=>(List.range 3).all λp=>kV n k p true && kV n k p false
theorem AgN:AgJ=true:=by kernel_rfl
theorem Aip:Ahn=true:=by kernel_rfl
theorem AjQ:∀ n,n<7→Ah7 n=true
 | 0,_=>by kernel_rfl
 | 1,_=>by kernel_rfl
 | 2,_=>by kernel_rfl
 | 3,_=>by kernel_rfl
 | 4,_=>by kernel_rfl
 | 5,_=>by kernel_rfl
 | 6,_=>by kernel_rfl
theorem AiA:dH.body=some cN:=by kernel_rfl
theorem Abx:dH.ntmps=54:=by kernel_rfl
theorem AeL{V:VL}{ρ ρ':Bg}{M M':Nat→Prop}{w:World}{q:CE}{n:Nat}{cs:List Value}(h:@Rp (Ab V) ρ M w (aQ q n) cs):@Rp (Ab V) ρ' M' w (aQ q n) cs:=by
 unfold Rp at h ⊢;exact ⟨h.1,h.2⟩
section
variable {V : VL} {F : Fa} {ρ : Bg} {M M' M2 : Nat → Prop} {w w0 : World}
theorem slF(hF:Bi V F)(hm0:∀ b,M b→b<w0.heap.size){U:HP}(hR:@RH (Ab V) ρ M' (Di BQ w0 (lk [])) w (CR (lk []) U)){o n:Nat}{c:Option Nat}{e:CE}{cs:List Value}(h:gI U .L (.sl o 0 n c)=some (aL e))(hv:@Rp (Ab V) ρ M' w (.sl o 0 n c) cs):@Rp (Ab V) BQ M w (aL e) cs:=by
 have hv2:=hv;unfold Rp at hv2;obtain ⟨g,cc,kk,q1,rfl,_⟩:=hv2;have key:@Bz (Ab V) BQ (λ_=>False) w (aL e) _:=Dp hF (λb hb=>hb.elim) (λb hb=>hb.elim) hR h (show @Bz (Ab V) ρ M' w (.sl o 0 n c) _ from hv);obtain ⟨A,c',e1,e2,e3⟩:=C3 key;have hge:w0.heap.size≤g:=by
  have h':(match lk U o with
   | some b=>if b.bl.isNone then kdR n b.cs .L else none
   | none=>none)=some (aL e):=h
  split at h'
  ·rename_i b hb
   have hU:CR (lk []) U o=some b:=by
    letI:=Ab V
    rw [← CZ,List.append_nil];exact hb
   obtain ⟨hobj,_⟩:=id hR;obtain ⟨g2,c2,arr,cs,k1,_,k3,_⟩:=hobj o b hU;rw [q1] at k1;have:g=g2:=congrArg Prod.fst (Option.some.inj k1);subst this
   rcases k3 with h1 | ⟨_,_,_,h1,_⟩
   ·exact h1
   ·cases h1
  ·cases h'
 have hfin:(XP.rats (lD V e)).p M w [.slice (some ⟨g,0,none⟩) n kk]:=by
  refine ⟨A,c',e1,e2,λh0=>?_⟩;obtain ⟨g',off,xs,p1,p2,p3⟩:=e3 h0;have e4:=(List.cons.inj e1).1;rw [p1] at e4;injection e4 with e5 _ _
  injection e5 with e5
  injection e5 with e5 _ _
  subst e5;exact ⟨g,off,xs,p1,λhm=>by
   have:=hm0 g hm;omega,p3⟩
 have:=EP (ρ:=BQ) hfin;exact this
theorem gL{U:HP}{l:List AV}{a b:AV}(h:IK U [.leaf,.L] l=some [a,b]):∃ x y,l=[x,y]∧kdP U .leaf x=some a∧kdP U .L y=some b:=by
 cases l with
 | nil=>unfold IK at h; cases h
 | cons x l =>
  unfold IK at h;split at h
  ·rename_i r rs h1 h2
   cases h
   cases l with
   | nil=>unfold IK at h2; cases h2
   | cons y l =>
    unfold IK at h2;split at h2
    ·rename_i r rs h3 h4
     cases h2
     cases l with
     | nil=>exact ⟨x,y,rfl,h1,h3⟩
     | cons z l=>unfold IK at h4; cases h4
    ·cases h2
  ·cases h
theorem Ah8{U:HP}{x:AV}{q:CE}{m:Nat}(h:kdP U .leaf x=some (aQ q m)):x=aQ q m:=by
 cases x <;> first
  | (cases h; done)
  | (cases h; rfl)
theorem Aig{U:HP}{y r:AV}(h:kdP U .L y=some r):∃ o n c,y = .sl o 0 n c∧gI U .L (.sl o 0 n c)=some r:=by
 cases y <;> first
  | (cases h; done)
  | skip
 rename_i o a n c
 cases a with
 | zero=>exact ⟨o,n,c,rfl,h⟩
 | succ a=>cases h
theorem dP(hF:Bi V F){s:Fm}{a:Act}{l:List AV}{q e:CE}{m:Nat}{v:Value}(hm0:∀ b,M b→b<w0.heap.size)(hS:@bA (Ab V) w0 M' s ρ M2 a w)(h:IK s.H [.leaf,.L] l=some [aQ q m,aL e])(hv:@RV (Ab V) ρ M2 w (.agg l) v):@RV (Ab V) BQ M w (.agg [aQ q m,aL e]) v:=by
 obtain ⟨_,_,_,⟨hobj,hinj⟩,_⟩:=id hS;obtain ⟨cs,rfl,hc⟩:=hv;refine ⟨cs,rfl,?_⟩;have hR:@RH (Ab V) ρ M2 (Di BQ w0 (lk [])) w (CR (lk []) s.H):=by
  have e:CR (lk []) s.H=lk s.H:=funext λo=>by
   letI:=Ab V
   rw [← CZ,List.append_nil]
  rw [e];exact @RH.mk (Ab V) _ _ _ _ _ (λo b q=>by
   obtain ⟨g,c,arr,cs,k1,k2,k3,k4,k5,k6,k7,k8⟩:=hobj o b q;exact ⟨g,c,arr,cs,@IQ.mk (Ab V) _ _ _ _ _ _ _ _ _ _ k1 k2 (.inl k3) k4 k5 k6 k7 k8⟩) hinj
 obtain ⟨x,y,rfl,h1,h3⟩:=gL h;unfold AQ at hc ⊢;obtain ⟨c1,c2,e1,r1,r2⟩:=hc;unfold AQ at r2 ⊢;obtain ⟨c3,c4,e2,r3,r4⟩:=r2;have h1:=Ah8 h1;subst h1;obtain ⟨o,n,c,rfl,h3⟩:=Aig h3;exact ⟨c1,c2,e1,AeL r1,c3,c4,e2,slF hF hm0 hR h3 r3,by unfold AQ at r4 ⊢; exact r4⟩
end
theorem Dy{w:Int}{s:Nat}(h:Sm w s)(hs:1≤s):AR (w:Rat) s:=by
 obtain ⟨i,rfl⟩:∃ i,s=i+1:=⟨s - 1,by omega⟩;exact AR.whole h
theorem Ajp(fn:Func){N:Nat}(h:fn.ntmps=N)(xs:List AV):(⟨xs ++ List.replicate (fn.ntmps - xs.length) (.val undef),[],16,[]⟩:Fm)=Aeo N xs:=by
 rw [h];rfl
section
variable {l : List Rat} {c : Rat} {D : Int} {s : Nat}
theorem XA(k j:Nat):qD (BV l c k) (cI j)=l.getD j 0:=by simp [cI,qD,lD,zD,BV]
theorem Fz(k:Nat):qD (BV l c k) (.v 1)=Cn l k:=by simp [qD,BV]
theorem F7(k j:Nat):qD (BV l c k) (.v (2+j))=l.getD j 0 / Cn l k:=by
 rw [Nat.add_comm];simp only [qD,BV]
theorem SM(k:Nat):qD (BV l c k) (QY k)=l.getD k 0 / Cn l k:=by
 unfold QY;simp only [qD];rw [← XA (c:=c) k k,← Fz (c:=c) k];simp only [qD]
theorem PX(k:Nat):qD (BV l c k) (K7 k)=(((l.getD k 0 / Cn l k).den:Int):Rat):=by
 unfold K7;simp only [qD];rw [SM]
theorem pD(h:Ei D s l)(hs:s≤80000){k p:Nat}(hz:∀ x∈ZW k p,decide (qD (BV l c k) x.1=0)=x.2):Bi (BV l c k) (Tt l.length k p):=EC (λ_=>rfl) (λx hx=>by
 rw [List.mem_singleton] at hx;subst hx;simp [lD,BV]) (λx hx=>by
 rw [List.mem_singleton] at hx;subst hx;intro y hy;have hy:y∈l:=by simpa [lD,BV] using hy
 exact (h.rsm hy).mono (by omega)) hz (λ_ h=>by cases h)
theorem xO(h:Ei D s l)(hs:s≤80000)(hs1:1≤s)(hn:l.length≤6)(k:Nat):@PE.ok (Ab (BV l c k)) jU:=by
 intro xs r e;refine ⟨λ_ _=>by simp [jU,go_sem],λρ M w vs hm0 hv=>?_⟩;unfold jU at e;dsimp only at e;split at e
 ·rename_i dd
  cases e
  obtain ⟨va,_,rfl,h1,h3⟩:=hv;have h3:_=[]:=h3;subst h3;have hl:lD (BV l c k) (.v 0)=l:=by simp [lD,BV]
  have h1:=C3 h1;rw [hl] at h1;refine Calls.mono (Aj0 (λx hx=>(h.rsm hx).mono (by omega)) hn hm0 h1) λe w' ⟨v,e1,e2,e3⟩=>⟨v,e1,@Bz.rv (Ab (BV l c k)) ρ M w' _ _ (Fk (q:=.ap 29 (.v 0) (.lit 0)) ?_ ?_),e3⟩
  ·simp only [qD]
   rw [hl];exact e2
  ·simp only [qD]
   rw [hl];exact (Fv h 0).mono (by omega)
 ·cases e
theorem Qd(h:Ei D s l)(hs:s≤80000)(hs1:1≤s)(hn:l.length≤6){k p:Nat}(hF:Bi (BV l c k) (Tt l.length k p)):∀ e∈[jU,OY (Tt l.length k p),YS (Tt l.length k p)],@PE.ok (Ab (BV l c k)) e:=λe he=>by
 simp only [List.mem_cons,List.not_mem_nil,or_false] at he
 rcases he with rfl | rfl | rfl
 ·exact xO h hs hs1 hn k
 ·exact Js hF
 ·exact lO hF
theorem AbR(sc:AR c 50000000)(k k' n i:Nat):∀ p∈xK n i,Le (BV l c k) (BV l c k') p:=λp hp=>by
 simp only [xK,List.mem_cons,List.not_mem_nil,or_false] at hp
 rcases hp with rfl | rfl | rfl | rfl | rfl
 ·exact DT rfl sc
 ·exact Km rfl
 ·exact Jk _ trivial
 ·exact Jk _ trivial
 ·exact Jk _ trivial
theorem AaE{k:Nat}(h:Ei D s l)(hs:s≤80000)(hs1:1≤s):AR (Cn l (k+1)) 80001∧∀ j,j<k+1→AR (l.getD j 0 / Cn l (k+1)) 80001:=by
 refine ⟨(Fv h _).mono (by omega),λj hj=>?_⟩;obtain ⟨G,_,_,_,hw⟩:=Jg h (k+1);obtain ⟨w,h1,h2⟩:=hw j hj;rw [h1];exact (Dy h2 hs1).mono (by omega)
theorem AhG(h:Ei D s l)(hs:s≤80000)(hs1:1≤s){k p:Nat}(hp:p<3)(h0:p=0→l.getD k 0=0)(h1:p=1→(l.getD k 0 / Cn l k).den=1):∀ x∈lS k p,Le (BV l c k) (BV l c (k+1)) x:=by
 obtain ⟨b1,b2⟩:=AaE (k:=k) h hs hs1;have hU:=Qg h k;have hd:=KF (l.getD k 0 / Cn l k);have hN:Cn l (k+1)=Cn l k / (((l.getD k 0 / Cn l k).den:Int):Rat):=rfl;have same:p=0 ∨ p=1→Cn l (k+1)=Cn l k:=λhp=>by
  have:(l.getD k 0 / Cn l k).den=1:=by
   rcases hp with hp | hp
   ·rw [h0 hp,Rat.div_def,Rat.zero_mul]
    rfl
   ·exact h1 hp
  rw [hN,this];show Cn l k / ((1:Int):Rat)=Cn l k
  grind
 have el:∀ j,j<k+1→(p=0 ∨ p=1)→Le (BV l c k) (BV l c (k+1)) (Mc j,Mc j):=λj hj hp=>DT (by rw [F7,F7,same hp]) (by rw [F7]; exact b2 j hj)
 intro x hx
 match p,hp with
 | 0,_ =>
  simp only [lS,List.mem_cons] at hx
  rcases hx with rfl | rfl | hx
  ·exact DT (by rw [Fz,Fz,same (.inl rfl)]) (by rw [Fz]; exact b1)
  ·exact DT (by rw [XA,F7,h0 rfl,Rat.div_def,Rat.zero_mul]) (by rw [F7]; exact b2 k (by omega))
  ·obtain ⟨j,hj,rfl⟩:=List.mem_map.1 hx
   exact el j (by have:=List.mem_range.1 hj; omega) (.inl rfl)
 | 1,_ =>
  simp only [lS,List.mem_cons] at hx
  rcases hx with rfl | rfl | hx
  ·exact DT (by rw [Fz,Fz,same (.inr rfl)]) (by rw [Fz]; exact b1)
  ·exact DT (by rw [SM,F7,same (.inr rfl)]) (by rw [F7]; exact b2 k (by omega))
  ·obtain ⟨j,hj,rfl⟩:=List.mem_map.1 hx
   exact el j (by have:=List.mem_range.1 hj; omega) (.inr rfl)
 | 2,_ =>
  simp only [lS,List.mem_cons] at hx
  rcases hx with rfl | rfl | hx
  ·refine DT ?_ (by rw [Fz]; exact b1)
   rw [Fz,hN];have e:qD (BV l c k) (.ap 46 (.v 1) (K7 k))=qD (BV l c k) (.v 1) / qD (BV l c k) (K7 k):=by simp only [qD]
   rw [e,Fz,PX]
  ·refine DT ?_ (by rw [F7]; exact b2 k (by omega))
   have e:qD (BV l c k) (.ap 33 (QY k) (K7 k))=qD (BV l c k) (QY k)*qD (BV l c k) (K7 k):=by simp only [qD]
   rw [e,SM,PX,F7,hN]
   grind
  ·obtain ⟨j,hj,rfl⟩:=List.mem_map.1 hx
   refine DT ?_ (by rw [F7]; exact b2 j (by have:=List.mem_range.1 hj; omega));have e:qD (BV l c k) (.ap 33 (.v (2+j)) (K7 k))=qD (BV l c k) (.v (2+j))*qD (BV l c k) (K7 k):=by simp only [qD]
   rw [e,F7,PX,F7,hN]
   grind
theorem Acy(h:Ei D s l)(hs:s≤80000)(hs1:1≤s)(sc:AR c 50000000)(hn:l.length≤6){V:VL}{q e:CE}(hq:qD V q=c*Eu l)(he:lD V e=Cj l){M:Nat→Prop}{w:World}{vc vl:Value}(hm0:∀ b,M b→b<w.heap.size)(hvc:(An c).p vc w)(hvl:(XP.rats l).p M w [vl]) :
  Calls Tryz.prog 67 #[vc,vl] w λen w'=>∃ u,en = .returned u ∧ @RV (Ab V) BQ (λb=>b<w.heap.size) w' (.agg [aQ q 50080001,aL e]) u∧Below w.heap.size w w':=by
 have hv:@CH (Ab (BV l c 0)) BQ M w Yq [vc,vl]:=⟨vc,_,rfl,Fk (V:=BV l c 0) (q:=.v 0) hvc sc,vl,_,rfl,EP (V:=BV l c 0) (e:=.v 0) hvl,rfl⟩;refine Calls.mono (@ZO (Ab (BV l c 0)) _ dH cN Yq Yq (λu w'=>@RV (Ab V) BQ (λb=>b<w.heap.size) w' (.agg [aQ q 50080001,aL e]) u) BQ M w [vc,vl] Tryz.func67 AiA (by rfl) (by rw [Abx]; decide) hm0 hv λa hS=>?_) λe w' h=>h
 rw [Ajp dH Abx] at hS;have hA:∀ b,w.heap.size≤b→(λb=>w.heap.size≤b) b:=λ_ h=>h
 have hr0:∀ o p,BQ o=some p→o<16:=λo p e=>by cases e
 have hF0:Bi (BV l c 0) (Tt l.length 0 3):=pD h hs λx hx=>by cases hx
 show holds _ [] a w (.run cN);refine IF hA hF0 (Qd h hs hs1 hn hF0) (@DM (Ab _)) _ (Aie l.length (by omega)) hS λρ M' a w' hS=>?_
 have hb0:Acj l.length=true:=List.all_eq_true.1 AgN _ (List.mem_range.2 (by omega));obtain ⟨ρ,M',hS⟩:=JC (V':=BV l c 0) (Xx (λp hp=>by
  rcases List.mem_cons.1 hp with rfl | hp
  ·refine DT ?_ (by rw [Fz]; exact (Fv h 0).mono (by omega))
   rw [Fz];simp only [qD,lD,BV,Cn]
  ·exact AbR sc 0 0 _ _ p hp) rfl rfl rfl) rfl hr0 hb0 hS
 refine SE (λg:Nat × Bool=>l.length - g.1) (λg=>BV l c g.1) (λg=>g.1≤l.length) (λg=>pN l.length g.1 g.2) ?_ (0,Nat.beq l.length 0) (Nat.zero_le _) hS;intro ⟨k,f⟩ hk ρ M' a w' hS;have hk:k≤l.length:=hk;show holds _ [] a w' (.run xW)
 by_cases hkn:k<l.length
 ·-- a round
  refine Classical.byContradiction λhno=>?_
  have go:∀ p,p<3→(∀ x∈ZW k p,decide (qD (BV l c k) x.1=0)=x.2)→(p=0→l.getD k 0=0)→(p=1→(l.getD k 0 / Cn l k).den=1)→False:=λp hp hz h0 h1=>by
   refine hno ?_;have hF:=pD h hs (p:=p) hz;have hb:kV l.length k p f=true:=by
    have:=List.all_eq_true.1 (List.all_eq_true.1 (AjQ l.length (by omega)) k (List.mem_range.2 hkn)) p (List.mem_range.2 hp);rw [Bool.and_eq_true] at this
    cases f with
    | true=>exact this.1
    | false=>exact this.2
   refine xF (e:=.nor) (V':=BV l c (k+1)) hA hF (Qd h hs hs1 hn hF) (@DM (Ab _)) (Xx (λx hx=>?_) rfl rfl rfl) rfl hr0 hb hS λρ M' a w' hS=>?_
   ·rcases List.mem_append.1 hx with hx | hx
    ·exact AhG h hs hs1 hp h0 h1 x hx
    ·exact AbR sc _ _ _ _ x hx
   ·exact ⟨(k+1,Nat.beq p 2),ρ,M',hkn,by show l.length - (k+1)<l.length - k; omega,hS⟩
  have hU:=Qg h k
  by_cases hx:l.getD k 0=0
  ·exact go 0 (by decide) (λx hx'=>by
    simp only [ZW,List.mem_singleton] at hx';subst hx';rw [XA];exact decide_eq_true hx) (λ_=>hx) (λe=>by cases e)
  ·have z1:decide (qD (BV l c k) (cI k)=0)=false:=by rw [XA]; exact decide_eq_false hx
   have z2:decide (qD (BV l c k) (.v 1)=0)=false:=by rw [Fz]; exact decide_eq_false hU
   by_cases hd:(l.getD k 0 / Cn l k).den=1
   ·exact go 1 (by decide) (λx hx'=>by
     simp only [ZW,List.mem_cons,List.not_mem_nil,or_false] at hx'
     rcases hx' with rfl | rfl | rfl
     ·exact z1
     ·exact z2
     ·refine decide_eq_true ?_
      rw [Pj,SM];exact hd) (λe=>by cases e) (λ_=>hd)
   ·exact go 2 (by decide) (λx hx'=>by
     simp only [ZW,List.mem_cons,List.not_mem_nil,or_false] at hx'
     rcases hx' with rfl | rfl | rfl | rfl
     ·exact z1
     ·exact z2
     ·refine decide_eq_false ?_
      rw [Pj,SM];exact hd
     ·refine decide_eq_false ?_
      rw [PX];exact KF _) (λe=>by cases e) (λe=>by cases e)
 ·-- the end
  obtain rfl:k=l.length:=by omega
  have hF:=pD (c:=c) (k:=l.length) (p:=3) h hs λx hx=>by cases hx
  have hbx:Zb l.length f=true:=by
   have:=List.all_eq_true.1 Aip l.length (List.mem_range.2 (by omega));rw [Bool.and_eq_true] at this
   cases f with
   | true=>exact this.1
   | false=>exact this.2
  unfold Zb at hbx;split at hbx
  ·rename_i s1 s2 h1 h2
   refine IF hA hF (Qd h hs hs1 hn hF) (@DM (Ab _)) _ h1 hS λρ M' a w' hS=>?_
   show holds _ xI a w' (.at_ (.ext 0));have h2:DR (jN l.length l.length 3) AC 300 300 (.at_ (.ext 0)) xI (Mm (oU l.length f))=_:=h2;rw [h1] at h2;refine IF hA hF (Qd h hs hs1 hn hF) (@DM (Ab _)) _ h2 hS λρ M' a w' hS=>?_
   unfold AgX at hbx;split at hbx
   ·rename_i lv hl
    split at hbx
    ·rename_i r hr
     have hr2:=C6 hbx;subst hr2;refine ⟨.inr rfl,Ab (BV l c l.length),_,ρ,M',_,.agg lv,hS,hl,rfl,λa' w' hS v hv=>?_⟩;have hres:=dP (M:=λb=>b<w.heap.size) hF (λ_ h=>h) hS hr hv;obtain ⟨cs,rfl,hc⟩:=hres;refine ⟨cs,rfl,?_⟩;unfold AQ at hc ⊢;obtain ⟨x,y,e1,r1,r2⟩:=hc;unfold AQ at r2 ⊢;obtain ⟨x2,y2,e2,r3,r4⟩:=r2;have hU:=Fv h l.length;refine ⟨x,y,e1,DT (V:=BV l c l.length) (V':=V) ?_ ?_ BQ BQ _ w' x r1,x2,y2,e2,Km (V:=BV l c l.length) (V':=V) ?_ BQ BQ _ w' x2 r3,r4⟩
     ·rw [hq]
      simp only [qD];have e1:=Fz (l:=l) (c:=c) l.length;simp only [qD] at e1;rw [e1];rfl
     ·rw [hq]
      exact (sc.mul hU).mono (by omega)
     ·rw [he,Gs]
      unfold Cj;apply List.ext_getElem
      ·simp
      ·intro j hj1 hj2
       simp only [List.getElem_map,List.getElem_range];rw [F7,List.getD_eq_getElem?_getD,List.getElem?_eq_getElem (by simpa using hj2)];rfl
    ·cases hbx
   ·cases hbx
  ·cases hbx
theorem AjI(h:Ei D s l)(hs:s≤80000)(hs1:1≤s)(sc:AR c 50000000)(hn:l.length≤6){V:VL}{q e:CE}(hq:qD V q=c*Eu l)(he:lD V e=Cj l){M:Nat→Prop}{w:World}{vc vl:Value}(hm0:∀ b,M b→b<w.heap.size)(hvc:(An c).p vc w)(hvl:(XP.rats l).p M w [vl]) :
  Calls Tryz.prog 67 #[vc,vl] w λen w'=>∃ u,en = .returned u ∧ @RV (Ab V) BQ M w' (.agg [aQ q 50080001,aL e]) u∧Below w.heap.size w w':=
 Calls.mono (Acy h hs hs1 sc hn hq he hm0 hvc hvl) λ_ _ ⟨u,e1,e2,e3⟩=>⟨u,e1,@Pi (Ab V) (λo=>some o) BQ BQ _ _ _ (λ_ _ _ _ e=>by cases e) (λb hb=>hm0 b hb) _ _ _ rfl e2,e3⟩
end
def Ry(E E':Cd)(l l':List AV):Prop:=∀(ρ ρ':Bg)(M:Nat→Prop)(w:World)(cs:List Value),@AQ E ρ M w l cs → @AQ E' ρ' M w l' cs
def DF(σ:Nat→Option Nat)(ρ:Bg):Bg:=λx=>(σ x).bind ρ
structure MK (E E':Cd) (H Hc:HP) (σ:Nat→Option Nat):Prop where
 inj:∀ x y o,σ x=some o→σ y=some o→x=y
 low:∀ x o,σ x=some o→16≤x
 to:∀ x b',lk Hc x=some b'→∃ o b l,σ x=some o∧lk H o=some b∧b' = { b with cs:=l } ∧ b.bl=none∧Ry E E' b.cs l
 fro:∀ o b,lk H o=some b→∃ x b',σ x=some o∧lk Hc x=some b'
section
variable {E E' : Cd} {ρ : Bg} {M : Nat → Prop} {w w' : World} {H Hc : HP} {σ : Nat → Option Nat} {t0 n0 : Nat} {v : Value}
theorem MK.st0(hc:MK E E' H Hc σ)(hs:@CK E ρ M (@Di ρ w (lk H)) w t0 (lk H)):@CK E' (DF σ ρ) M (@Di (DF σ ρ) w (lk Hc)) w 0 (lk Hc):=by
 obtain ⟨⟨hobj,hinj⟩,hbnd,hnew,hfresh⟩:=hs;refine @CK.mk E' _ _ _ _ _ _ (@RH.mk E' _ _ _ _ _ (λx b' e=>?_) (λx x' b b' g c c' e e' q q'=>?_)) hbnd (λx _ hx=>?_) (λb hb=>.inl hb)
 ·obtain ⟨o,b,l,h1,h2,rfl,h3,h4⟩:=hc.to x b' e
  obtain ⟨g,c,arr,cs,k1,k2,k3,k4,k5,k6,k7,k8⟩:=hobj o b h2;have hat:DF σ ρ x=some (g,c):=by
   unfold DF;rw [h1];exact k1
  have hr:=@Bv.rps E _ _ _ _ _ k6 h3;exact ⟨g,c,arr,cs,@IQ.mk E' _ _ _ _ _ _ _ _ _ _ hat k2 (.inr ⟨x,_,c,e,hat⟩) k4 k5 (@Bv.of E' _ _ _ _ _ (h4 _ _ _ _ _ hr) h3) k7 k8⟩
 ·obtain ⟨o,b1,l1,h1,h2,_,_,_⟩:=hc.to x b e
  obtain ⟨o',b2,l2,h1',h2',_,_,_⟩:=hc.to x' b' e';unfold DF at q q';rw [h1] at q;rw [h1'] at q';have:o=o':=hinj o o' b1 b2 g c c' h2 h2' q q';subst this;exact hc.inj x x' o h1 h1'
 ·unfold DF
  cases hσ:σ x with
  | none=>rfl
  | some o =>
   have:=hc.low x o hσ;omega
def AaL(σ:Nat→Option Nat)(t0:Nat)(x:Nat):Option Nat:=if x<16 then some (t0+x) else σ x
theorem MK.back(hc:MK E E' H Hc σ)(hs:@CK E ρ M (@Di ρ w (lk H)) w t0 (lk H)){Uc U:HP}{rc r:AV}(hp:@BI E' (DF σ ρ) M (@Di (DF σ ρ) w (lk Hc)) w 0 (lk Hc) Uc rc v w')
  (hr:∀(ρ' ρ2:Bg)(M':Nat→Prop),(∀ x o p,AaL σ t0 x=some o→ρ' x=some p→ρ2 o=some p) → @RV E' ρ' M' w' rc v → @RV E ρ2 M' w' r v)
  (hU:∀ o b,CR (lk H) U o=some b→∃ x b' l,AaL σ t0 x=some o∧CR (lk Hc) Uc x=some b'∧b = { b' with cs:=l } ∧ b'.bl=none∧Ry E' E b'.cs l)
  (hk:∀ x b',lk Hc x=some b'→(∃ y∈Uc,y.1=x)→∃ o,σ x=some o∧∃ y∈U,y.1=o):@BI E ρ M (@Di ρ w (lk H)) w t0 (lk H) U r v w':=by
 obtain ⟨ρ',M',ht,hv,⟨hRo,hRi⟩,hsup,hm1,hm2,hbnd,hfr,hkp⟩:=hp;obtain ⟨⟨hobj,hinj⟩,hbnd0,hnew,hfresh⟩:=hs
 let ρ2:Bg:=λo=>if t0≤o∧o<t0+16 then ρ' (o - t0) else ρ o
 have hold:∀ o p,ρ o=some p→ρ2 o=some p:=λo p e=>by
  show (if t0≤o∧o<t0+16 then ρ' (o - t0) else ρ o)=some p;rw [if_neg]
  ·exact e
  ·rintro ⟨k1,k2⟩
   rw [hnew o k1 k2] at e
   cases e
 have hτ:∀ x o p,AaL σ t0 x=some o→ρ' x=some p→ρ2 o=some p:=λx o p e1 e2=>by
  unfold AaL at e1;split at e1
  ·rename_i hx
   cases e1
   show (if t0≤t0+x∧t0+x<t0+16 then ρ' (t0+x - t0) else ρ (t0+x))=some p;rw [if_pos ⟨by omega,by omega⟩,show t0+x - t0=x by omega];exact e2
  ·rcases hsup x p e2 with h | h
   ·unfold DF at h
    rw [e1] at h;exact hold o p h
   ·omega
 have hO:∀ b,@Di (DF σ ρ) w (lk Hc) b → @Di ρ w (lk H) b:=λb h=>by
  rcases h with h | ⟨x,b',c,h1,h2⟩
  ·exact .inl h
  ·obtain ⟨o,b1,l,k1,k2,_⟩:=hc.to x b' h1
   unfold DF at h2;rw [k1] at h2;exact .inr ⟨o,b1,c,k2,h2⟩
 refine ⟨ρ2,M',⟨ht.grow,ht.keep,ht.mono,hold⟩,hr ρ' ρ2 M' hτ hv,@RH.mk E _ _ _ _ _ (λo b e=>?_) (λo o' b b' g c c' e e' q q'=>?_),λo p e=>?_,hm1,hm2,hbnd,⟨hfr.os,hfr.tape,hfr.output,hfr.size,λb hb hA=>?_⟩,λo b g c e1 e2 e3=>?_⟩
 ·obtain ⟨x,b',l,h1,h2,rfl,h3,h4⟩:=hU o b e
  obtain ⟨g,c,arr,cs,k1,k2,k3,k4,k5,k6,k7,k8⟩:=hRo x b' h2;exact ⟨g,c,arr,cs,@IQ.mk E _ _ _ _ _ _ _ _ _ _ (hτ x o _ h1 k1) k2 (hO g k3) k4 k5 (@Bv.of E _ _ _ _ _ (h4 _ _ _ _ _ (@Bv.rps E' _ _ _ _ _ k6 h3)) h3) k7 k8⟩
 ·obtain ⟨x,b1,l,h1,h2,_,_,_⟩:=hU o b e
  obtain ⟨x',b2,l',h1',h2',_,_,_⟩:=hU o' b' e';obtain ⟨g1,c1,_,_,k1,_⟩:=hRo x b1 h2;obtain ⟨g2,c2,_,_,k2,_⟩:=hRo x' b2 h2';have e1:=hτ x o _ h1 k1;have e2:=hτ x' o' _ h1' k2;rw [q] at e1;rw [q'] at e2;simp only [Option.some.injEq,Prod.mk.injEq] at e1 e2;have:x=x':=hRi x x' b1 b2 g1 c1 c2 h2 h2' k1 (by rw [k2,← e2.1,e1.1]);subst this;rw [h1] at h1';exact Option.some.inj h1'
 ·by_cases ho:t0≤o∧o<t0+16
  ·exact .inr ho
  ·refine .inl ?_
   have:ρ2 o=ρ o:=if_neg ho;rw [← this];exact e
 ·by_cases hx:@Di (DF σ ρ) w (lk Hc) b
  ·exact absurd (hO b hx) hA
  ·exact hfr.keep b hb hx
 ·obtain ⟨x,b',h1,h2⟩:=hc.fro o b e1
  refine hkp x b' g c h2 (λy hy e=>?_) ?_
  ·obtain ⟨o',h3,z,h4,h5⟩:=hk x b' h2 ⟨y,hy,e⟩
   rw [h1] at h3
   cases h3
   exact e2 z h4 h5
  ·unfold DF
   rw [h1];exact e3
theorem nV{E E2:Cd}{f:Nat}{fn:Func}{c:Code}{ρ0:Bg}{H0:HP}{xs:List AV}{r:AV}{U:HP}{vs:List Value}(hf:Tryz.prog.funcs[f]? = some fn)(hb:fn.body=some c)(hs:@CK E ρ0 M (@Di ρ0 w (lk H0)) w 0 (lk H0))(hs2:@CK E2 ρ0 M (@Di ρ0 w (lk H0)) w 0 (lk H0))(hd:∀ o p,ρ0 o=some p→o<n0)(hv:@CH E ρ0 M w xs vs)
  (h:∀ a,@FS E (@Di ρ0 w (lk H0)) w ρ0 M H0 n0 ⟨xs ++ List.replicate (fn.ntmps - xs.length) (.val undef),H0,n0,[]⟩ ρ0 M a w→c.wp Tryz.prog (λe a w'=>(e = .normal ∨ e = .ret)∧∃ s ρ' M',@FS E2 (@Di ρ0 w (lk H0)) w ρ0 M H0 n0 s ρ' M' a w'∧WW H0 n0 0 fn s=some (r,U)) a w) :
  Calls Tryz.prog f vs.toArray w λe w'=>∃ v,e = .returned v ∧ @BI E2 ρ0 M (@Di ρ0 w (lk H0)) w 0 (lk H0) U r v w':=by
 refine callsIn_wide.1 (callsIn_of_wp_marks (F:=Eo none) (n:=9) hf hb trivial ((@FZ E _ _ _ _).2 (Code.wp_mono ?_ (h { tmps:=vs.toArray ++ Array.replicate (fn.ntmps - vs.toArray.size) undef,defers:=[] } ?_))))
 ·intro e a' w' ⟨he,s,ρ',M',hF',hfin⟩
  letI:=E2
  have hkk:∀ x b g c,lk H0 x=some b→ρ0 x=some (g,c)→g<w.heap.size:=λx b g c e1 e2=>PY hs2.heap e1 e2
  have key:LeavesInM (Eo none) 9 Tryz.prog fn a'.tmps (λe w'=>∃ v,e = .returned v∧BI ρ0 M (Di ρ0 w (lk H0)) w 0 (lk H0) U r v w') a'.defers .returning w':=by
   refine DN hs2.fresh hkk a'.defers a' w' hF' rfl rfl λa2 w2 hF2 ht2=>?_
   unfold WW at hfin;split at hfin
   ·rename_i l hl
    split at hfin
    ·rename_i r0 hr0
     obtain ⟨v,e1,e2⟩:=Eb hF2 hs2.fresh hl hr0;rw [ht2] at e1;exact ⟨v,e1,v,rfl,KD hs2 hd hF2 e2 hfin⟩
    ·cases hfin
   ·cases hfin
  rcases he with rfl | rfl
  ·exact key
  ·exact key
 ·exact @SW E _ _ _ fn _ _ _ _ _ hs hd hv
end
section
variable {V : VL} {F : Fa} {M : Nat → Prop} {w : World}
def kdA(ks:List Kd):Option (AV × HP)→Option (List AV)
 | some (.agg l,U)=>IK U ks l
 | _=>none
theorem Xv{L:List PE}{f m:Nat}{xs:List AV}{ks:List Kd}{r:List AV}(hF:Bi V F)(hL:∀ e∈L,@PE.ok (Ab V) e)(h:kdA ks (BR AC (Dd (Wn F L) AC m) f xs [] 16 0)=some r){vs:List Value}(hm0:∀ b,M b→b<w.heap.size)(hv:@CH (Ab V) BQ M w xs vs) :
  Calls Tryz.prog f vs.toArray w λe w'=>∃ u,e = .returned u ∧ @RV (Ab V) BQ M w' (.agg r) u∧Below w.heap.size w w':=by
 letI:=Ab V
 generalize hr:BR AC (Dd (Wn F L) AC m) f xs [] 16 0=o at h;unfold kdA at h;split at h
 ·rename_i l U
  obtain ⟨_,hcall⟩:=DK Bq (EN (QE hF hL) Bq m).1 f xs [] 16 0 _ _ hr;have hs:CK BQ M (Di BQ w (lk [])) w 0 (lk []):=⟨⟨λo b e=>(by cases e),λo o' b b' g c c' e=>(by cases e)⟩,hm0,λ_ _ _=>rfl,λb hb=>.inl hb⟩;refine Calls.mono (hcall BQ M w vs hs (λo p e=>(by cases e)) (by decide) hv) λe w' ⟨v,e1,ρ',M',ht,hv',hR,_,hsup,_,_,hfr,_⟩=>⟨v,e1,?_,⟨hfr.os,hfr.tape,hfr.output,hfr.size,λb hb=>hfr.keep b hb ?_⟩⟩
  ·obtain ⟨cs,rfl,hc⟩:=hv'
   exact ⟨cs,rfl,NJ hF hm0 hsup hR h hc⟩
  ·rintro (h1 | ⟨_,_,_,h1,_⟩)
   ·omega
   ·cases h1
 ·cases h
end
def N4(c:Rat)(a:List Rat)(d:Rat)(b:List Rat):List Rat:=(List.range a.length).map λi=>c*a.getD i 0 - d*b.getD i 0
def Ej(k i:Nat):CE:=.ap 30 (.v k) (.i 0 (i:Int))
def DB:Nat:=2000001
def dcQ(a:AV):Option (CE × Nat):=match a with
 | .ext 4 true (.ap 52 q (.lit n))=>if Nat.ble n.toNat 2000001 then some (q,n.toNat) else none
 | _=>none
def dcB(b:Option OB):Option (CE × Nat):=match b with
 | some ⟨T,1,[a],false,none⟩=>if Nat.beq T 36 then dcQ a else none
 | _=>none
def dcC:BD:=λf xs H _ _=>match xs with
 | [x,y,.ptr oc 0,.ptr od 0]=>match dcQ x,dcQ y,dcB (lk H oc),dcB (lk H od) with
  | some p,some q,some c,some d=>if Nat.beq f 99 && !Nat.beq oc od && H.all (λz=>Nat.beq z.1 oc || Nat.beq z.1 od) then some (aQ (.ap 32 (.ap 33 c.1 p.1) (.ap 33 d.1 q.1)) 8000010,[]) else none
  | _,_,_,_=>none
 | _=>none
def lE:Nat→List (CE × Bool)
 | 0=>[(.v 1,false)]
 | 1=>[(.v 1,true),(.v 0,false)]
 | _=>[(.v 1,true),(.v 0,true)]
def Agw(p:Nat):Fa:=⟨[],[],[],lE p,[],[],[]⟩
def Aas:HP:=[(16,some ⟨36,1,[aQ (.v 2) 2000001],false,none⟩),(17,some ⟨36,1,[aQ (.v 3) 2000001],false,none⟩)]
noncomputable def yA(p:Nat):Option (AV × HP):=BR AC (Dd (Wn (Agw p) []) AC 200) 99 [aQ (.v 0) 2000001,aQ (.v 1) 2000001,.ptr 16 0,.ptr 17 0] Aas 32 0
def NP:Nat→CE
 | 0=>.ap 32 (.ap 33 (.v 2) (.v 0)) (.ap 33 (.v 3) (.v 1))
 | 1=>.ap 33 (.v 2) (.v 0)
 | _=>.v 0
def kG(q:CE)(b:Nat)(o:Option (AV × HP)):Bool:=match o with
 | some (.ext 4 true (.ap 52 q' (.lit n)),[])=>CE.beq q q' && Nat.ble n.toNat b
 | _=>false
noncomputable def lF:Bool:=kG (NP 0) 8000010 (yA 0) && kG (NP 1) 8000010 (yA 1) && kG (NP 2) 8000010 (yA 2)
theorem Afz:lF=true:=by kernel_rfl
theorem TI{b:Option OB}{c:CE × Nat}(h:dcB b=some c):∃ n:Int,c.2=n.toNat∧n.toNat≤2000001∧b=some ⟨36,1,[.ext 4 true (.ap 52 c.1 (.lit n))],false,none⟩:=by
 unfold dcB at h;split at h
 ·split at h
  ·rename_i T a hT
   rw [Nat.eq_of_beq_eq_true hT];unfold dcQ at h;split at h
   ·split at h
    ·rename_i n hn
     cases h
     exact ⟨n,rfl,Nat.le_of_ble_eq_true hn,rfl⟩
    ·cases h
   ·cases h
  ·cases h
 ·cases h
theorem Sd{a:AV}{c:CE × Nat}(h:dcQ a=some c):∃ n:Int,c.2=n.toNat∧n.toNat≤2000001∧a = .ext 4 true (.ap 52 c.1 (.lit n)):=by
 unfold dcQ at h;split at h
 ·split at h
  ·rename_i n hn
   cases h
   exact ⟨n,rfl,Nat.le_of_ble_eq_true hn,rfl⟩
  ·cases h
 ·cases h
theorem OG{V V':VL}{q q':CE}{n:Int}{m:Nat}(h:qD V q=qD V' q')(hs:n.toNat≤m):Le V V' (.ext 4 true (.ap 52 q (.lit n)),aQ q' m):=λρ ρ' M w cs r=>by
 unfold Rp at r ⊢;refine ⟨r.1,?_⟩;obtain ⟨s,a,b,c,d,e,h1,h2⟩:=r.2;show (XP.num (qD V' q') ((m:Int)).toNat).p M w cs;rw [← h];exact ⟨s.mono (by simpa using hs),a,b,c,d,e,h1,h2⟩
theorem Acs{V V':VL}{q q':CE}{n:Int}{m:Nat}(h:qD V q=qD V' q')(hs:AR (qD V q) n.toNat):Le V V' (aQ q m,.ext 4 true (.ap 52 q' (.lit n))):=λρ ρ' M w cs r=>by
 unfold Rp at r ⊢;refine ⟨r.1,?_⟩;obtain ⟨_,a,b,c,d,e,h1,h2⟩:=r.2;show (XP.num (qD V' q') n.toNat).p M w cs;rw [← h];exact ⟨hs,a,b,c,d,e,h1,h2⟩
theorem sK{H:HP}{o:Nat}{b:OB}(h:lk H o=some b):∃ z∈H,z.1=o:=by
 induction H with
 | nil=>cases h
 | cons x r ih =>
  unfold lk at h;split at h
  ·rename_i hb
   exact ⟨x,List.mem_cons_self ..,Nat.eq_of_beq_eq_true hb⟩
  ·obtain ⟨z,hz,e⟩:=ih h
   exact ⟨z,List.mem_cons_of_mem _ hz,e⟩
theorem RF{V V':VL}{a a':AV}(h:Le V V' (a,a')):Ry (Ab V) (Ab V') [a] [a']:=λρ ρ' M w cs r=>by
 unfold AQ at r ⊢;obtain ⟨x,y,e,h1,h2⟩:=r;refine ⟨x,y,e,h ρ ρ' M w x h1,?_⟩;unfold AQ at h2 ⊢;exact h2
def EQ(x y c d:Rat):VL:=⟨λ_=>0,λ_=>[],λk=>match k with | 0=>x | 1=>y | 2=>c | 3=>d | _=>0,λ_=>[]⟩
theorem IW{q:CE}{b:Nat}{o:Option (AV × HP)}(h:kG q b o=true):∃ n:Int,o=some (.ext 4 true (.ap 52 q (.lit n)),[])∧n.toNat≤b:=by
 unfold kG at h;split at h
 ·rw [Bool.and_eq_true] at h
  rw [CE.beq_eq h.1];exact ⟨_,rfl,Nat.le_of_ble_eq_true h.2⟩
 ·cases h
theorem Aap(x y c d:Rat):∃ p,p<3∧(∀ z∈lE p,decide (qD (EQ x y c d) z.1=0)=z.2)∧qD (EQ x y c d) (NP p)=c*x - d*y:=by
 have e0:qD (EQ x y c d) (.v 0)=x:=by simp only [qD,EQ]
 have e1:qD (EQ x y c d) (.v 1)=y:=by simp only [qD,EQ]
 have e2:qD (EQ x y c d) (.v 2)=c:=by simp only [qD,EQ]
 have e3:qD (EQ x y c d) (.v 3)=d:=by simp only [qD,EQ]
 by_cases hy:y=0
 ·by_cases hx:x=0
  ·refine ⟨2,by decide,λz hz=>?_,?_⟩
   ·simp only [lE,List.mem_cons,List.not_mem_nil,or_false] at hz
    rcases hz with rfl | rfl
    ·rw [e1]; exact decide_eq_true hy
    ·rw [e0]; exact decide_eq_true hx
   ·show qD _ (.v 0)=_
    rw [e0,hx,hy]
    grind
  ·refine ⟨1,by decide,λz hz=>?_,?_⟩
   ·simp only [lE,List.mem_cons,List.not_mem_nil,or_false] at hz
    rcases hz with rfl | rfl
    ·rw [e1]; exact decide_eq_true hy
    ·rw [e0]; exact decide_eq_false hx
   ·have:qD (EQ x y c d) (NP 1)=qD (EQ x y c d) (.v 2)*qD (EQ x y c d) (.v 0):=by simp only [NP,qD]
    rw [this,e0,e2,hy]
    grind
 ·refine ⟨0,by decide,λz hz=>?_,?_⟩
  ·simp only [lE,List.mem_singleton] at hz
   subst hz;rw [e1];exact decide_eq_false hy
  ·have:qD (EQ x y c d) (NP 0)=qD (EQ x y c d) (.v 2)*qD (EQ x y c d) (.v 0) - qD (EQ x y c d) (.v 3)*qD (EQ x y c d) (.v 1):=by simp only [NP,qD]
   rw [this,e0,e1,e2,e3]
theorem Ah2:∀ p,p<3→∃ n:Int,yA p=some (.ext 4 true (.ap 52 (NP p) (.lit n)),[])∧n.toNat≤8000010:=λp hp=>by
 have h:=Afz;unfold lF at h;simp only [Bool.and_eq_true] at h
 match p,hp with
 | 0,_=>exact IW h.1.1
 | 1,_=>exact IW h.1.2
 | 2,_=>exact IW h.2
theorem Afo{V:VL}:@B5 (Ab V) dcC:=by
 intro f xs H n0 t0 r U h;unfold dcC at h;split at h
 ·rename_i x y oc od
  split at h
  ·rename_i p q c d hp hq hc hd
   split at h
   ·rename_i hcond
    cases h
    rw [Bool.and_eq_true,Bool.and_eq_true] at hcond;obtain ⟨⟨hf,hne⟩,hall⟩:=hcond;have hf:=Nat.eq_of_beq_eq_true hf;subst hf;have hne:oc≠od:=λe=>by
     subst e;simp at hne
    obtain ⟨n1,_,l1,rfl⟩:=Sd hp;obtain ⟨n2,_,l2,rfl⟩:=Sd hq;obtain ⟨n3,_,l3,ec⟩:=TI hc;obtain ⟨n4,_,l4,ed⟩:=TI hd;have hkeys:∀ o b,lk H o=some b→o=oc ∨ o=od:=λo b e=>by
     obtain ⟨z,hz,rfl⟩:=sK e;have:=List.all_eq_true.1 hall z hz;rw [Bool.or_eq_true] at this
     rcases this with h | h
     ·exact .inl (Nat.eq_of_beq_eq_true h)
     ·exact .inr (Nat.eq_of_beq_eq_true h)
    obtain ⟨pc,hpc,hz,hres⟩:=Aap (qD V p.1) (qD V q.1) (qD V c.1) (qD V d.1);generalize hV':EQ (qD V p.1) (qD V q.1) (qD V c.1) (qD V d.1)=V' at hz hres;have e0:qD V' (.v 0)=qD V p.1:=by rw [← hV']; simp only [qD,EQ]
    have e1:qD V' (.v 1)=qD V q.1:=by rw [← hV']; simp only [qD,EQ]
    have e2:qD V' (.v 2)=qD V c.1:=by rw [← hV']; simp only [qD,EQ]
    have e3:qD V' (.v 3)=qD V d.1:=by rw [← hV']; simp only [qD,EQ]
    have hF:Bi V' (Agw pc):=EC (λk=>by rw [← hV']; rfl) (λx hx=>by cases hx) (λx hx=>by cases hx) hz (λx hx=>by cases hx);obtain ⟨nr,hrun,hnr⟩:=Ah2 pc hpc;obtain ⟨hpl,hcall⟩:=@DK (Ab V') _ _ Bq _ (@EN (Ab V') _ _ (QE hF (λ_ h=>by cases h)) Bq 200).1 _ _ Aas 32 0 _ _ hrun;refine ⟨hpl,λρ M w vs hs hdom htn hv=>?_⟩
    let σ:Nat→Option Nat:=λk=>if k=16 then some oc else if k=17 then some od else none
    have hcan:MK (Ab V) (Ab V') H Aas σ:=by
     refine ⟨λx y o h1 h2=>?_,λx o h1=>?_,λx b' e=>?_,λo b e=>?_⟩
     ·dsimp only [σ] at h1 h2
      split at h1 <;> split at h2 <;> simp_all
     ·dsimp only [σ] at h1
      split at h1
      ·omega
      ·split at h1
       ·omega
       ·cases h1
     ·unfold Aas lk at e
      split at e
      ·rename_i hx
       have hx:=Nat.eq_of_beq_eq_true hx;subst hx
       cases e
       exact ⟨oc,_,_,rfl,ec,rfl,rfl,RF (OG e2.symm l3)⟩
      ·unfold lk at e
       split at e
       ·rename_i hx
        have hx:=Nat.eq_of_beq_eq_true hx;subst hx
        cases e
        exact ⟨od,_,_,rfl,ed,rfl,rfl,RF (OG e3.symm l4)⟩
       ·cases e
     ·rcases hkeys o b e with rfl | rfl
      ·exact ⟨16,_,rfl,rfl⟩
      ·exact ⟨17,_,rfl,rfl⟩
    have hs':=hcan.st0 hs;obtain ⟨va,_,rfl,h1,vb,_,rfl,h2,vc,_,rfl,h3,vd,_,rfl,h4,h5⟩:=hv;have h5:_=[]:=h5;subst h5;have hv':@CH (Ab V') (DF σ ρ) M w [aQ (.v 0) 2000001,aQ (.v 1) 2000001,.ptr 16 0,.ptr 17 0] [va,vb,vc,vd]:=by
     obtain ⟨c1,rfl,h1⟩:=h1;obtain ⟨c2,rfl,h2⟩:=h2;refine ⟨_,_,rfl,⟨c1,rfl,OG e0.symm l1 ρ _ M w _ h1⟩,_,_,rfl,⟨c2,rfl,OG e1.symm l2 ρ _ M w _ h2⟩,vc,_,rfl,?_,vd,_,rfl,?_,rfl⟩
     ·have h3:@Rp (Ab V) ρ M w (.ptr oc 0) [vc]:=h3
      show @Rp (Ab V') (DF σ ρ) M w (.ptr 16 0) [vc];unfold Rp at h3 ⊢;exact h3
     ·have h4:@Rp (Ab V) ρ M w (.ptr od 0) [vd]:=h4
      show @Rp (Ab V') (DF σ ρ) M w (.ptr 17 0) [vd];unfold Rp at h4 ⊢;exact h4
    have hd':∀ x p,DF σ ρ x=some p→x<32:=λx p e=>by
     unfold DF at e;obtain ⟨o,ho,_⟩:=Option.bind_eq_some_iff.1 e;dsimp only [σ] at ho;split at ho
     ·omega
     ·split at ho
      ·omega
      ·cases ho
    have hcode:qD V (.ap 32 (.ap 33 c.1 p.1) (.ap 33 d.1 q.1))=qD V' (NP pc):=by
     rw [hres];simp only [qD]
    obtain ⟨⟨hobj,_⟩,_⟩:=id hs;have size:∀(o:Nat)(cc:CE)(n:Int),lk H o=some ⟨36,1,[.ext 4 true (.ap 52 cc (.lit n))],false,none⟩→AR (qD V cc) n.toNat:=λo cc n e=>by
     obtain ⟨g,c,arr,cs,_,_,_,_,_,k6,_,_⟩:=hobj o _ e;have k6:=@Bv.rps (Ab V) _ _ _ _ _ k6 rfl;unfold AQ at k6;obtain ⟨x,y,_,k,_⟩:=k6;unfold Rp at k;exact k.2.1
    refine Calls.mono (hcall (DF σ ρ) M w _ hs' hd' (by decide) hv') λe w' ⟨v,e1,hpost⟩=>⟨v,e1,hcan.back hs hpost (λρ' ρ2 M' _ hr=>?_) (λo b e=>?_) (λx b' _ hy=>?_)⟩
    ·obtain ⟨cs,rfl,hc⟩:=hr
     exact ⟨cs,rfl,OG hcode.symm hnr _ _ _ _ _ hc⟩
    ·rcases hkeys o b e with rfl | rfl
     ·have e:lk H o=some b:=e
      have hs2:=size _ _ _ ec;rw [ec] at e
      cases e
      exact ⟨16,_,_,rfl,rfl,rfl,rfl,RF (Acs e2 (by rw [e2]; exact hs2))⟩
     ·have e:lk H o=some b:=e
      have hs2:=size _ _ _ ed;rw [ed] at e
      cases e
      exact ⟨17,_,_,rfl,rfl,rfl,rfl,RF (Acs e3 (by rw [e3]; exact hs2))⟩
    ·obtain ⟨y,hy,_⟩:=hy
     cases hy
   ·cases h
  ·cases h
 ·cases h
theorem xQ{V:VL}{F:Fa}{M:Nat→Prop}{w:World}{L:List PE}{C:BD}{f m:Nat}{xs:List AV}{ks:List Kd}{r:AV}(hF:Bi V F)(hL:∀ e∈L,@PE.ok (Ab V) e)(hC:@B5 (Ab V) C)(h:bL ks (BR AC (Dd (T8 F L C) AC m) f xs [] 16 0)=some r){vs:List Value}(hm0:∀ b,M b→b<w.heap.size)(hv:@CH (Ab V) BQ M w xs vs) :
  Calls Tryz.prog f vs.toArray w λe w'=>∃ u,e = .returned u ∧ @RV (Ab V) BQ M w' r u∧Below w.heap.size w w':=by
 letI:=Ab V
 generalize hr:BR AC (Dd (T8 F L C) AC m) f xs [] 16 0=o at h
 cases o with
 | none=>unfold bL at h; cases h
 | some p =>
  obtain ⟨a,U⟩:=p;obtain ⟨_,hcall⟩:=DK Bq (EN (T:=T8 F L C) (@EO.mk (Ab V) _ (El hF hL) (Fh hF) hC) Bq m).1 f xs [] 16 0 _ _ hr;have hs:CK BQ M (Di BQ w (lk [])) w 0 (lk []):=⟨⟨λo b e=>(by cases e),λo o' b b' g c c' e=>(by cases e)⟩,hm0,λ_ _ _=>rfl,λb hb=>.inl hb⟩;refine Calls.mono (hcall BQ M w vs hs (λo p e=>(by cases e)) (by decide) hv) λe w' ⟨v,e1,ρ',M',ht,hv',hR,_,hsup,_,_,hfr,_⟩=>⟨v,e1,?_,⟨hfr.os,hfr.tape,hfr.output,hfr.size,λb hb=>hfr.keep b hb ?_⟩⟩
  ·unfold bL at h
   split at h
   ·rename_i l U' e2
    cases e2
    obtain ⟨rs,h1,rfl⟩:=Option.map_eq_some_iff.1 h;obtain ⟨ws,rfl,q⟩:=hv';exact ⟨ws,rfl,J_ hF hm0 hsup hR h1 q⟩
   ·rename_i a' U' hne e2
    cases e2
    split at h
    ·rename_i k
     have hv1:@Bz (Ab V) ρ' M' w' a v:=by
      cases a with
      | tup l=>exact (hne l rfl).elim
      | _=>exact hv'
     exact @Bz.rv (Ab V) BQ M w' r v (Dp hF hm0 hsup hR h hv1)
    ·cases h
   ·rename_i e2
    cases e2
  ·rintro (h1 | ⟨_,_,_,h1,_⟩)
   ·omega
   ·cases h1
def xL(n:Nat):Fa:=⟨[],[(.v 0,0,(n:Int)),(.v 1,0,(n:Int))],[(.v 0,2000001),(.v 1,2000001)],[],[],[],[]⟩
def AaI(i:Nat):CE:=.ap 32 (.ap 33 (.v 0) (Ej 0 i)) (.ap 33 (.v 1) (Ej 1 i))
def Aho:List AV:=[aQ (.v 0) 2000001,aL (.v 0),aQ (.v 1) 2000001,aL (.v 1)]
noncomputable def AjK(n:Nat):Option AV:=bL [.L] (BR AC (Dd (T8 (xL n) [] dcC) AC 200) 73 Aho [] 16 0)
def isL(l:List CE)(o:Option AV):Bool:=match o with
 | some a=>Ft a (aL (FY l))
 | none=>false
noncomputable def Ac7:Bool:=(List.range 7).all λn=>isL ((List.range n).map AaI) (AjK n)
theorem Afk:Ac7=true:=by kernel_rfl
theorem Kj{l:List CE}{o:Option AV}(h:isL l o=true):o=some (aL (FY l)):=by
 unfold isL at h;split at h
 ·rw [FN h]
 ·cases h
def MX(l p:List Rat)(c d:Rat):VL:=⟨λ_=>0,λk=>match k with | 0=>l | 1=>p | _=>[],λk=>match k with | 0=>c | 1=>d | _=>0,λ_=>[]⟩
theorem Ag9{l p:List Rat}{c d:Rat}(hl:∀ x∈l,AR x 2000001)(hp:∀ x∈p,AR x 2000001)(hc:AR c 2000001)(hd:AR d 2000001)(hn:l.length≤6)(he:p.length=l.length){M:Nat→Prop}{w:World}{vc vl vd vp:Value}(hm0:∀ b,M b→b<w.heap.size)(hvc:(An c).p vc w)(hvl:(XP.rats l).p M w [vl])(hvd:(An d).p vd w)(hvp:(XP.rats p).p M w [vp]) :
  Calls Tryz.prog 73 #[vc,vl,vd,vp] w λe w'=>∃ u,e = .returned u∧(XP.rats (N4 c l d p)).p M w' [u]∧Below w.heap.size w w':=by
 have hF:Bi (MX l p c d) (xL l.length):=EC (λ_=>rfl) (λx hx=>by
  simp only [xL,List.mem_cons,List.not_mem_nil,or_false] at hx
  rcases hx with rfl | rfl
  ·simp [lD,MX]
  ·simp [lD,MX,he]) (λx hx=>by
  simp only [xL,List.mem_cons,List.not_mem_nil,or_false] at hx
  rcases hx with rfl | rfl
  ·simpa [lD,MX] using hl
  ·simpa [lD,MX] using hp) (λx hx=>by cases hx) (λx hx=>by cases hx)
 have hr:=Kj (List.all_eq_true.1 Afk l.length (List.mem_range.2 (by omega)));refine Calls.mono (xQ (M:=M) (w:=w) (vs:=[vc,vl,vd,vp]) hF (λ_ h=>by cases h) Afo hr hm0 ⟨vc,_,rfl,Fk (V:=MX l p c d) (q:=.v 0) hvc hc,vl,_,rfl,EP (V:=MX l p c d) (e:=.v 0) hvl,vd,_,rfl,Fk (V:=MX l p c d) (q:=.v 1) hvd hd,vp,_,rfl,EP (V:=MX l p c d) (e:=.v 1) hvp,rfl⟩) λe w' ⟨u,e1,e2,e3⟩=>⟨u,e1,?_,e3⟩
 have e2:=C3 (ρ:=BQ) (M:=M) e2;have e:lD (MX l p c d) (FY ((List.range l.length).map AaI))=N4 c l d p:=by
  rw [Gs];unfold N4;rw [List.map_map];refine List.map_congr_left λi _=>?_
  show qD _ (AaI i)=_;simp [AaI,Ej,qD,lD,zD,MX]
 rw [e] at e2;exact e2
def ER(c:Rat)(l p:List Rat)(col:Nat):Rat × List Rat:=if l.getD col 0=0 then (c,l) else
 let f:=l.getD col 0 / p.getD col 0
 let r:=N4 ((f.den:Int):Rat) l (f.num:Rat) p
 (c / ((f.den:Int):Rat)*Eu r,Cj r)
def Dr(s:Nat)(l:List Rat):Prop:=∀ x∈l,∃ z:Int,x=(z:Rat)∧Sm z s
theorem Dr.at_{s:Nat}{l:List Rat}(h:Dr s l)(k:Nat):∃ z:Int,l.getD k 0=(z:Rat)∧Sm z s:=by
 by_cases hk:k<l.length
 ·rw [List.getD_eq_getElem?_getD,List.getElem?_eq_getElem hk]
  exact h _ (List.getElem_mem hk)
 ·rw [List.getD_eq_getElem?_getD,List.getElem?_eq_none (by omega)]
  exact ⟨0,rfl,by unfold Sm; simp; exact Nat.pow_pos (by decide)⟩
theorem Dr.rsm{s:Nat}{l:List Rat}(h:Dr s l)(hs:1≤s){x:Rat}(hx:x∈l):AR x s:=by
 obtain ⟨z,rfl,h2⟩:=h x hx;exact Dy h2 hs
theorem Dr.mono{s t:Nat}{l:List Rat}(h:Dr s l)(hs:s≤t):Dr t l:=λx hx=>by
 obtain ⟨z,h1,h2⟩:=h x hx;exact ⟨z,h1,h2.mono hs⟩
theorem Kc{x y:Int}{s:Nat}(hx:Sm x s)(hy:Sm y s)(hy0:y≠0):Sm ((((x:Rat) / (y:Rat)).den:Nat):Int) s∧Sm ((x:Rat) / (y:Rat)).num s:=by
 have hyr:(y:Rat)≠0:=λe=>hy0 (Rat.intCast_inj.1 (by simpa using e))
 generalize hq:(x:Rat) / (y:Rat)=q;have h1:q*(y:Rat)=(x:Rat):=by
  rw [← hq]
  grind
 obtain ⟨G,hG⟩:=YW h1;have g0:G≠0:=λe=>by rw [e,Int.mul_zero] at hG; exact hy0 hG
 refine ⟨RU (c:=G) hG.symm g0 hy,RU (c:=G) (b:=x) (Rat.intCast_inj.1 ?_) g0 hx⟩;rw [Rat.intCast_mul,← Lz q,← h1,hG,Rat.intCast_mul]
 grind
theorem Lq{s:Nat}{l p:List Rat}{d n:Int}(hl:Dr s l)(hp:Dr s p)(hd:Sm d s)(hn:Sm n s):Dr (2*s+1) (N4 (d:Rat) l (n:Rat) p):=λx hx=>by
 obtain ⟨i,_,rfl⟩:=List.mem_map.1 hx;obtain ⟨a,ha,sa⟩:=hl.at_ i;obtain ⟨b,hb,sb⟩:=hp.at_ i;refine ⟨d*a - n*b,by rw [ha,hb,Rat.intCast_sub,Rat.intCast_mul,Rat.intCast_mul],?_⟩;have:=(hd.mul sa).sub (hn.mul sb);refine this.mono ?_;omega
theorem Dr.frac{s:Nat}{l:List Rat}(h:Dr s l)(hs:1≤s):Ei 1 s l:=⟨by decide,by
 unfold Sm;exact Nat.one_lt_pow (by omega) (by decide),λx hx=>by
 obtain ⟨z,h1,h2⟩:=h x hx;exact ⟨z,by rw [h1]; simp,h2⟩⟩
theorem Ei.whole{D:Int}{s:Nat}{l:List Rat}(h:Ei D s l):Dr s (Cj l):=λ_ hx=>eG h hx
theorem LP{c d:Rat}{l p:List Rat}:(N4 c l d p).length=l.length:=by simp [N4]
theorem IX{l:List Rat}:(Cj l).length=l.length:=by simp [Cj]
section
variable {c : Rat} {l p : List Rat} {col s : Nat}
theorem mP:(ER c l p col).2.length=l.length:=by
 unfold ER;split
 ·rfl
 ·show (Cj _).length=_
  rw [IX,LP]
theorem ZR(hl:Dr s l)(hp:Dr s p)(hs:1≤s)(hz:p.getD col 0≠0):Dr (2*s+1) (ER c l p col).2:=by
 unfold ER;split
 ·exact hl.mono (by omega)
 ·obtain ⟨x,hx,sx⟩:=hl.at_ col
  obtain ⟨y,hy,sy⟩:=hp.at_ col;have hy0:y≠0:=λe=>hz (by rw [hy,e]; rfl)
  obtain ⟨h1,h2⟩:=Kc sx sy hy0;rw [← hx,← hy] at h1 h2;exact ((Lq hl hp h1 h2).frac (by omega)).whole
theorem R8{i:Nat}(hl:Dr s l)(hp:Dr s p)(hs:1≤s)(hz:p.getD col 0≠0)(hc:AR c i):AR (ER c l p col).1 (i+s+(2*s+1)):=by
 unfold ER;split
 ·exact hc.mono (by omega)
 ·obtain ⟨x,hx,sx⟩:=hl.at_ col
  obtain ⟨y,hy,sy⟩:=hp.at_ col;have hy0:y≠0:=λe=>hz (by rw [hy,e]; rfl)
  obtain ⟨h1,h2⟩:=Kc sx sy hy0;rw [← hx,← hy] at h1 h2;exact (hc.div (Dy h1 hs)).mul (Fv ((Lq hl hp h1 h2).frac (by omega)) _)
end
def xU(col:Nat):CE:=.ap 46 (Ej 0 col) (Ej 1 col)
def PC(col:Nat):CE:=.ap 48 (xU col) (.lit 0)
def Aex(col:Nat):CE:=.ap 47 (xU col) (.lit 0)
def V8(a:AV)(q:CE):Bool:=match FO a with
 | some p=>CE.beq p.1 q
 | none=>false
noncomputable def pDf(col:Nat):PE:=⟨73,λxs=>match xs with
 | [a,.ext 1 false (.ap 51 (.v 0) _),b,.ext 1 false (.ap 51 (.v 1) _)]=>if V8 a (PC col) && V8 b (Aex col) then some (aL (.v 2)) else none
 | _=>none⟩
noncomputable def pLw(col:Nat):PE:=⟨67,λxs=>match xs with
 | [a,.ext 1 false (.ap 51 (.v 2) _)]=>if V8 a (.ap 46 (.v 0) (PC col)) then some (.agg [aQ (.v 2) 50080001,aL (.v 3)]) else none
 | _=>none⟩
def tZ(col:Nat):Bool→List (CE × Bool)
 | true=>[(Ej 0 col,true)]
 | false=>[(Ej 0 col,false),(Ej 1 col,false),(PC col,false)]
def iV(n col:Nat)(z:Bool):Fa:=⟨[],[(.v 0,0,(n:Int)),(.v 1,0,(n:Int))],[(.v 0,2000001),(.v 1,2000001)],tZ col z,[],[],[]⟩
def Ab9(col:Nat):List AV:=[.agg [aQ (.v 0) 40000000,aL (.v 0)],.agg [aQ (.v 1) 40000000,aL (.v 1)],.val (.int .i64 (col:Int))]
noncomputable def AiO(n col:Nat)(z:Bool):Option (List AV):=kdA [.leaf,.leaf] (BR AC (Dd (Wn (iV n col z) [pDf col,pLw col,OY (iV n col z)]) AC 200) 70 (Ab9 col) [] 16 0)
def AgT:Bool→List AV
 | true=>[aQ (.v 0) 40000000,aL (.v 0)]
 | false=>[aQ (.v 2) 50080001,aL (.v 3)]
def isR(rs:List AV)(o:Option (List AV)):Bool:=match o with
 | some l=>Gv l rs
 | none=>false
noncomputable def Aey(m:Nat):Bool:=(List.range m).all λcol=>(List.range 7).all λn=>Nat.ble n col || (isR (AgT true) (AiO n col true) && isR (AgT false) (AiO n col false))
theorem AcP:Aey 6=true:=by kernel_rfl
def BL(l p:List Rat)(c cp:Rat)(col:Nat):VL:=⟨λ_=>0,λk=>match k with
 | 0=>l
 | 1=>p
 | 2=>N4 (((l.getD col 0 / p.getD col 0).den:Int):Rat) l ((l.getD col 0 / p.getD col 0).num:Rat) p
 | 3=>Cj (N4 (((l.getD col 0 / p.getD col 0).den:Int):Rat) l ((l.getD col 0 / p.getD col 0).num:Rat) p)
 | _=>[],λk=>match k with
 | 0=>c
 | 1=>cp
 | 2=>c / (((l.getD col 0 / p.getD col 0).den:Int):Rat)*Eu (N4 (((l.getD col 0 / p.getD col 0).den:Int):Rat) l ((l.getD col 0 / p.getD col 0).num:Rat) p)
 | _=>0,λ_=>[]⟩
theorem O4{rs:List AV}{o:Option (List AV)}(h:isR rs o=true):o=some rs:=by
 unfold isR at h;split at h
 ·rw [C6 h]
 ·cases h
theorem E7{a:AV}{q:CE}(h:V8 a q=true):∃ n,FO a=some (q,n):=by
 unfold V8 at h;split at h
 ·rename_i p hp
  exact ⟨p.2,by rw [hp,← CE.beq_eq h]⟩
 ·cases h
section
variable {l p : List Rat} {c cp : Rat} {col s : Nat}
theorem YQ(k:Nat)(hk:k<2)(i:Nat):qD (BL l p c cp col) (Ej k i)=(if k=0 then l else p).getD i 0:=by
 match k,hk with
 | 0,_=>simp [Ej,qD,lD,zD,BL]
 | 1,_=>simp [Ej,qD,lD,zD,BL]
theorem AaX:qD (BL l p c cp col) (xU col)=l.getD col 0 / p.getD col 0:=by
 unfold xU;simp only [qD];rw [← show qD (BL l p c cp col) (Ej 0 col)=l.getD col 0 from YQ 0 (by decide) col,← show qD (BL l p c cp col) (Ej 1 col)=p.getD col 0 from YQ 1 (by decide) col]
theorem rC:qD (BL l p c cp col) (PC col)=(((l.getD col 0 / p.getD col 0).den:Int):Rat):=by
 unfold PC;simp only [qD];rw [AaX]
theorem AiI:qD (BL l p c cp col) (Aex col)=((l.getD col 0 / p.getD col 0).num:Rat):=by
 unfold Aex;simp only [qD];rw [AaX]
theorem Tc:qD (BL l p c cp col) (.v 0)=c:=by simp only [qD,BL]
theorem MC(hl:Dr s l)(hp:Dr s p)(hz:p.getD col 0≠0):Sm (((l.getD col 0 / p.getD col 0).den:Nat):Int) s∧Sm (l.getD col 0 / p.getD col 0).num s:=by
 obtain ⟨x,hx,sx⟩:=hl.at_ col;obtain ⟨y,hy,sy⟩:=hp.at_ col;have hy0:y≠0:=λe=>hz (by rw [hy,e]; rfl)
 rw [hx,hy];exact Kc sx sy hy0
theorem sS(hl:Dr s l)(hp:Dr s p)(hs:1≤s)(h2:s≤20000)(hz:p.getD col 0≠0)(hn:l.length≤6)(he:p.length=l.length):@PE.ok (Ab (BL l p c cp col)) (pDf col):=by
 intro xs r e;refine ⟨λ_ _=>by simp [pDf,go_sem],λρ M w vs hm0 hv=>?_⟩;unfold pDf at e;dsimp only at e;split at e
 ·rename_i a _ b _
  split at e
  ·rename_i hc
   rw [Bool.and_eq_true] at hc
   cases e
   obtain ⟨n1,e1⟩:=E7 hc.1;obtain ⟨n2,e2⟩:=E7 hc.2;obtain ⟨va,_,rfl,k1,vb,_,rfl,k2,vc,_,rfl,k3,vd,_,rfl,k4,k5⟩:=hv;have k5:_=[]:=k5;subst k5;have q1:=(Bn e1 (@Bz.rv (Ab (BL l p c cp col)) ρ M w _ _ k1)).1;have q3:=(Bn e2 (@Bz.rv (Ab (BL l p c cp col)) ρ M w _ _ k3)).1;have q2:=C3 k2;have q4:=C3 k4;rw [rC] at q1;rw [AiI] at q3;rw [show lD (BL l p c cp col) (.v 0)=l by simp [lD,BL]] at q2;rw [show lD (BL l p c cp col) (.v 1)=p by simp [lD,BL]] at q4;obtain ⟨s1,s2⟩:=MC hl hp hz;refine Calls.mono (Ag9 (λx hx=>(hl.rsm hs hx).mono (by omega)) (λx hx=>(hp.rsm hs hx).mono (by omega)) ((Dy s1 hs).mono (by omega)) ((Dy s2 hs).mono (by omega)) hn he hm0 q1 q2 q3 q4) λe w' ⟨v,e1,e2,e3⟩=>⟨v,e1,@Bz.rv (Ab (BL l p c cp col)) ρ M w' _ _ (EP (e:=.v 2) ?_),e3⟩
   rw [show lD (BL l p c cp col) (.v 2)=N4 (((l.getD col 0 / p.getD col 0).den:Int):Rat) l ((l.getD col 0 / p.getD col 0).num:Rat) p by simp [lD,BL]];exact e2
  ·cases e
 ·cases e
theorem pE(hl:Dr s l)(hp:Dr s p)(hs:1≤s)(h2:s≤20000)(hz:p.getD col 0≠0)(hn:l.length≤6)(hc:AR c 40000000):@PE.ok (Ab (BL l p c cp col)) (pLw col):=by
 intro xs r e;refine ⟨λ_ _=>by simp [pLw,go_sem],λρ M w vs hm0 hv=>?_⟩;unfold pLw at e;dsimp only at e;split at e
 ·rename_i a _
  split at e
  ·rename_i hca
   cases e
   obtain ⟨n1,e1⟩:=E7 hca;obtain ⟨va,_,rfl,k1,vb,_,rfl,k2,k5⟩:=hv;have k5:_=[]:=k5;subst k5;have q1:=(Bn e1 (@Bz.rv (Ab (BL l p c cp col)) ρ M w _ _ k1)).1;have q2:=C3 k2;obtain ⟨s1,s2⟩:=MC hl hp hz;have hq:qD (BL l p c cp col) (.ap 46 (.v 0) (PC col))=c / (((l.getD col 0 / p.getD col 0).den:Int):Rat):=by
    have:qD (BL l p c cp col) (.ap 46 (.v 0) (PC col))=qD (BL l p c cp col) (.v 0) / qD (BL l p c cp col) (PC col):=by simp only [qD]
    rw [this,Tc,rC]
   rw [hq] at q1;rw [show lD (BL l p c cp col) (.v 2)=N4 (((l.getD col 0 / p.getD col 0).den:Int):Rat) l ((l.getD col 0 / p.getD col 0).num:Rat) p by simp [lD,BL]] at q2;have hfr:=(Lq hl hp s1 s2).frac (by omega);refine Calls.mono (AjI hfr (by omega) (by omega) ((hc.div (Dy s1 hs)).mono (by omega)) (by rw [LP]; exact hn) (V:=BL l p c cp col) (q:=.v 2) (e:=.v 3) (by simp only [qD,BL]) (by simp [lD,BL]) hm0 q1 q2) λe w' ⟨v,e1,e2,e3⟩=>⟨v,e1,?_,e3⟩
   obtain ⟨cs,rfl,hcs⟩:=e2;refine ⟨cs,rfl,?_⟩;unfold AQ at hcs ⊢;obtain ⟨x,y,e3,r1,r2⟩:=hcs;unfold AQ at r2 ⊢;obtain ⟨x2,y2,e4,r3,r4⟩:=r2;exact ⟨x,y,e3,Ad0 rfl BQ ρ M w' x r1,x2,y2,e4,Km rfl BQ ρ M w' x2 r3,by unfold AQ at r4 ⊢; exact r4⟩
  ·cases e
 ·cases e
theorem I0{V V':VL}:Ry (Ab V) (Ab V') [] []:=λρ ρ' M w cs r=>by
 unfold AQ at r ⊢;exact r
theorem CY{V V':VL}{a a':AV}{l l':List AV}(h:Le V V' (a,a'))(h':Ry (Ab V) (Ab V') l l'):Ry (Ab V) (Ab V') (a :: l) (a' :: l'):=λρ ρ' M w cs r=>by
 unfold AQ at r ⊢;obtain ⟨x,y,e,h1,h2⟩:=r;exact ⟨x,y,e,h ρ ρ' M w x h1,h' ρ ρ' M w y h2⟩
theorem Hw{V V':VL}{q q' e e':CE}{n m:Nat}(h:qD V q=qD V' q')(hs:AR (qD V' q') m)(hl:lD V e=lD V' e'){ρ ρ':Bg}{M:Nat→Prop}{w:World}{v:Value}(hv:@RV (Ab V) ρ M w (.agg [aQ q n,aL e]) v):@RV (Ab V') ρ' M w (.agg [aQ q' m,aL e']) v:=by
 obtain ⟨cs,rfl,hc⟩:=hv;exact ⟨cs,rfl,CY (DT h hs) (CY (Km hl) I0) ρ ρ' M w _ hc⟩
theorem pI(hl:Dr s l)(hp:Dr s p)(hs:1≤s)(h2:s≤20000)(hz:p.getD col 0≠0)(hn:l.length≤6)(he:p.length=l.length)(hcol:col<l.length)(hc:AR c 40000000)(hcp:AR cp 40000000){V:VL}{q e:CE}(hq:qD V q=(ER c l p col).1)(hle:lD V e=(ER c l p col).2){ρ:Bg}{M:Nat→Prop}{w:World}{vl vp vc:Value}(hm0:∀ b,M b→b<w.heap.size)
  (hvl:@Bz (Ab (BL l p c cp col)) ρ M w (.agg [aQ (.v 0) 40000000,aL (.v 0)]) vl) (hvp:@Bz (Ab (BL l p c cp col)) ρ M w (.agg [aQ (.v 1) 40000000,aL (.v 1)]) vp) (hvc:vc = .int .i64 (col:Int)) :
  Calls Tryz.prog 70 #[vl,vp,vc] w λen w'=>∃ u,en = .returned u ∧ @RV (Ab V) ρ M w' (.agg [aQ q 50080001,aL e]) u∧Below w.heap.size w w':=by
 have hrl:∀ x∈l,AR x 2000001:=λx hx=>(hl.rsm hs hx).mono (by omega)
 have hrp:∀ x∈p,AR x 2000001:=λx hx=>(hp.rsm hs hx).mono (by omega)
 have hF:∀ z,(∀ x∈tZ col z,decide (qD (BL l p c cp col) x.1=0)=x.2)→Bi (BL l p c cp col) (iV l.length col z):=λz hz=>EC (λ_=>rfl) (λx hx=>by
  simp only [iV,List.mem_cons,List.not_mem_nil,or_false] at hx
  rcases hx with rfl | rfl
  ·simp [lD,BL]
  ·simp [lD,BL,he]) (λx hx=>by
  simp only [iV,List.mem_cons,List.not_mem_nil,or_false] at hx
  rcases hx with rfl | rfl
  ·simpa [lD,BL] using hrl
  ·simpa [lD,BL] using hrp) hz (λx hx=>by cases hx)
 have hrun:=List.all_eq_true.1 (List.all_eq_true.1 AcP col (List.mem_range.2 (by omega))) l.length (List.mem_range.2 (by omega));rw [Bool.or_eq_true] at hrun;have hrun:=hrun.resolve_left λh=>by
  have:=Nat.le_of_ble_eq_true h;omega
 rw [Bool.and_eq_true] at hrun;have hv:@CH (Ab (BL l p c cp col)) BQ M w (Ab9 col) [vl,vp,vc]:=⟨vl,_,rfl,Hw rfl (by rw [Tc]; exact hc) rfl hvl,vp,_,rfl,Hw rfl (by simp only [qD,BL]; exact hcp) rfl hvp,vc,_,rfl,hvc,rfl⟩;have e0:qD (BL l p c cp col) (Ej 0 col)=l.getD col 0:=YQ 0 (by decide) col;have e1:qD (BL l p c cp col) (Ej 1 col)=p.getD col 0:=YQ 1 (by decide) col;have hsz:=R8 hl hp hs hz hc
 by_cases hx:l.getD col 0=0
 ·have hF:=hF true λx hx'=>by
   simp only [tZ,List.mem_singleton] at hx';subst hx';rw [e0];exact decide_eq_true hx
  have hw:ER c l p col=(c,l):=by
   unfold ER;rw [if_pos hx]
  rw [hw] at hq hle hsz;refine Calls.mono (Xv hF (by
   intro e he';simp only [List.mem_cons,List.not_mem_nil,or_false] at he'
   rcases he' with rfl | rfl | rfl
   ·exact sS hl hp hs h2 hz hn he
   ·exact pE hl hp hs h2 hz hn hc
   ·exact Js hF) (O4 hrun.1) hm0 hv) λen w' ⟨u,e1,e2,e3⟩=>⟨u,e1,Hw (by rw [hq,Tc]) (by rw [hq]; exact hc.mono (by omega)) (by rw [hle]; simp [lD,BL]) e2,e3⟩
 ·have hd:decide (qD (BL l p c cp col) (PC col)=0)=false:=by
   rw [rC];exact decide_eq_false (KF _)
  have hF:=hF false λx hx'=>by
   simp only [tZ,List.mem_cons,List.not_mem_nil,or_false] at hx'
   rcases hx' with rfl | rfl | rfl
   ·rw [e0]
    exact decide_eq_false hx
   ·rw [e1]
    exact decide_eq_false hz
   ·exact hd
  have hw:ER c l p col=(qD (BL l p c cp col) (.v 2),lD (BL l p c cp col) (.v 3)):=by
   unfold ER;rw [if_neg hx];simp [qD,lD,BL]
  rw [hw] at hq hle hsz;refine Calls.mono (Xv hF (by
   intro e he';simp only [List.mem_cons,List.not_mem_nil,or_false] at he'
   rcases he' with rfl | rfl | rfl
   ·exact sS hl hp hs h2 hz hn he
   ·exact pE hl hp hs h2 hz hn hc
   ·exact Js hF) (O4 hrun.2) hm0 hv) λen w' ⟨u,e1,e2,e3⟩=>⟨u,e1,Hw (by rw [hq]) (by rw [hq]; exact hsz.mono (by omega)) (by rw [hle]) e2,e3⟩
end
noncomputable def mB(T:Tb)(c:Code)(n0:Nat)(s:Fm)(Lf:Fm→List (Nat × Nat))(B:List Nat)(d:Rd)(s':Fm):Bool:=match Dd T AC 300 c s with
 | some (.fall s1)=>ON n0 Lf B d s1 s'
 | _=>false
section
variable {A : Nat → Prop} {W0 : World} {ρ0 : Bg} {M0 : Nat → Prop} {H0 : HP} {n0 : Nat} {s s' : Fm} {ρ : Bg} {M : Nat → Prop} {a : Act} {w : World} {Q : Exit → Act → World → Prop} {V V' : VL} {d : Rd} {B : List Nat} {Lf : Fm → List (Nat × Nat)}
theorem jT{F:Fa}{l:List PE}{C:BD}{c:Code}(hA:∀ b,W0.heap.size≤b→A b)(hB:HB H0 ρ0 W0)(hF:Bi V F)(hl:∀ e∈l,@PE.ok (Ab V) e)(hC:@B5 (Ab V) C)(hd:K5 (Ab V) (Ab V') d)(ho:d.out=[])(hr0:∀ o p,ρ0 o=some p→o<n0)
  (h:mB (T8 F l C) c n0 s Lf B d s'=true) (hS:@FS (Ab V) A W0 ρ0 M0 H0 n0 s ρ M a w) (hQ:∀ ρ M a w,@FS (Ab V') A W0 ρ0 M0 H0 n0 s' ρ M a w→Q .normal a w):c.wp Tryz.prog Q a w:=by
 unfold mB at h;split at h
 ·rename_i s1 hr
  refine (@FZ (Ab V) _ _ _ _).1 ((@EN (Ab V) _ _ (@EO.mk (Ab V) _ (El hF hl) (Fh hF) hC) Bq 300).1 false N6 c s (.fall s1) hr Kp none (λ_=>rfl) (@EG (Ab V)) (@iI (Ab V) _) A W0 ρ0 M0 H0 n0 ρ M a w Q hA hB trivial hS λρ1 M1 a1 w1 hS1=>?_);obtain ⟨ρ2,M2,hS2⟩:=JC hd ho hr0 h hS1;exact hQ ρ2 M2 a1 w1 hS2
 ·cases h
end
abbrev Ln:=Rat × List Rat
def Cc(L:List Ln)(k:Nat):Ln:=L.getD k (0,[])
def KH(L:List Ln)(col:Nat):Nat→Nat→Nat
 | 0,i=>i
 | n+1,i=>if (Cc L i).2.getD col 0=0 then KH L col n (i+1) else i
def Cg(L:List Ln)(t col:Nat):Nat:=KH L col (L.length - t) t
def FE(L:List Ln)(t at_ col:Nat):List Ln:=(List.range L.length).map λk=>if k=t then Cc L at_ else if k=at_ then (-(Cc L t).1,(Cc L t).2) else if at_<k then ER (Cc L k).1 (Cc L k).2 (Cc L at_).2 col else Cc L k
def Bp(L:List Ln):Nat→List Nat × List Ln
 | 0=>([],L)
 | n+1=>let g:=Bp L n
  if Cg g.2 g.1.length n<g.2.length then (g.1 ++ [n],FE g.2 g.1.length (Cg g.2 g.1.length n) n) else g
noncomputable def oY:Func:=Tryz.f42
noncomputable def qM:=DH oY
noncomputable def zJ:=lpB qM []
noncomputable def Afy:List WI:=lpK qM []
def qL(k:Nat):AV:=aQ (.v k) 40000000
def wM(k:Nat):List AV:=[qL k,aL (.v k)]
def BB(L0:List Ln)(g:List Nat × List Ln)(col C:Nat):VL:=⟨λk=>if k=20 then (col:Int) else if k=21 then (C:Int) else if 1≤k∧k≤6 then ((g.1.getD (k - 1) 0:Nat):Int) else 0,
 λk=>if 100≤k then (Cc L0 (k - 100)).2 else if 10≤k then (ER (Cc g.2 (k - 10)).1 (Cc g.2 (k - 10)).2 (Cc g.2 (Cg g.2 g.1.length col)).2 col).2 else (Cc g.2 k).2,
 λk=>if 100≤k then (Cc L0 (k - 100)).1 else if 10≤k then (ER (Cc g.2 (k - 10)).1 (Cc g.2 (k - 10)).2 (Cc g.2 (Cg g.2 g.1.length col)).2 col).1 else (Cc g.2 k).1,λ_=>[]⟩
def elD(k:Nat):CE:=.ap 30 (.v k) (.i 20 0)
def AjS(R t a:Nat):List (CE × Bool):=((List.range (a - t)).map λi=>(elD (t+i),true)) ++ (if a<R then [(elD a,false)] else [])
def AeC(R:Nat):List (CE × Nat × Int):=(List.range R).map λk=>(.v k,21,0)
def Aep(R:Nat):List (CE × Nat):=(List.range R).map λk=>(.v k,20000)
def Ad4(R t a:Nat):Fa:=⟨[(20,21,-1),(0,20,0)],AeC R,Aep R,AjS R t a,[],[],[]⟩
def Y_(R:Nat):Fa:=⟨[(21,20,0),(0,20,0)],AeC R,Aep R,[],[],[],[]⟩
noncomputable def pWo(R a:Nat):PE:=⟨70,λxs=>match xs with
 | [.agg [x,.ext 1 false (.ap 51 (.v k) _)],.agg [y,.ext 1 false (.ap 51 (.v k2) _)],.ext 1 false (.ap 50 (.ap 1 (.v 20) (.lit 0)) _)]=>if Ft x (qL k) && Ft y (qL a) && Nat.beq k2 a && Nat.blt k R && Nat.blt a R then some (.agg [aQ (.v (10+k)) 50080001,aL (.v (10+k))]) else none
 | _=>none⟩
def Te(R:Nat):List AV:=[.sl 16 0 R none,aI 21 0]
def MJ(cs:List AV):Option OB:=some ⟨78,5,cs,true,none⟩
def E8(R:Nat):HP:=[(16,MJ ((List.range R).flatMap λk=>wM (100+k)))]
noncomputable def vR(F:Fa)(R a:Nat):Tb:=T8 F [pWo R a] N6
def Ajz(t:Nat):AV:=if t=0 then .val (.slice none 0 0) else .sl 17 0 t none
def ST(t:Nat):Option OB:=some ⟨3,1,(List.range t).map λi=>aI (1+i) 0,true,none⟩
def Akq(R t:Nat):Fm:=gD 63 [(0,.sl 16 0 R none),(5,Ajz t),(10,aI 21 0),(11,aI 20 0)]
 ((16,MJ ((List.range R).flatMap wM)) :: (if t=0 then [] else [(17,ST t)])) 100
def Sc(R t:Nat):Fm:={ Akq R t with wr:=[16] }
def Aa9:Fa:=⟨[],[],[],[],[],[],[]⟩
noncomputable def kS(R:Nat):=DR (vR Aa9 R R) AC 300 300 (.run qM) [] ⟨Te R ++ List.replicate 61 (.val undef),E8 R,17,[16]⟩
noncomputable def Aa5(R t:Nat):=DR (vR (Y_ R) R R) AC 300 300 (.run zJ) [] (Sc R t)
def Abk(s:Fm):List (Nat × Nat):=match (s.tm[5]? : Option AV) with
 | some (.sl d _ _ _)=>[(d,17)]
 | _=>[]
def cO:AV:=.val (.slice none 0 0)
def YJ(k:Nat):List (AV × AV):=[(qL k,qL k),(aL (.v k),aL (.v k))]
def Aci(R:Nat):List (AV × AV):=((List.range R).flatMap λk=>[(qL (100+k),qL k),(aL (.v (100+k)),aL (.v k))]) ++ [(aI 21 0,aI 21 0),(iv 0,aI 20 0),(cO,cO)]
def Ahb(t:Nat):List (AV × AV):=(List.range t).map λi=>(aI (1+i) 0,aI (1+i) 0)
def Acr(t a k:Nat):List (AV × AV):=if k=t then [(qL a,qL t),(aL (.v a),aL (.v t))] else if k=a then [(aQ (.ap 34 (.v t) (.lit 0)) 40000000,qL k),(aL (.v t),aL (.v k))] else if a<k then [(aQ (.v (10+k)) 50080001,qL k),(aL (.v (10+k)),aL (.v k))] else YJ k
def sN(R t a:Nat):List (AV × AV):=(if a<R then ((List.range R).flatMap (Acr t a)) ++ [(aI 20 0,aI (1+t) 0)] else (List.range R).flatMap YJ) ++ Ahb t ++ [(aI 21 0,aI 21 0),(aI 20 1,aI 20 0),(cO,cO)]
def AhI(R:Nat):Rd:=⟨Aci R,[],[],[],[],100⟩
def Ajt(R t a:Nat):Rd:=⟨sN R t a,[],[],[],[],100⟩
noncomputable def Ai9(R:Nat):Bool:=ON 17 Abk [16] (AhI R) (Mm (kS R)) (Sc R 0)
def sW(R t a:Nat):Nat:=if a<R then t+1 else t
noncomputable def nE(R t a:Nat):Bool:=mB (vR (Ad4 R t a) R a) zJ 17 (Sc R t) Abk [16] (Ajt R t a) (Sc R (sW R t a))
noncomputable def AbX(R t:Nat):=DR (vR (Y_ R) R R) AC 300 300 (.at_ (.ext 0)) Afy (Mm (Aa5 R t))
def Aev(t:Nat):AV:=if t=0 then cO else .sl 0 0 t none
def KK(R:Nat):List AV:=(List.range R).flatMap wM
def Afb(R t:Nat):HP:=if t=0 then [(16,MJ (KK R))] else [(0,ST t),(16,MJ (KK R))]
def yZ(R:Nat)(b:Option OB):Bool:=match b with
 | some ⟨T,5,cs,true,none⟩=>Nat.beq T 78 && Gv cs (KK R)
 | _=>false
def Ae6(t:Nat)(b:Option OB):Bool:=match b with
 | some ⟨T,1,cs,true,none⟩=>Nat.beq T 3 && Gv cs ((List.range t).map λi=>aI (1+i) 0)
 | _=>false
noncomputable def rP(R t:Nat)(p:Option (AV × HP)):Bool:=match t with
 | 0=>(match p with
  | some (.val (.slice none 0 0),[(16,b)])=>yZ R b
  | _=>false)
 | t+1=>(match p with
  | some (.sl 0 0 n none,[(0,b),(16,c)])=>Nat.beq n (t+1) && Ae6 (t+1) b && yZ R c
  | _=>false)
noncomputable def AbE(R t:Nat):Bool:=match Aa5 R t,AbX R t with
 | some (.done (.ext 0) _),some (.done .ret s)=>rP R t (WW (E8 R) 17 0 oY s)
 | _,_=>false
noncomputable def nL(R:Nat):Bool:=Ai9 R && (List.range (R+1)).all λt=>AbE R t && (List.range (R+1)).all λa=>Nat.blt a t || nE R t a
theorem AjF:∀ R,R<7→1≤R→nL R=true
 | 0,_,h=>absurd h (by decide)
 | 1,_,_=>by kernel_rfl
 | 2,_,_=>by kernel_rfl
 | 3,_,_=>by kernel_rfl
 | 4,_,_=>by kernel_rfl
 | 5,_,_=>by kernel_rfl
 | 6,_,_=>by kernel_rfl
theorem AgD:∀ R,R<7→1≤R→kS R=some (.loop zJ Afy (Mm (kS R)))
 | 0,_,h=>absurd h (by decide)
 | 1,_,_=>by kernel_rfl
 | 2,_,_=>by kernel_rfl
 | 3,_,_=>by kernel_rfl
 | 4,_,_=>by kernel_rfl
 | 5,_,_=>by kernel_rfl
 | 6,_,_=>by kernel_rfl
theorem Ai1:oY.body=some qM:=by kernel_rfl
theorem Aio:oY.ntmps=63:=by kernel_rfl
theorem M5(L:List Ln)(col:Nat):∀ n i,i≤KH L col n i∧KH L col n i≤i+n∧(∀ j,i≤j→j<KH L col n i→(Cc L j).2.getD col 0=0)∧(KH L col n i<i+n→(Cc L (KH L col n i)).2.getD col 0≠0)
 | 0,i=>⟨Nat.le_refl _,Nat.le_refl _,λj h1 h2=>absurd (Nat.lt_of_le_of_lt h1 h2) (Nat.lt_irrefl _),λh=>absurd h (Nat.lt_irrefl _)⟩
 | n+1,i=>by
  unfold KH;split
  ·rename_i h
   obtain ⟨h1,h2,h3,h4⟩:=M5 L col n (i+1);refine ⟨by omega,by omega,λj a b=>?_,λa=>h4 (by omega)⟩
   by_cases e:j=i
   ·rw [e]; exact h
   ·exact h3 j (by omega) b
  ·rename_i h
   exact ⟨Nat.le_refl _,by omega,λj a b=>absurd (Nat.lt_of_le_of_lt a b) (Nat.lt_irrefl _),λ_=>h⟩
theorem DW{L:List Ln}{t col:Nat}(ht:t≤L.length):t≤Cg L t col∧Cg L t col≤L.length∧(∀ j,t≤j→j<Cg L t col→(Cc L j).2.getD col 0=0)∧(Cg L t col<L.length→(Cc L (Cg L t col)).2.getD col 0≠0):=by
 obtain ⟨h1,h2,h3,h4⟩:=M5 L col (L.length - t) t;exact ⟨h1,by unfold Cg; omega,h3,λh=>h4 (by unfold Cg at h; omega)⟩
theorem U_{L:List Ln}{t a col:Nat}:(FE L t a col).length=L.length:=by simp [FE]
theorem Kf{L:List Ln}{t a col k:Nat}(hk:k<L.length):Cc (FE L t a col) k=if k=t then Cc L a else if k=a then (-(Cc L t).1,(Cc L t).2) else if a<k then ER (Cc L k).1 (Cc L k).2 (Cc L a).2 col else Cc L k:=by
 unfold Cc FE;rw [List.getD_eq_getElem?_getD,List.getElem?_map,List.getElem?_range hk];rfl
def K6(s:Nat):Nat→Nat
 | 0=>s
 | n+1=>2*K6 s n+1
structure JL (C s B:Nat) (x:Ln):Prop where
 len:x.2.length=C
 ints:Dr s x.2
 rsm:AR x.1 B
theorem JL.mono{C s s' B B':Nat}{x:Ln}(h:JL C s B x)(hs:s≤s')(hb:B≤B'):JL C s' B' x:=⟨h.len,h.ints.mono hs,h.rsm.mono hb⟩
structure Ni (R C s B:Nat) (n:Nat) (g:List Nat × List Ln):Prop where
 tn:g.1.length≤n
 tR:g.1.length≤R
 lt:∀ x∈g.1,x<n
 len:g.2.length=R
 ln:∀ k,k<R→JL C (K6 s n) (B+n*60001) (Cc g.2 k)
theorem Pp{s:Nat}(hs:s≤300):∀ n,n≤6→K6 s n≤20000
 | 0,_=>by unfold K6; omega
 | 1,_=>by simp only [K6]; omega
 | 2,_=>by simp only [K6]; omega
 | 3,_=>by simp only [K6]; omega
 | 4,_=>by simp only [K6]; omega
 | 5,_=>by simp only [K6]; omega
 | 6,_=>by simp only [K6]; omega
theorem Sx{s:Nat}(hs:1≤s):∀ n,1≤K6 s n
 | 0=>hs
 | n+1=>by unfold K6; omega
theorem Jm{L0:List Ln}{C s B:Nat}(hs:s≤300)(hs1:1≤s)(hL:∀ k,k<L0.length→JL C s B (Cc L0 k)):∀ n,n≤6→Ni L0.length C s B n (Bp L0 n)
 | 0,_=>⟨Nat.le_refl _,Nat.zero_le _,λx hx=>(by cases hx),rfl,λk hk=>by
  have:=hL k hk;simpa [K6,Bp] using this⟩
 | n+1,hn=>by
  have ih:=Jm hs hs1 hL n (by omega);have hsz:=Pp hs n (by omega);have hs2:=Sx hs1 n;have up:∀ x,JL C (K6 s n) (B+n*60001) x→JL C (K6 s (n+1)) (B+(n+1)*60001) x:=λx h=>h.mono (by show K6 s n≤2*K6 s n+1; omega) (by omega)
  unfold Bp;generalize hg:Bp L0 n=g at ih;dsimp only;split
  ·rename_i ha
   obtain ⟨p1,p2,p3,p4⟩:=DW (L:=g.2) (t:=g.1.length) (col:=n) (by rw [ih.len]; exact ih.tR);have hz:=p4 ha;have hlA:=ih.ln _ (by rw [← ih.len]; exact ha);have htR:g.1.length<L0.length:=by have:=ih.len; omega
   refine ⟨by simp; exact ih.tn,by simp; omega,λx hx=>?_,by rw [U_]; exact ih.len,λk hk=>?_⟩
   ·rcases List.mem_append.1 hx with hx | hx
    ·exact Nat.lt_succ_of_lt (ih.lt x hx)
    ·rw [List.mem_singleton] at hx
     omega
   ·show JL _ _ _ (Cc (FE g.2 _ _ _) k)
    rw [Kf (by rw [ih.len]; exact hk)];split
    ·exact up _ hlA
    ·split
     ·have:=ih.ln _ htR
      exact up _ ⟨this.len,this.ints,this.rsm.neg⟩
     ·split
      ·have hk':=ih.ln k hk
       exact ⟨by rw [mP]; exact hk'.len,ZR hk'.ints hlA.ints hs2 hz,(R8 hk'.ints hlA.ints hs2 hz hk'.rsm).mono (by omega)⟩
      ·exact up _ (ih.ln k hk)
  ·exact ⟨Nat.le_succ_of_le ih.tn,ih.tR,λx hx=>Nat.lt_succ_of_lt (ih.lt x hx),ih.len,λk hk=>up _ (ih.ln k hk)⟩
section
variable {L0 : List Ln} {g : List Nat × List Ln} {n C : Nat}
theorem Es{k:Nat}(hk:k<10):qD (BB L0 g n C) (.v k)=(Cc g.2 k).1:=by
 simp only [qD,BB];rw [if_neg (by omega),if_neg (by omega)]
theorem Fp{k:Nat}(hk:k<10):lD (BB L0 g n C) (.v k)=(Cc g.2 k).2:=by
 simp only [lD,BB];rw [if_neg (by omega),if_neg (by omega)]
theorem mQ{k:Nat}(hk:k<90):qD (BB L0 g n C) (.v (10+k))=(ER (Cc g.2 k).1 (Cc g.2 k).2 (Cc g.2 (Cg g.2 g.1.length n)).2 n).1:=by
 simp only [qD,BB];rw [if_neg (by omega),if_pos (by omega),show 10+k - 10=k by omega]
theorem iW{k:Nat}(hk:k<90):lD (BB L0 g n C) (.v (10+k))=(ER (Cc g.2 k).1 (Cc g.2 k).2 (Cc g.2 (Cg g.2 g.1.length n)).2 n).2:=by
 simp only [lD,BB];rw [if_neg (by omega),if_pos (by omega),show 10+k - 10=k by omega]
theorem sC{k:Nat}:qD (BB L0 g n C) (.v (100+k))=(Cc L0 k).1:=by
 simp only [qD,BB];rw [if_pos (by omega),show 100+k - 100=k by omega]
theorem qJ{k:Nat}:lD (BB L0 g n C) (.v (100+k))=(Cc L0 k).2:=by
 simp only [lD,BB];rw [if_pos (by omega),show 100+k - 100=k by omega]
theorem qN{k:Nat}(hk:k<10):qD (BB L0 g n C) (elD k)=(Cc g.2 k).2.getD n 0:=by
 unfold elD;simp only [qD];rw [Fp hk];simp [zD,BB]
theorem XZ{i:Nat}(hi:i<6):(BB L0 g n C).z (1+i)=((g.1.getD i 0:Nat):Int):=by
 simp only [BB];rw [if_neg (by omega),if_neg (by omega),if_pos (by omega),show 1+i - 1=i by omega]
variable {R s B : Nat}
theorem YV(h:Ni R C s B n g)(hn:n≤6)(hC:C≤6)(k:Nat) : -1152921504606846976≤(BB L0 g n C).z k∧(BB L0 g n C).z k≤1152921504606846976:=by
 simp only [BB];split
 ·omega
 ·split
  ·omega
  ·split
   ·have:g.1.getD (k - 1) 0≤6:=by
     by_cases hk:k - 1<g.1.length
     ·rw [List.getD_eq_getElem?_getD,List.getElem?_eq_getElem hk]
      have:=h.lt _ (List.getElem_mem hk);simp only [Option.getD_some];omega
     ·rw [List.getD_eq_getElem?_getD,List.getElem?_eq_none (by omega)]
      simp
    omega
   ·omega
theorem lZ(h:Ni R C s B n g)(hR:R≤6):∀ x∈AeC R,((lD (BB L0 g n C) x.1).length:Int)=(BB L0 g n C).z x.2.1+x.2.2:=λx hx=>by
 obtain ⟨k,hk,rfl⟩:=List.mem_map.1 hx;have hk:=List.mem_range.1 hk;show ((lD _ (.v k)).length:Int)=(BB L0 g n C).z 21+0;rw [Fp (by omega),(h.ln k hk).len];simp [BB]
theorem Abg(h:Ni R C s B n g)(hs:s≤300)(hs1:1≤s)(hR:R≤6)(hn:n≤6):∀ x∈Aep R,∀ y∈lD (BB L0 g n C) x.1,AR y x.2:=λx hx y hy=>by
 obtain ⟨k,hk,rfl⟩:=List.mem_map.1 hx;have hk:=List.mem_range.1 hk;have hy:y∈lD (BB L0 g n C) (.v k):=hy;rw [Fp (by omega)] at hy;exact ((h.ln k hk).ints.rsm (Sx hs1 n) hy).mono (Pp hs n hn)
theorem AiJ(h:Ni R C s B n g)(hs:s≤300)(hs1:1≤s)(hR:R≤6)(hC:C≤6)(hn:n<C):Bi (BB L0 g n C) (Ad4 R g.1.length (Cg g.2 g.1.length n)):=by
 obtain ⟨p1,p2,p3,p4⟩:=DW (L:=g.2) (t:=g.1.length) (col:=n) (by rw [h.len]; exact h.tR);have hl:=h.len;refine ⟨rfl,YV h (by omega) hC,λx hx=>?_,lZ h hR,Abg h hs hs1 hR (by omega),λx hx=>?_,λx hx=>(by cases hx),λx hx=>(by cases hx),λx hx=>(by cases hx)⟩
 ·simp only [Ad4,List.mem_cons,List.not_mem_nil,or_false] at hx
  rcases hx with rfl | rfl
  ·simp [BB]; omega
  ·simp [BB]
 ·rcases List.mem_append.1 hx with hx | hx
  ·obtain ⟨i,hi,rfl⟩:=List.mem_map.1 hx
   have hi:=List.mem_range.1 hi;show decide (qD _ (elD (g.1.length+i))=0)=true;rw [qN (by omega)];exact decide_eq_true (p3 _ (by omega) (by omega))
  ·split at hx
   ·rename_i ha
    rw [List.mem_singleton] at hx;subst hx;show decide (qD _ (elD _)=0)=false;rw [qN (by omega)];exact decide_eq_false (p4 (by omega))
   ·cases hx
theorem Ahh(h:Ni R C s B n g)(hs:s≤300)(hs1:1≤s)(hR:R≤6)(hC:C≤6)(hn:n≤C)(hx:C≤n):Bi (BB L0 g n C) (Y_ R):=by
 refine ⟨rfl,YV h (by omega) hC,λx hx=>?_,lZ h hR,Abg h hs hs1 hR (by omega),λx hx=>(by cases hx),λx hx=>(by cases hx),λx hx=>(by cases hx),λx hx=>(by cases hx)⟩;simp only [Y_,List.mem_cons,List.not_mem_nil,or_false] at hx
 rcases hx with rfl | rfl
 ·simp [BB]; omega
 ·simp [BB]
end
theorem FS.wr'[Cd]{A:Nat→Prop}{W0:World}{ρ0:Bg}{M0:Nat→Prop}{H0:HP}{n0:Nat}{s:Fm}{ρ:Bg}{M:Nat→Prop}{a:Act}{w:World}(l:List Nat)(hl:∀ x∈s.wr,x∈l)(h:FS A W0 ρ0 M0 H0 n0 s ρ M a w):FS A W0 ρ0 M0 H0 n0 { s with wr:=l } ρ M a w:=
 ⟨h.size,h.defers,h.slots,h.heap,h.dom,h.nx,h.bnd,h.fr,h.tr,h.sup,h.mon,h.old,λo ho hw=>h.kp o ho λx hx=>hw x (hl x hx)⟩
section
variable {L0 : List Ln} {g : List Nat × List Ln} {n C R s B : Nat}
theorem AeN(h:Ni R C s B n g)(hs:s≤300)(hs1:1≤s)(hB:B≤39000000)(hR:R≤6)(hC:C≤6)(hn:n<C):@PE.ok (Ab (BB L0 g n C)) (pWo R (Cg g.2 g.1.length n)):=by
 intro xs r e;refine ⟨λ_ _=>by simp [pWo,go_sem],λρ M w vs hm0 hv=>?_⟩;unfold pWo at e;dsimp only at e;split at e
 ·rename_i x k d1 y k2 d2 d3
  split at e
  ·rename_i hc
   simp only [Bool.and_eq_true] at hc;obtain ⟨⟨⟨⟨c1,c2⟩,c3⟩,c4⟩,c5⟩:=hc
   cases e
   have c1:=FN c1;have c2:=FN c2;have c3:=Nat.eq_of_beq_eq_true c3;have c4:k<R:=Nat.le_of_ble_eq_true c4;have c5:Cg g.2 g.1.length n<R:=Nat.le_of_ble_eq_true c5;subst c1;subst c2;subst c3;obtain ⟨va,_,rfl,k1,vb,_,rfl,k2,vc,_,rfl,k3,k5⟩:=hv;have k5:_=[]:=k5;subst k5;obtain ⟨p1,p2,p3,p4⟩:=DW (L:=g.2) (t:=g.1.length) (col:=n) (by rw [h.len]; exact h.tR);have hz:=p4 (by rw [h.len]; exact c5);have hk:=h.ln k c4;have ha:=h.ln _ c5;have hb:B+n*60001≤40000000:=by
     omega
   have hvc:vc = .int .i64 (n:Int):=by
    have:=BM (V:=BB L0 g n C) (F:=⟨[],[],[],[],[],[],[]⟩) ⟨rfl,YV h (by omega) hC,λ_ h=>(by cases h),λ_ h=>(by cases h),λ_ h=>(by cases h),λ_ h=>(by cases h),λ_ h=>(by cases h),λ_ h=>(by cases h),λ_ h=>(by cases h)⟩ (a:=.ext 1 false (.ap 50 (.ap 1 (.v 20) (.lit 0)) d3)) rfl k3;rw [this];simp [iD,BB]
   refine pI (c:=(Cc g.2 k).1) (cp:=(Cc g.2 (Cg g.2 g.1.length n)).1) (s:=K6 s n) hk.ints ha.ints (Sx hs1 n) (Pp hs n (by omega)) hz (by rw [hk.len]; omega) (by rw [hk.len,ha.len]) (by rw [hk.len]; exact hn) (hk.rsm.mono hb) (ha.rsm.mono hb) (mQ (by omega)) (iW (by omega)) hm0 ?_ ?_ hvc
   ·exact Hw (V:=BB L0 g n C) (q:=.v k) (e:=.v k) (by rw [Es (by omega),Tc]) (by rw [Tc]; exact hk.rsm.mono hb) (by rw [Fp (by omega)]; simp [lD,BL]) k1
   ·exact Hw (V:=BB L0 g n C) (q:=.v (Cg g.2 g.1.length n)) (e:=.v (Cg g.2 g.1.length n)) (by rw [Es (by omega)]; simp only [qD,BL]) (by simp only [qD,BL]; exact ha.rsm.mono hb) (by rw [Fp (by omega)]; simp [lD,BL]) k2
  ·cases e
 ·cases e
theorem J1(L:List Ln)(n:Nat):Bp L (n+1)=if Cg (Bp L n).2 (Bp L n).1.length n<(Bp L n).2.length then ((Bp L n).1 ++ [n],FE (Bp L n).2 (Bp L n).1.length (Cg (Bp L n).2 (Bp L n).1.length n) n) else Bp L n:=by
 rw [Bp]
theorem Afs(hL:∀ k,k<R→JL C s B (Cc L0 k))(hB:B≤39000000)(hR:R≤6):∀ x∈Aci R,Le (BB L0 ([],L0) 0 C) (BB L0 ([],L0) 0 C) x:=λx hx=>by
 rcases List.mem_append.1 hx with hx | hx
 ·obtain ⟨k,hk,hx⟩:=List.mem_flatMap.1 hx
  have hk:=List.mem_range.1 hk;simp only [List.mem_cons,List.not_mem_nil,or_false] at hx
  rcases hx with rfl | rfl
  ·refine DT ?_ ?_
   ·rw [sC,Es (by omega)]
   ·rw [Es (by omega)]
    exact (hL k hk).rsm.mono (by omega)
  ·refine Km ?_
   rw [qJ,Fp (by omega)]
 ·simp only [List.mem_cons,List.not_mem_nil,or_false] at hx
  rcases hx with rfl | rfl | rfl
  ·exact SP rfl
  ·exact AgR (by simp [iD,BB])
  ·exact Jk _ trivial
theorem jB{g':List Nat × List Ln}{n' b:Nat}{k:Nat}(hk:k<10)(he:Cc g'.2 k=Cc g.2 k)(hb:b≤40000000)(hr:AR (Cc g.2 k).1 b):∀ x∈YJ k,Le (BB L0 g n C) (BB L0 g' n' C) x:=λx hx=>by
 simp only [YJ,List.mem_cons,List.not_mem_nil,or_false] at hx
 rcases hx with rfl | rfl
 ·refine DT ?_ ?_
  ·rw [Es hk,Es hk,he]
  ·rw [Es hk,he]
   exact hr.mono hb
 ·refine Km ?_
  rw [Fp hk,Fp hk,he]
theorem Afj(h:Ni R C s B n g)(h':Ni R C s B (n+1) (Bp L0 (n+1)))(hg:g=Bp L0 n)(hB:B≤39000000)(hR:R≤6)(hn:n<6):∀ x∈sN R g.1.length (Cg g.2 g.1.length n),Le (BB L0 g n C) (BB L0 (Bp L0 (n+1)) (n+1) C) x:=λx hx=>by
 have hb:B+n*60001≤40000000:=by
  clear hx;omega
 have hb':B+(n+1)*60001≤40000000:=Nat.le_trans (Nat.add_le_add hB (Nat.mul_le_mul_right 60001 (show n+1≤6 from hn))) (by decide);have hlen:=h.len;have hd:Bp L0 (n+1)=if Cg g.2 g.1.length n<g.2.length then (g.1 ++ [n],FE g.2 g.1.length (Cg g.2 g.1.length n) n) else g:=by
  rw [hg];exact J1 L0 n
 have pre:∀ i,i<g.1.length→(Bp L0 (n+1)).1.getD i 0=g.1.getD i 0:=λi hi=>by
  rw [hd];split
  ·show (g.1 ++ [n]).getD i 0=_
   rw [List.getD_eq_getElem?_getD,List.getElem?_append_left hi,← List.getD_eq_getElem?_getD]
  ·rfl
 unfold sN at hx
 rcases List.mem_append.1 hx with hx | hx
 ·rcases List.mem_append.1 hx with hx | hx
  ·split at hx
   ·rename_i ha
    rw [if_pos (by omega)] at hd
    rcases List.mem_append.1 hx with hx | hx
    ·obtain ⟨k,hk,hx⟩:=List.mem_flatMap.1 hx
     have hk:=List.mem_range.1 hk;have hs2:Cc (Bp L0 (n+1)).2 k=if k=g.1.length then Cc g.2 (Cg g.2 g.1.length n) else if k=Cg g.2 g.1.length n then (-(Cc g.2 g.1.length).1,(Cc g.2 g.1.length).2) else if Cg g.2 g.1.length n<k then ER (Cc g.2 k).1 (Cc g.2 k).2 (Cc g.2 (Cg g.2 g.1.length n)).2 n else Cc g.2 k:=by
      rw [hd];exact Kf (by omega)
     have hr:=(h'.ln k hk).rsm.mono hb';unfold Acr at hx;split at hx
     ·rename_i e
      rw [if_pos e] at hs2;simp only [List.mem_cons,List.not_mem_nil,or_false] at hx;subst e
      rcases hx with rfl | rfl
      ·exact DT (by rw [Es (by omega),Es (by omega),hs2]) (by rw [Es (by omega)]; exact hr)
      ·exact Km (by rw [Fp (by omega),Fp (by omega),hs2])
     ·rename_i e
      rw [if_neg e] at hs2;split at hx
      ·rename_i e2
       rw [if_pos e2] at hs2;simp only [List.mem_cons,List.not_mem_nil,or_false] at hx;have ht:g.1.length<10:=by have:=h.tR; omega
       rcases hx with rfl | rfl
       ·refine DT ?_ (by rw [Es (by omega)]; exact hr)
        have:qD (BB L0 g n C) (.ap 34 (.v g.1.length) (.lit 0)) = -qD (BB L0 g n C) (.v g.1.length):=by simp only [qD]
        rw [this,Es ht,Es (by omega),hs2]
       ·exact Km (by rw [Fp ht,Fp (by omega),hs2])
      ·rename_i e2
       rw [if_neg e2] at hs2;split at hx
       ·rename_i e3
        rw [if_pos e3] at hs2;simp only [List.mem_cons,List.not_mem_nil,or_false] at hx
        rcases hx with rfl | rfl
        ·exact DT (by rw [mQ (by omega),Es (by omega),hs2]) (by rw [Es (by omega)]; exact hr)
        ·exact Km (by rw [iW (by omega),Fp (by omega),hs2])
       ·rename_i e3
        rw [if_neg e3] at hs2;exact jB (by omega) hs2 hb (h.ln k hk).rsm x hx
    ·rw [List.mem_singleton] at hx
     subst hx;have htR:g.1.length<6:=by
      obtain ⟨p1,_⟩:=DW (L:=g.2) (t:=g.1.length) (col:=n) (by rw [h.len]; exact h.tR);omega
     refine SP ?_;unfold iD;rw [XZ htR,hd];simp [BB]
   ·rename_i ha
    rw [if_neg (by omega)] at hd;obtain ⟨k,hk,hx⟩:=List.mem_flatMap.1 hx;have hk:=List.mem_range.1 hk;exact jB (by omega) (by rw [hd]) hb (h.ln k hk).rsm x hx
  ·obtain ⟨i,hi,rfl⟩:=List.mem_map.1 hx
   have hi:=List.mem_range.1 hi;have:g.1.length≤6:=by have:=h.tR; omega
   refine SP ?_;unfold iD;rw [XZ (by omega),XZ (by omega),pre i hi]
 ·simp only [List.mem_cons,List.not_mem_nil,or_false] at hx
  rcases hx with rfl | rfl | rfl
  ·exact SP (by simp [iD,BB])
  ·exact SP (by simp [iD,BB])
  ·exact Jk _ trivial
end
theorem Nx{R:Nat}{b:Option OB}(h:yZ R b=true):b=MJ (KK R):=by
 unfold yZ at h;split at h
 ·rw [Bool.and_eq_true] at h
  rw [Nat.eq_of_beq_eq_true h.1,C6 h.2];rfl
 ·cases h
theorem Vf{t:Nat}{b:Option OB}(h:Ae6 t b=true):b=ST t:=by
 unfold Ae6 at h;split at h
 ·rw [Bool.and_eq_true] at h
  rw [Nat.eq_of_beq_eq_true h.1,C6 h.2];rfl
 ·cases h
theorem R6{R t:Nat}{p:Option (AV × HP)}(h:rP R t p=true):p=some (Aev t,Afb R t):=by
 unfold rP at h;split at h
 ·split at h
  ·rw [Nx h]
   rfl
  ·cases h
 ·split at h
  ·simp only [Bool.and_eq_true] at h
   obtain ⟨⟨h1,h2⟩,h3⟩:=h;rw [Nat.eq_of_beq_eq_true h1,Vf h2,Nx h3];rfl
  ·cases h
theorem AdR{V:VL}{R:Nat}:@PE.ok (Ab V) (pWo R R):=λxs r e=>by
 unfold pWo at e;dsimp only at e;split at e
 ·split at e
  ·rename_i hc
   simp only [Bool.and_eq_true] at hc;have h:Nat.blt R R=true:=hc.2;have:=Nat.le_of_ble_eq_true h;omega
  ·cases e
 ·cases e
section
variable {L0 : List Ln} {C s B : Nat}
theorem Ah4(hR:L0.length≤6)(hR1:1≤L0.length)(hC:C≤6)(hs:s≤300)(hs1:1≤s)(hB:B≤39000000)(hL:∀ k,k<L0.length→JL C s B (Cc L0 k)){ρ0:Bg}{M:Nat→Prop}{w:World}{vs:List Value}
  (h1:@CK (Ab (BB L0 ([],L0) 0 C)) ρ0 M (@Di ρ0 w (lk (E8 L0.length))) w 0 (lk (E8 L0.length))) (h2:@CK (Ab (BB L0 (Bp L0 C) C C)) ρ0 M (@Di ρ0 w (lk (E8 L0.length))) w 0 (lk (E8 L0.length))) (hd:∀ o p,ρ0 o=some p→o<17) (hv:@CH (Ab (BB L0 ([],L0) 0 C)) ρ0 M w (Te L0.length) vs) :
  Calls Tryz.prog 42 vs.toArray w λe w'=>∃ v,e = .returned v ∧ @BI (Ab (BB L0 (Bp L0 C) C C)) ρ0 M (@Di ρ0 w (lk (E8 L0.length))) w 0 (lk (E8 L0.length)) (Afb L0.length (Bp L0 C).1.length) (Aev (Bp L0 C).1.length) v w':=by
 have hok:=Jm hs hs1 hL;have hall:=AjF L0.length (by omega) hR1;unfold nL at hall;rw [Bool.and_eq_true] at hall;have hA:∀ b,w.heap.size≤b → @Di ρ0 w (lk (E8 L0.length)) b:=λb hb=>.inl hb
 have hHB:HB (E8 L0.length) ρ0 w:=λx b g c e1 e2=>by
  obtain ⟨⟨hobj,_⟩,_⟩:=id h1;obtain ⟨g',c',arr,cs,k1,_,_,k4,_⟩:=hobj x b e1;rw [e2] at k1;have:g=g':=congrArg Prod.fst (Option.some.inj k1);rw [this];exact AJ k4
 refine nV (n0:=17) (r:=Aev (Bp L0 C).1.length) (U:=Afb L0.length (Bp L0 C).1.length) Tryz.func42 Ai1 h1 h2 hd hv λa hS=>?_
 have hS:=@FS.wr' (Ab _) _ _ _ _ _ _ _ _ _ _ _ [16] (λx hx=>(by cases hx)) hS;have hF0:Bi (BB L0 ([],L0) 0 C) Aa9:=⟨rfl,YV (hok 0 (by decide)) (by decide) hC,λ_ h=>(by cases h),λ_ h=>(by cases h),λ_ h=>(by cases h),λ_ h=>(by cases h),λ_ h=>(by cases h),λ_ h=>(by cases h),λ_ h=>(by cases h)⟩;have hE:∀(V:VL),∀ e∈[pWo L0.length L0.length],@PE.ok (Ab V) e:=λV e he=>by
  rw [List.mem_singleton] at he;subst he;exact AdR
 have e63:oY.ntmps - (Te L0.length).length=61:=by
  rw [Aio];rfl
 have hS:@FS (Ab (BB L0 ([],L0) 0 C)) (@Di ρ0 w (lk (E8 L0.length))) w ρ0 M (E8 L0.length) 17 ⟨Te L0.length ++ List.replicate 61 (.val undef),E8 L0.length,17,[16]⟩ ρ0 M a w:=by
  rw [← e63];exact hS
 show holds _ [] a w (.run qM);refine IF hA hF0 (hE _) (@DM (Ab _)) _ (AgD L0.length (by omega) hR1) hS λρ M' a w' hS=>?_
 obtain ⟨ρ,M',hS⟩:=JC (V':=BB L0 ([],L0) 0 C) (Xx (Afs hL hB hR) rfl rfl rfl) rfl hd hall.1 hS;refine SE (λn:Nat=>C - n) (λn=>BB L0 (Bp L0 n) n C) (λn=>n≤C) (λn=>Sc L0.length (Bp L0 n).1.length) ?_ 0 (Nat.zero_le _) hS;intro n hn ρ M' a w' hS;have hn:n≤C:=hn;have hg:=hok n (by omega);have htR:(Bp L0 n).1.length≤L0.length:=hg.tR;have hrow:=List.all_eq_true.1 hall.2 (Bp L0 n).1.length (List.mem_range.2 (by omega));rw [Bool.and_eq_true] at hrow
 by_cases hnC:n<C
 ·-- a round
  obtain ⟨p1,p2,p3,p4⟩:=DW (L:=(Bp L0 n).2) (t:=(Bp L0 n).1.length) (col:=n) (by rw [hg.len]; exact htR);rw [hg.len] at p2;have hF:=AiJ (L0:=L0) hg hs hs1 hR hC hnC;have hb:=List.all_eq_true.1 hrow.2 (Cg (Bp L0 n).2 (Bp L0 n).1.length n) (List.mem_range.2 (by omega));rw [Bool.or_eq_true] at hb;have hb:nE L0.length (Bp L0 n).1.length (Cg (Bp L0 n).2 (Bp L0 n).1.length n)=true:=hb.resolve_left λh=>by
   have:=Nat.le_of_ble_eq_true h;omega
  have ht':sW L0.length (Bp L0 n).1.length (Cg (Bp L0 n).2 (Bp L0 n).1.length n)=(Bp L0 (n+1)).1.length:=by
   unfold sW;rw [J1,hg.len];split
   ·simp
   ·rfl
  unfold nE at hb;rw [ht'] at hb;refine jT (V':=BB L0 (Bp L0 (n+1)) (n+1) C) hA hHB hF (λe he=>by
   rw [List.mem_singleton] at he;subst he;exact AeN hg hs hs1 hB hR hC hnC) (@DM (Ab _)) (Xx (Afj hg (hok (n+1) (by omega)) rfl hB hR (by omega)) rfl rfl rfl) rfl hd hb hS λρ M' a w' hS=>?_
  exact ⟨n+1,ρ,M',hnC,by show C - (n+1)<C - n; omega,hS⟩
 ·-- the end
  obtain rfl:n=C:=by omega
  have hF:=Ahh (L0:=L0) hg hs hs1 hR hC (Nat.le_refl _) (Nat.le_refl _);have hbx:=hrow.1;unfold AbE at hbx;split at hbx
  ·rename_i s1 s2 e1 e2
   show holds _ [] a w' (.run zJ);refine IF hA hF (hE _) (@DM (Ab _)) _ e1 hS λρ M' a w' hS=>?_
   show holds _ Afy a w' (.at_ (.ext 0));unfold AbX at e2;rw [e1] at e2;refine IF hA hF (hE _) (@DM (Ab _)) _ e2 hS λρ M' a w' hS=>?_
   exact ⟨.inr rfl,_,ρ,M',hS,R6 hbx⟩
  ·cases hbx
end
def lnB:List (CE × CE)→List AV→Bool
 | [],cs=>cs.isEmpty
 | p :: l,cs=>match cs with
  | .ext 4 true (.ap 52 q (.lit n)) :: .ext 1 false (.ap 51 e (.lit 0)) :: r=>CE.beq q p.1 && CE.beq e p.2 && Nat.ble n.toNat 40000000 && lnB l r
  | _=>false
def lnO(p:CE × CE):List AV:=[aQ p.1 40000000,aL p.2]
def isI(c:AV)(C:Nat):Bool:=match FK c with
 | some p=>Nat.beq p.1 0 && decide (p.2=(C:Int))
 | none=>false
def deC(R C:Nat)(ins outs:List (CE × CE))(pcs:List AV):BD:=λf xs H _ t0=>match xs,H with
 | [.sl o 0 n none,c],[(o',some ⟨T,5,cs,true,none⟩)]=>if Nat.beq f 42 && Nat.beq n R && Nat.beq o o' && isI c C && Nat.beq T 78 && lnB ins cs then
   some (match pcs with
    | []=>(cO,[(o,MJ (outs.flatMap lnO))])
    | _ :: _=>(.sl t0 0 pcs.length none,[(t0,some ⟨3,1,pcs,true,none⟩),(o,MJ (outs.flatMap lnO))])) else none
 | _,_=>none
section
variable {V V' : VL}
theorem Aba:∀{ins:List (CE × CE)}{cs:List AV}{k0:Nat},lnB ins cs=true→(∀(j:Nat)(p:CE × CE),ins[j]? = some p→qD V p.1=qD V' (.v (100+(k0+j)))∧AR (qD V' (.v (100+(k0+j)))) 40000000∧lD V p.2=lD V' (.v (100+(k0+j))))→Ry (Ab V) (Ab V') cs ((List.range' k0 ins.length).flatMap λk=>wM (100+k))
 | [],cs,k0,h,_=>by
  unfold lnB at h;have:=List.isEmpty_iff.1 h;subst this;exact I0
 | p :: l,cs,k0,h,hp=>by
  unfold lnB at h;split at h
  ·rename_i q n e r
   simp only [Bool.and_eq_true] at h;obtain ⟨⟨⟨h1,h2⟩,h3⟩,h4⟩:=h;have h1:=CE.beq_eq h1;have h2:=CE.beq_eq h2;subst h1;subst h2;obtain ⟨e1,e2,e3⟩:=hp 0 p rfl;rw [List.length_cons,List.range'_succ,List.flatMap_cons];refine CY (OG (m:=40000000) (by rw [e1,Nat.add_zero]) (Nat.le_of_ble_eq_true h3)) (CY (Km (by rw [e3,Nat.add_zero])) ?_);refine Aba h4 λj p hj=>?_
   have:=hp (j+1) p (by simpa using hj);rw [show k0+(j+1)=k0+1+j by omega] at this;exact this
  ·cases h
theorem mT:∀{outs:List (CE × CE)}{k0:Nat},(∀(j:Nat)(p:CE × CE),outs[j]? = some p→qD V' (.v (k0+j))=qD V p.1∧lD V' (.v (k0+j))=lD V p.2)→Ry (Ab V') (Ab V) ((List.range' k0 outs.length).flatMap wM) (outs.flatMap lnO)
 | [],k0,_=>I0
 | p :: l,k0,hp=>by
  obtain ⟨e1,e2⟩:=hp 0 p rfl;rw [List.length_cons,List.range'_succ,List.flatMap_cons,List.flatMap_cons];refine CY (Ad0 (by rw [← e1,Nat.add_zero])) (CY (Km (by rw [← e2,Nat.add_zero])) ?_);refine mT λj p hj=>?_
  have:=hp (j+1) p (by simpa using hj);rw [show k0+(j+1)=k0+1+j by omega] at this;exact this
end
theorem dR{V:VL}(hz:V.z 0=0){c:AV}{C:Nat}(h:isI c C=true){ρ:Bg}{M:Nat→Prop}{w:World}{v:Value}(hv:@Bz (Ab V) ρ M w c v):v = .int .i64 (C:Int):=by
 unfold isI at h;split at h
 ·rename_i p hp
  rw [Bool.and_eq_true] at h;have h1:=Nat.eq_of_beq_eq_true h.1;have h2:=of_decide_eq_true h.2;unfold FK at hp;split at hp
  ·cases hp
   have h2:_=(C:Int):=h2;have hv:v = .int .i64 _:=hv;rw [hv];exact congrArg (Value.int .i64) h2
  ·cases hp
   have hv:@Rp (Ab V) ρ M w _ [v]:=hv;unfold Rp at hv;have:=(List.cons.inj hv.2).1;rw [this];dsimp only at h1 h2;show Value.int .i64 (V.z _+_)=_;rw [h1,h2,hz,Int.zero_add]
  ·cases hp
 ·cases h
theorem Ade{V:VL}{L0:List Ln}{C s B:Nat}{ins outs:List (CE × CE)}{pcs:List AV}(hz:V.z 0=0)(hR:L0.length≤6)(hR1:1≤L0.length)(hC:C≤6)(hs:s≤300)(hs1:1≤s)(hB:B≤39000000)(hL:∀ k,k<L0.length→JL C s B (Cc L0 k))
  (hi:ins.length=L0.length) (hin:∀(j:Nat)(p:CE × CE),ins[j]? = some p→qD V p.1=(Cc L0 j).1∧lD V p.2=(Cc L0 j).2) (ho:outs.length=L0.length) (hout:∀(j:Nat)(p:CE × CE),outs[j]? = some p→qD V p.1=(Cc (Bp L0 C).2 j).1∧lD V p.2=(Cc (Bp L0 C).2 j).2)
  (hp:pcs.length=(Bp L0 C).1.length) (hpc:Ry (Ab (BB L0 (Bp L0 C) C C)) (Ab V) ((List.range pcs.length).map λi=>aI (1+i) 0) pcs):@B5 (Ab V) (deC L0.length C ins outs pcs):=by
 intro f xs H n0 t0 r U h;unfold deC at h;split at h
 ·rename_i o n c o' T cs
  split at h
  ·rename_i hcond
   simp only [Bool.and_eq_true] at hcond;obtain ⟨⟨⟨⟨⟨c1,c2⟩,c3⟩,c4⟩,c5⟩,c6⟩:=hcond;have c1:=Nat.eq_of_beq_eq_true c1;have c2:=Nat.eq_of_beq_eq_true c2;have c3:=Nat.eq_of_beq_eq_true c3;have c5:=Nat.eq_of_beq_eq_true c5;subst c1;subst c2;subst c3;subst c5;refine ⟨λ_ _=>by simp [go_sem],λρ M w vs hs' hdom htn hv=>?_⟩
   let σ:Nat→Option Nat:=λk=>if k=16 then some o else none
   have hlk:lk [(o,some (⟨78,5,cs,true,none⟩:OB))] o=some ⟨78,5,cs,true,none⟩:=by
    unfold lk;rw [if_pos (by simp)]
   have hlk':∀ x b,lk [(o,some (⟨78,5,cs,true,none⟩:OB))] x=some b→x=o∧b=⟨78,5,cs,true,none⟩:=λx b e=>by
    unfold lk at e;split at e
    ·rename_i hx
     cases e
     exact ⟨(Nat.eq_of_beq_eq_true hx).symm,rfl⟩
    ·cases e
   have hcan:∀(g:List Nat × List Ln)(n:Nat),MK (Ab V) (Ab (BB L0 g n C)) [(o,some ⟨78,5,cs,true,none⟩)] (E8 L0.length) σ:=λg n=>by
    refine ⟨λx y o' h1 h2=>?_,λx o' h1=>?_,λx b' e=>?_,λo' b e=>?_⟩
    ·dsimp only [σ] at h1 h2
     split at h1 <;> split at h2 <;> simp_all
    ·dsimp only [σ] at h1
     split at h1
     ·omega
     ·cases h1
    ·unfold E8 lk at e
     split at e
     ·rename_i hx
      have hx:=Nat.eq_of_beq_eq_true hx;subst hx
      cases e
      refine ⟨o,_,_,rfl,hlk,rfl,rfl,?_⟩;have:=Aba (V:=V) (V':=BB L0 g n C) (k0:=0) c6 λj p hj=>by
       obtain ⟨a1,a2⟩:=hin j p hj;have hjl:j<L0.length:=by
        rw [← hi];exact (List.getElem?_eq_some_iff.1 hj).1
       rw [Nat.zero_add,sC,qJ];exact ⟨a1,(hL j hjl).rsm.mono (by omega),a2⟩
      rw [hi,← List.range_eq_range'] at this;exact this
     ·cases e
    ·obtain ⟨rfl,rfl⟩:=hlk' o' b e
     exact ⟨16,_,rfl,rfl⟩
   have s1:=(hcan ([],L0) 0).st0 hs';have s2:=(hcan (Bp L0 C) C).st0 hs';obtain ⟨va,_,rfl,k1,vb,_,rfl,k2,k5⟩:=hv;have k5:_=[]:=k5;subst k5;have hvb:=dR hz c4 k2;have hv':@CH (Ab (BB L0 ([],L0) 0 C)) (DF σ ρ) M w (Te L0.length) [va,vb]:=by
    refine ⟨va,_,rfl,?_,vb,_,rfl,Iv ?_,rfl⟩
    ·have k1:@Rp (Ab V) ρ M w (.sl o 0 L0.length none) [va]:=k1
     show @Rp (Ab (BB L0 ([],L0) 0 C)) (DF σ ρ) M w (.sl 16 0 L0.length none) [va];unfold Rp at k1 ⊢;exact k1
    ·rw [hvb]
     simp [BB]
   have hd':∀ x p,DF σ ρ x=some p→x<17:=λx p e=>by
    unfold DF at e;obtain ⟨o',ho',_⟩:=Option.bind_eq_some_iff.1 e;dsimp only [σ] at ho';split at ho'
    ·omega
    ·cases ho'
   have hno:∀ j,j<16→t0+j≠o:=λj hj e=>by
    obtain ⟨⟨hobj,_⟩,_,hnew,_⟩:=id hs';obtain ⟨g,c',arr,cs',q1,_⟩:=hobj o _ hlk;rw [hnew o (by omega) (by omega)] at q1
    cases q1
   have hlo:Ry (Ab (BB L0 (Bp L0 C) C C)) (Ab V) (KK L0.length) (outs.flatMap lnO):=by
    have:=mT (V:=V) (V':=BB L0 (Bp L0 C) C C) (outs:=outs) (k0:=0) λj p hj=>by
     obtain ⟨a1,a2⟩:=hout j p hj;have hjl:j<L0.length:=by
      rw [← ho];exact (List.getElem?_eq_some_iff.1 hj).1
     rw [Nat.zero_add,Es (by omega),Fp (by omega)];exact ⟨a1.symm,a2.symm⟩
    rw [ho,← List.range_eq_range'] at this;exact this
   refine Calls.mono (Ah4 hR hR1 hC hs hs1 hB hL s1 s2 hd' hv') λe w' ⟨v,e1,hpost⟩=>⟨v,e1,?_⟩
   cases pcs with
   | nil =>
    cases h
    have ht0:(Bp L0 C).1.length=0:=hp.symm;rw [ht0] at hpost;refine (hcan (Bp L0 C) C).back hs' hpost (λρ' ρ2 M' _ hr=>?_) (λo' b e=>?_) (λx b' e hy=>?_)
    ·have hr:v = .slice none 0 0:=hr
     rw [hr];exact rfl
    ·simp only [CR] at e
     split at e
     ·rename_i hx
      cases e
      have hx:=Nat.eq_of_beq_eq_true hx;subst hx;exact ⟨16,_,_,rfl,rfl,rfl,rfl,hlo⟩
     ·rename_i hx
      obtain ⟨rfl,_⟩:=hlk' o' b e;simp at hx
    ·obtain ⟨y,hy,rfl⟩:=hy
     have:y=(16,MJ (KK L0.length)):=by
      have hy:y∈[(16,MJ (KK L0.length))]:=hy;simpa using hy
     subst this;exact ⟨o,rfl,_,List.mem_cons_self ..,rfl⟩
   | cons pc pr =>
    cases h
    obtain ⟨t,ht⟩:∃ t,(Bp L0 C).1.length=t+1:=⟨pr.length,hp.symm⟩;rw [ht] at hpost;have hp:(pc :: pr).length=t+1:=hp.trans ht;rw [hp] at hpc;refine (hcan (Bp L0 C) C).back hs' hpost (λρ' ρ2 M' hτ hr=>?_) (λo' b e=>?_) (λx b' e hy=>?_)
    ·rw [hp]
     have hr:@Rp (Ab (BB L0 (Bp L0 C) C C)) ρ' M' w' (.sl 0 0 (t+1) none) [v]:=hr;show @Rp (Ab V) ρ2 M' w' (.sl t0 0 (t+1) none) [v];unfold Rp at hr ⊢;obtain ⟨g,c',k,q1,q2⟩:=hr;exact ⟨g,c',k,hτ 0 t0 _ rfl q1,q2⟩
    ·simp only [CR] at e
     split at e
     ·rename_i hx
      cases e
      have hx:=Nat.eq_of_beq_eq_true hx;subst hx;exact ⟨0,_,_,rfl,rfl,rfl,rfl,hpc⟩
     ·split at e
      ·rename_i hx
       cases e
       have hx:=Nat.eq_of_beq_eq_true hx;subst hx;exact ⟨16,_,_,rfl,rfl,rfl,rfl,hlo⟩
      ·rename_i hx
       obtain ⟨rfl,_⟩:=hlk' o' b e;simp at hx
    ·obtain ⟨y,hy,rfl⟩:=hy
     have hy:y∈[(0,ST (t+1)),(16,MJ (KK L0.length))]:=hy;simp only [List.mem_cons,List.not_mem_nil,or_false] at hy
     rcases hy with rfl | rfl
     ·cases e
     ·exact ⟨o,rfl,_,List.mem_cons_of_mem _ (List.mem_cons_self ..),rfl⟩
  ·cases h
 ·cases h
def loC(tab:List (CE × (CE × CE))):BD:=λf xs H _ _=>match xs with
 | [x,.sl o 0 n c]=>match gI H .L (.sl o 0 n c) with
  | some (.ext 1 false (.ap 51 e (.lit 0)))=>match Iz tab e with
   | some p=>if Nat.beq f 67 && V8 x (.ap 36 (.lit 1) (.lit 1)) then some (.agg [aQ p.1 80001,aL p.2],[]) else none
   | none=>none
  | _=>none
 | _=>none
theorem wS:AR 1 50000000:=by
 have:AR ((1:Int):Rat) 1:=Dy (by unfold Sm; decide) (by decide);exact this.mono (by decide)
section
variable {V : VL}
theorem Afu{tab:List (CE × (CE × CE))}{F:Fa}(hF:Bi V F)(ht:∀ x∈tab,(∃ D s,Ei D s (lD V x.1)∧s≤80000∧1≤s)∧(lD V x.1).length≤6∧qD V x.2.1=Eu (lD V x.1)∧lD V x.2.2=Cj (lD V x.1)):@B5 (Ab V) (loC tab):=by
 intro f xs H n0 t0 r U h;unfold loC at h;split at h
 ·rename_i x o n c
  split at h
  ·rename_i e hk
   split at h
   ·rename_i p hp
    split at h
    ·rename_i hc
     rw [Bool.and_eq_true] at hc
     cases h
     have hf:=Nat.eq_of_beq_eq_true hc.1;subst hf;obtain ⟨⟨D,s,hfr,hs,hs1⟩,hl6,hq,hl⟩:=ht _ (Bu hp);dsimp only at hfr hl6 hq hl;refine ⟨λ_ _=>by simp [go_sem],λρ M w vs hs' hdom htn hv=>?_⟩;obtain ⟨va,_,rfl,k1,vb,_,rfl,k2,k5⟩:=hv;have k5:_=[]:=k5;subst k5;obtain ⟨m,hm⟩:=E7 hc.2;have q1:=(Bn hm (@Bz.rv (Ab V) ρ M w _ _ k1)).1;rw [show qD V (.ap 36 (.lit 1) (.lit 1))=1 by simp only [qD]; decide] at q1;have hrow:(XP.rats (lD V e)).p (λ_=>False) w [vb]:=by
      obtain ⟨⟨hobj,hinj⟩,_⟩:=id hs';have hR:@RH (Ab V) ρ M (Di BQ { w with heap:=#[] } (lk [])) w (CR (lk []) H):=by
       have e:CR (lk []) H=lk H:=funext λo=>by
        letI:=Ab V
        rw [← CZ,List.append_nil]
       rw [e];exact @RH.mk (Ab V) _ _ _ _ _ (λo b q=>by
        obtain ⟨g,c,arr,cs,k1,k2,k3,k4,k5,k6,k7,k8⟩:=hobj o b q;exact ⟨g,c,arr,cs,@IQ.mk (Ab V) _ _ _ _ _ _ _ _ _ _ k1 k2 (.inl (Nat.zero_le _)) k4 k5 k6 k7 k8⟩) hinj
      exact C3 (Dp (M:=λ_=>False) (w0:={ w with heap:=#[] }) hF (λb hb=>hb.elim) (λb hb=>hb.elim) hR hk k2)
     obtain ⟨_,hbnd,_⟩:=id hs';refine Calls.mono (Acy (V:=V) (q:=p.1) (e:=p.2) hfr hs hs1 (c:=1) wS hl6 (by rw [hq,Rat.one_mul]) hl (λb hb=>hb.elim) q1 hrow) λen w' ⟨u,e1,e2,e3⟩=>⟨u,e1,@Oa (Ab V) _ _ _ _ _ _ _ _ _ hs' e3 ?_⟩
     obtain ⟨cs,rfl,hcs⟩:=e2;refine ⟨cs,rfl,?_⟩;unfold AQ at hcs ⊢;obtain ⟨x,y,e3,r1,r2⟩:=hcs;unfold AQ at r2 ⊢;obtain ⟨x2,y2,e4,r3,r4⟩:=r2;refine ⟨x,y,e3,AeL (DT rfl (by rw [hq]; exact (Fv hfr _).mono (by omega)) ρ ρ M w' x (AeL r1)),x2,y2,e4,?_,by unfold AQ at r4 ⊢; exact r4⟩;exact @DV (Ab V) (λo=>some o) BQ ρ (λb=>b<w.heap.size) M w' (λ_ _ _ _ e=>by cases e) (λb hb=>hbnd b hb) _ _ _ rfl r3
    ·cases h
   ·cases h
  ·cases h
 ·cases h
end
def gH:Nat→Nat→CE
 | _,0=>.lit 0
 | k,n+1=>.ap 81 (.v k) (gH (k+1) n)
def Ad2(k C:Nat):CE:=FY ((List.range C).map (Ej k))
def kH(R C:Nat):List (CE × (CE × CE)):=(List.range R).map λk=>(Ad2 k C,(.v k,.v (10+k)))
def bH(C k:Nat):Nat:=if C=0 then 0 else k
def Oc(R C:Nat):List (CE × CE):=(List.range R).map λk=>(.v (bH C k),.v (10+bH C k))
def GO(R:Nat):List (CE × CE):=(List.range R).map λk=>(.v (20+k),.v (20+k))
def G0(t:Nat):List AV:=(List.range t).map λi=>aI (1+i) 0
def AhV(R C:Nat):Fa:=⟨[],(List.range R).map λk=>(.v k,0,(C:Int)),(List.range R).map λk=>(.v k,300),[],[],[],[]⟩
def Aa2(l:List Rat):Ln:=(Eu l,Cj l)
def Bw(m:List (List Rat)):List Ln:=m.map Aa2
def A9(m:List (List Rat))(C:Nat):Nat:=(Bp (Bw m) C).1.length
structure CL (C:Nat) (m:List (List Rat)):Prop where
 len:∀ l∈m,l.length=C
 fr:∀ l∈m,∃ D s,Ei D s l∧s≤300∧1≤s
def Ji(m:List (List Rat))(C:Nat):VL:=⟨λk=>if 1≤k∧k≤6 then (((Bp (Bw m) C).1.getD (k - 1) 0:Nat):Int) else 0,
 λk=>if k<10 then m.getD k [] else if k<20 then Cj (m.getD (k - 10) []) else (Cc (Bp (Bw m) C).2 (k - 20)).2,
 λk=>if k<10 then Eu (m.getD k []) else if k<20 then 0 else (Cc (Bp (Bw m) C).2 (k - 20)).1,λ_=>[]⟩
theorem Yx(V:VL):∀ n k,mD V (gH k n)=(List.range' k n).map V.l
 | 0,k=>by simp [gH,mD]
 | n+1,k=>by
  unfold gH;rw [List.range'_succ,List.map_cons,← Yx V n (k+1)];simp only [mD,lD]
section
variable {m : List (List Rat)} {C : Nat}
theorem Hk{k:Nat}(hk:k<m.length):Cc (Bw m) k=Aa2 (m.getD k []):=by
 unfold Cc Bw;rw [List.getD_eq_getElem?_getD,List.getElem?_map,List.getD_eq_getElem?_getD,List.getElem?_eq_getElem hk];rfl
theorem CL.row(h:CL C m){k:Nat}(hk:k<m.length):(m.getD k []).length=C∧∃ D s,Ei D s (m.getD k [])∧s≤300∧1≤s:=by
 rw [List.getD_eq_getElem?_getD,List.getElem?_eq_getElem hk];exact ⟨h.len _ (List.getElem_mem hk),h.fr _ (List.getElem_mem hk)⟩
theorem CL.ln(h:CL C m){k:Nat}(hk:k<m.length):JL C 300 300 (Cc (Bw m) k):=by
 obtain ⟨h1,D,s,h2,h3,h4⟩:=h.row hk;rw [Hk hk];exact ⟨by show (Cj _).length=C; rw [IX]; exact h1,h2.whole.mono h3,(Fv h2 _).mono h3⟩
theorem uJ{k:Nat}(hk:k<10):(Ji m C).l k=m.getD k []:=by
 show (if k<10 then _ else _)=_;rw [if_pos hk]
theorem Q4{V V':VL}{f g:Nat→AV}:∀{l:List Nat},(∀ i∈l,Le V V' (f i,g i))→Ry (Ab V) (Ab V') (l.map f) (l.map g)
 | [],_=>I0
 | i :: l,h=>CY (h i (List.mem_cons_self ..)) (Q4 λj hj=>h j (List.mem_cons_of_mem _ hj))
theorem JR{V:VL}{e:CE}{ρ:Bg}{M:Nat→Prop}{w:World}{v:Value}(h:(XP.mat (mD V e)).p M w [v]):@Bz (Ab V) ρ M w (aM e) v:=by
 show @Rp (Ab V) ρ M w (aM e) [v];unfold Rp;exact ⟨rfl,h⟩
end
end Go.Proofs.YtdopbgnkneeceaaGreat
