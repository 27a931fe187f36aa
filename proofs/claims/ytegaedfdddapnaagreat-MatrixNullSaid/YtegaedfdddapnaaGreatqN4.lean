/- Layer 5: lowered. -/
import Derived.Test.YtegaedfdddapnaaGreatqN1
set_option linter.unusedSectionVars false
set_option linter.unusedVariables false
set_option linter.unusedSimpArgs false
set_option maxRecDepth 100000
namespace Go.Proofs.YtegaedfdddapnaaGreat
open Go.RowKit
noncomputable def Zq:Func:=Tryz.f67
noncomputable def ZD:=DG Zq
noncomputable def tL:=lpB ZD []
noncomputable def uL:List VT:=lpK ZD []
noncomputable def eZ:PE:=⟨91,λxs=>match xs with
 | [.ext 1 false (.ap 51 (.v 0) _)]=>some (aQ (.ap 29 (.v 0) (.lit 0)) 80001)
 | _=>none⟩
def BQ(l:List Rat)(c:Rat)(k:Nat):VL:=⟨λ_=>0,λm=>match m with | 0=>l | _=>[],λm=>match m with | 0=>c | 1=>Cq l k | m+2=>l.getD m 0 / Cq l k,λ_=>[]⟩
def Qq(k:Nat):CE:=.ap 46 (ZN k) (.v 1)
def KV(k:Nat):CE:=.ap 48 (Qq k) (.lit 0)
def Y1(k:Nat):Nat→List (CE × Bool)
 | 0=>[(ZN k,true)]
 | 1=>[(ZN k,false),(.v 1,false),(YV (Qq k),true)]
 | 2=>[(ZN k,false),(.v 1,false),(YV (Qq k),false),(KV k,false)]
 | _=>[]
def Tw(n k p:Nat):Fa:=⟨[],[(.v 0,0,(n:Int))],[(.v 0,80001)],Y1 k p,[],[],[]⟩
def W_:List AV:=[aQ (.v 0) 50000000,aL (.v 0)]
noncomputable def iS(n k p:Nat):Tb:=TT (Tw n k p) [eZ,OE (Tw n k p),XQ (Tw n k p)] Oy
noncomputable def cF(n:Nat):=DM (iS n 0 3) AK 300 300 (.run ZD) [] (AcF 54 W_)
def iv(n:Nat):AV:=.val (.int .i64 (n:Int))
def MZ(j:Nat):AV:=aQ (.v (2+j)) 80001
noncomputable def bO(n k:Nat)(f:Bool):Fm:=Z6 54 [(2,.ptr 16 0),(4,.ptr 19 0),(5,.ptr 17 0),(6,.sl 18 0 k (if f then some k else none)),(16,aL (.v 0)),(17,iv n),(18,iv k)]
  [(16,some ⟨36,1,[aQ (.v 0) 50000000],false,none⟩),(17,some ⟨36,1,[aQ (.v 1) 80001],false,none⟩),(18,some ⟨36,4,(List.range k).map MZ,!f,none⟩),
   (19,some ⟨78,1,[.val (.bool false),.val (.slice none 0 0),.val (.bool false),.val (.slice none 0 0),.val (.slice none 0 0)],false,none⟩)] 100
def Ae3(s:Fm):List (Nat × Nat):=match (s.tm[2]? : Option AV),(s.tm[4]? : Option AV),(s.tm[5]? : Option AV),(s.tm[6]? : Option AV) with
 | some (.ptr a _),some (.ptr b _),some (.ptr c _),some (.sl d _ _ _)=>[(a,16),(c,17),(d,18),(b,19)]
 | _,_,_,_=>[]
def tE(n k:Nat):List (AV × AV):=[(aQ (.v 0) 50000000,aQ (.v 0) 50000000),(aL (.v 0),aL (.v 0)),(iv n,iv n),(iv k,iv k),(.val (.bool false),.val (.bool false))]
def AgN(n:Nat):Rd:=⟨(aQ (.ap 29 (.v 0) (.lit 0)) 80001,aQ (.v 1) 80001) :: tE n 0,[],[],[],[],100⟩
def nQ(k:Nat):Nat→List (AV × AV)
 | 0=>(aQ (.v 1) 80001,aQ (.v 1) 80001) :: (aQ (ZN k) 80001,MZ k) :: (List.range k).map λj=>(MZ j,MZ j)
 | 1=>(aQ (.v 1) 80001,aQ (.v 1) 80001) :: (aQ (Qq k) 160002,MZ k) :: (List.range k).map λj=>(MZ j,MZ j)
 | _=>(aQ (.ap 46 (.v 1) (KV k)) 240003,aQ (.v 1) 80001) :: (aQ (.ap 33 (Qq k) (KV k)) 320004,MZ k) :: (List.range k).map λj=>(aQ (.ap 33 (.v (2+j)) (KV k)) 240003,MZ j)
def Ahv(n k p:Nat):Rd:=⟨nQ k p ++ tE n (k+1),[],[],[],[],100⟩
noncomputable def yB(n:Nat):Bool:=Oh 16 Ae3 [] (AgN n) (MG (cF n)) (bO n 0 (Nat.beq n 0))
noncomputable def aW(n k p:Nat)(f:Bool):Bool:=gM (iS n k p) (.run tL) [] .nor 16 (bO n k f) Ae3 [] (Ahv n k p) (bO n (k+1) (Nat.beq p 2))
noncomputable def jS(n:Nat)(f:Bool):=DM (iS n n 3) AK 300 300 (.run tL) [] (bO n n f)
noncomputable def AhJ(n:Nat)(f:Bool):=DM (iS n n 3) AK 300 300 (.at_ (.ext 0)) uL (MG (jS n f))
def Ahx(n:Nat):List AV:=[aQ (.ap 33 (.v 0) (.v 1)) 50080001,aL (Fw ((List.range n).map λj=>.v (2+j)))]
def GS:List AV→List AV→Bool
 | [],[]=>true
 | a :: l,b :: m=>EZ a b && GS l m
 | _,_=>false
theorem DF:∀{l m:List AV},GS l m=true→l=m
 | [],[],_=>rfl
 | a :: l,b :: m,h=>by
  unfold GS at h;rw [Bool.and_eq_true] at h;rw [FE h.1,DF h.2]
 | [],_ :: _,h=>by cases h
 | _ :: _,[],h=>by cases h
noncomputable def Af0(fn:Func)(s:Fm)(ks:List Kd)(rs:List AV):Bool:=match Ni s fn.results.toList with
 | some [.agg l]=>(match Iz s.H ks l with
  | some r=>GS r rs
  | none=>false)
 | _=>false
noncomputable def Xd(n:Nat)(f:Bool):Bool:=(match jS n f,AhJ n f with
 | some (.done (.ext 0) _),some (.done .ret s)=>Af0 Zq s [.leaf,.L] (Ahx n)
 | _,_=>false)
theorem Af7:∀ n,n<7→cF n=some (.loop tL uL (MG (cF n)))
 | 0,_=>by kernel_rfl
 | 1,_=>by kernel_rfl
 | 2,_=>by kernel_rfl
 | 3,_=>by kernel_rfl
 | 4,_=>by kernel_rfl
 | 5,_=>by kernel_rfl
 | 6,_=>by kernel_rfl
noncomputable def AfX:Bool:=(List.range 7).all yB
noncomputable def AeM:Bool:=(List.range 7).all λn=>Xd n true && Xd n false
noncomputable def AhN(n:Nat):Bool:=(List.range n).all λk=>(List.range 3).all λp=>aW n k p true && aW n k p false
theorem Age:AfX=true:=by kernel_rfl
theorem Ag2:AeM=true:=by kernel_rfl
theorem Ais:∀ n,n<7→AhN n=true
 | 0,_=>by kernel_rfl
 | 1,_=>by kernel_rfl
 | 2,_=>by kernel_rfl
 | 3,_=>by kernel_rfl
 | 4,_=>by kernel_rfl
 | 5,_=>by kernel_rfl
 | 6,_=>by kernel_rfl
theorem Ae6:Zq.body=some ZD:=by kernel_rfl
theorem Aay:Zq.ntmps=54:=by kernel_rfl
theorem AcU{V:VL}{ρ ρ':Bi}{M M':Nat→Prop}{w:World}{q:CE}{n:Nat}{cs:List Value}(h:@Rp (Ab V) ρ M w (aQ q n) cs):@Rp (Ab V) ρ' M' w (aQ q n) cs:=by
 unfold Rp at h ⊢;exact ⟨h.1,h.2⟩
section
variable {V : VL} {F : Fa} {ρ : Bi} {M M' M2 : Nat → Prop} {w w0 : World}
theorem slF(hF:Bq V F)(hm0:∀ b,M b→b<w0.heap.size){U:HP}(hR:@RH (Ab V) ρ M' (Dc BP w0 (lk [])) w (CQ (lk []) U)){o n:Nat}{c:Option Nat}{e:CE}{cs:List Value}(h:Z5 U .L (.sl o 0 n c)=some (aL e))(hv:@Rp (Ab V) ρ M' w (.sl o 0 n c) cs):@Rp (Ab V) BP M w (aL e) cs:=by
 have hv2:=hv;unfold Rp at hv2;obtain ⟨g,cc,kk,q1,rfl,_⟩:=hv2;have key:@BA (Ab V) BP (λ_=>False) w (aL e) _:=Dl hF (λb hb=>hb.elim) (λb hb=>hb.elim) hR h (show @BA (Ab V) ρ M' w (.sl o 0 n c) _ from hv);obtain ⟨A,c',e1,e2,e3⟩:=CK key;have hge:w0.heap.size≤g:=by
  have h':(match lk U o with
   | some b=>if b.bl.isNone then kdR n b.cs .L else none
   | none=>none)=some (aL e):=h
  split at h'
  ·rename_i b hb
   have hU:CQ (lk []) U o=some b:=by
    letI:=Ab V
    rw [← CT,List.append_nil];exact hb
   obtain ⟨hobj,_⟩:=id hR;obtain ⟨g2,c2,arr,cs,k1,_,k3,_⟩:=hobj o b hU;rw [q1] at k1;have:g=g2:=congrArg Prod.fst (Option.some.inj k1);subst this
   rcases k3 with h1 | ⟨_,_,_,h1,_⟩
   ·exact h1
   ·cases h1
  ·cases h'
 have hfin:(XP.rats (lD V e)).p M w [.slice (some ⟨g,0,none⟩) n kk]:=by
  refine ⟨A,c',e1,e2,λh0=>?_⟩;obtain ⟨g',off,xs,p1,p2,p3⟩:=e3 h0;have e4:=(List.cons.inj e1).1;rw [p1] at e4;injection e4 with e5 _ _
  injection e5 with e5
  injection e5 with e5 _ _
  subst e5;exact ⟨g,off,xs,p1,λhm=>by
   have:=hm0 g hm;omega,p3⟩
 have:=Eh (ρ:=BP) hfin;exact this
theorem fN{U:HP}{l:List AV}{a b:AV}(h:Iz U [.leaf,.L] l=some [a,b]):∃ x y,l=[x,y]∧kdP U .leaf x=some a∧kdP U .L y=some b:=by
 cases l with
 | nil=>unfold Iz at h; cases h
 | cons x l =>
  unfold Iz at h;split at h
  ·rename_i r rs h1 h2
   cases h
   cases l with
   | nil=>unfold Iz at h2; cases h2
   | cons y l =>
    unfold Iz at h2;split at h2
    ·rename_i r rs h3 h4
     cases h2
     cases l with
     | nil=>exact ⟨x,y,rfl,h1,h3⟩
     | cons z l=>unfold Iz at h4; cases h4
    ·cases h2
  ·cases h
theorem Af2{U:HP}{x:AV}{q:CE}{m:Nat}(h:kdP U .leaf x=some (aQ q m)):x=aQ q m:=by
 cases x <;> first
  | (cases h; done)
  | (cases h; rfl)
theorem Afm{U:HP}{y r:AV}(h:kdP U .L y=some r):∃ o n c,y = .sl o 0 n c∧Z5 U .L (.sl o 0 n c)=some r:=by
 cases y <;> first
  | (cases h; done)
  | skip
 rename_i o a n c
 cases a with
 | zero=>exact ⟨o,n,c,rfl,h⟩
 | succ a=>cases h
theorem YY(hF:Bq V F){s:Fm}{a:Act}{l:List AV}{q e:CE}{m:Nat}{v:Value}(hm0:∀ b,M b→b<w0.heap.size)(hS:@ZG (Ab V) w0 M' s ρ M2 a w)(h:Iz s.H [.leaf,.L] l=some [aQ q m,aL e])(hv:@RV (Ab V) ρ M2 w (.agg l) v):@RV (Ab V) BP M w (.agg [aQ q m,aL e]) v:=by
 obtain ⟨_,_,_,⟨hobj,hinj⟩,_⟩:=id hS;obtain ⟨cs,rfl,hc⟩:=hv;refine ⟨cs,rfl,?_⟩;have hR:@RH (Ab V) ρ M2 (Dc BP w0 (lk [])) w (CQ (lk []) s.H):=by
  have e:CQ (lk []) s.H=lk s.H:=funext λo=>by
   letI:=Ab V
   rw [← CT,List.append_nil]
  rw [e];exact @RH.mk (Ab V) _ _ _ _ _ (λo b q=>by
   obtain ⟨g,c,arr,cs,k1,k2,k3,k4,k5,k6,k7,k8⟩:=hobj o b q;exact ⟨g,c,arr,cs,@Is.mk (Ab V) _ _ _ _ _ _ _ _ _ _ k1 k2 (.inl k3) k4 k5 k6 k7 k8⟩) hinj
 obtain ⟨x,y,rfl,h1,h3⟩:=fN h;unfold AW at hc ⊢;obtain ⟨c1,c2,e1,r1,r2⟩:=hc;unfold AW at r2 ⊢;obtain ⟨c3,c4,e2,r3,r4⟩:=r2;have h1:=Af2 h1;subst h1;obtain ⟨o,n,c,rfl,h3⟩:=Afm h3;exact ⟨c1,c2,e1,AcU r1,c3,c4,e2,slF hF hm0 hR h3 r3,by unfold AW at r4 ⊢; exact r4⟩
end
theorem DL{w:Int}{s:Nat}(h:Sm w s)(hs:1≤s):AQ (w:Rat) s:=by
 obtain ⟨i,rfl⟩:∃ i,s=i+1:=⟨s - 1,by omega⟩;exact AQ.whole h
theorem AfM(fn:Func){N:Nat}(h:fn.ntmps=N)(xs:List AV):(⟨xs ++ List.replicate (fn.ntmps - xs.length) (.val undef),[],16,[]⟩:Fm)=AcF N xs:=by
 rw [h];rfl
section
variable {l : List Rat} {c : Rat} {D : Int} {s : Nat}
theorem Wf(k j:Nat):qD (BQ l c k) (ZN j)=l.getD j 0:=by simp [ZN,qD,lD,zD,BQ]
theorem Fi(k:Nat):qD (BQ l c k) (.v 1)=Cq l k:=by simp [qD,BQ]
theorem FB(k j:Nat):qD (BQ l c k) (.v (2+j))=l.getD j 0 / Cq l k:=by
 rw [Nat.add_comm];simp only [qD,BQ]
theorem TG(k:Nat):qD (BQ l c k) (Qq k)=l.getD k 0 / Cq l k:=by
 unfold Qq;simp only [qD];rw [← Wf (c:=c) k k,← Fi (c:=c) k];simp only [qD]
theorem P3(k:Nat):qD (BQ l c k) (KV k)=(((l.getD k 0 / Cq l k).den:Int):Rat):=by
 unfold KV;simp only [qD];rw [TG]
theorem gS(h:Fz D s l)(hs:s≤80000){k p:Nat}(hz:∀ x∈Y1 k p,decide (qD (BQ l c k) x.1=0)=x.2):Bq (BQ l c k) (Tw l.length k p):=Ej (λ_=>rfl) (λx hx=>by
 rw [List.mem_singleton] at hx;subst hx;simp [lD,BQ]) (λx hx=>by
 rw [List.mem_singleton] at hx;subst hx;intro y hy;have hy:y∈l:=by simpa [lD,BQ] using hy
 exact (h.rsm hy).mono (by omega)) hz (λ_ h=>by cases h)
theorem uZ(h:Fz D s l)(hs:s≤80000)(hs1:1≤s)(hn:l.length≤6)(k:Nat):@PE.ok (Ab (BQ l c k)) eZ:=by
 intro xs r e;refine ⟨λ_ _=>by simp [eZ,go_sem],λρ M w vs hm0 hv=>?_⟩;unfold eZ at e;dsimp only at e;split at e
 ·rename_i dd
  cases e
  obtain ⟨va,_,rfl,h1,h3⟩:=hv;have h3:_=[]:=h3;subst h3;have hl:lD (BQ l c k) (.v 0)=l:=by simp [lD,BQ]
  have h1:=CK h1;rw [hl] at h1;refine Calls.mono (Ah6 (λx hx=>(h.rsm hx).mono (by omega)) hn hm0 h1) λe w' ⟨v,e1,e2,e3⟩=>⟨v,e1,@BA.rv (Ab (BQ l c k)) ρ M w' _ _ (FG (q:=.ap 29 (.v 0) (.lit 0)) ?_ ?_),e3⟩
  ·simp only [qD]
   rw [hl];exact e2
  ·simp only [qD]
   rw [hl];exact (Gd h 0).mono (by omega)
 ·cases e
theorem Po(h:Fz D s l)(hs:s≤80000)(hs1:1≤s)(hn:l.length≤6){k p:Nat}(hF:Bq (BQ l c k) (Tw l.length k p)):∀ e∈[eZ,OE (Tw l.length k p),XQ (Tw l.length k p)],@PE.ok (Ab (BQ l c k)) e:=λe he=>by
 simp only [List.mem_cons,List.not_mem_nil,or_false] at he
 rcases he with rfl | rfl | rfl
 ·exact uZ h hs hs1 hn k
 ·exact I1 hF
 ·exact dU hF
theorem AaE(sc:AQ c 50000000)(k k' n i:Nat):∀ p∈tE n i,Le (BQ l c k) (BQ l c k') p:=λp hp=>by
 simp only [tE,List.mem_cons,List.not_mem_nil,or_false] at hp
 rcases hp with rfl | rfl | rfl | rfl | rfl
 ·exact DN rfl sc
 ·exact JR rfl
 ·exact JE _ trivial
 ·exact JE _ trivial
 ·exact JE _ trivial
theorem rY{k:Nat}(h:Fz D s l)(hs:s≤80000)(hs1:1≤s):AQ (Cq l (k+1)) 80001∧∀ j,j<k+1→AQ (l.getD j 0 / Cq l (k+1)) 80001:=by
 refine ⟨(Gd h _).mono (by omega),λj hj=>?_⟩;obtain ⟨G,_,_,_,hw⟩:=I6 h (k+1);obtain ⟨w,h1,h2⟩:=hw j hj;rw [h1];exact (DL h2 hs1).mono (by omega)
theorem AhF(h:Fz D s l)(hs:s≤80000)(hs1:1≤s){k p:Nat}(hp:p<3)(h0:p=0→l.getD k 0=0)(h1:p=1→(l.getD k 0 / Cq l k).den=1):∀ x∈nQ k p,Le (BQ l c k) (BQ l c (k+1)) x:=by
 obtain ⟨b1,b2⟩:=rY (k:=k) h hs hs1;have hU:=Ra h k;have hd:=J4 (l.getD k 0 / Cq l k);have hN:Cq l (k+1)=Cq l k / (((l.getD k 0 / Cq l k).den:Int):Rat):=rfl;have same:p=0 ∨ p=1→Cq l (k+1)=Cq l k:=λhp=>by
  have:(l.getD k 0 / Cq l k).den=1:=by
   rcases hp with hp | hp
   ·rw [h0 hp,Rat.div_def,Rat.zero_mul]
    rfl
   ·exact h1 hp
  rw [hN,this];show Cq l k / ((1:Int):Rat)=Cq l k
  grind
 have el:∀ j,j<k+1→(p=0 ∨ p=1)→Le (BQ l c k) (BQ l c (k+1)) (MZ j,MZ j):=λj hj hp=>DN (by rw [FB,FB,same hp]) (by rw [FB]; exact b2 j hj)
 intro x hx
 match p,hp with
 | 0,_ =>
  simp only [nQ,List.mem_cons] at hx
  rcases hx with rfl | rfl | hx
  ·exact DN (by rw [Fi,Fi,same (.inl rfl)]) (by rw [Fi]; exact b1)
  ·exact DN (by rw [Wf,FB,h0 rfl,Rat.div_def,Rat.zero_mul]) (by rw [FB]; exact b2 k (by omega))
  ·obtain ⟨j,hj,rfl⟩:=List.mem_map.1 hx
   exact el j (by have:=List.mem_range.1 hj; omega) (.inl rfl)
 | 1,_ =>
  simp only [nQ,List.mem_cons] at hx
  rcases hx with rfl | rfl | hx
  ·exact DN (by rw [Fi,Fi,same (.inr rfl)]) (by rw [Fi]; exact b1)
  ·exact DN (by rw [TG,FB,same (.inr rfl)]) (by rw [FB]; exact b2 k (by omega))
  ·obtain ⟨j,hj,rfl⟩:=List.mem_map.1 hx
   exact el j (by have:=List.mem_range.1 hj; omega) (.inr rfl)
 | 2,_ =>
  simp only [nQ,List.mem_cons] at hx
  rcases hx with rfl | rfl | hx
  ·refine DN ?_ (by rw [Fi]; exact b1)
   rw [Fi,hN];have e:qD (BQ l c k) (.ap 46 (.v 1) (KV k))=qD (BQ l c k) (.v 1) / qD (BQ l c k) (KV k):=by simp only [qD]
   rw [e,Fi,P3]
  ·refine DN ?_ (by rw [FB]; exact b2 k (by omega))
   have e:qD (BQ l c k) (.ap 33 (Qq k) (KV k))=qD (BQ l c k) (Qq k)*qD (BQ l c k) (KV k):=by simp only [qD]
   rw [e,TG,P3,FB,hN]
   grind
  ·obtain ⟨j,hj,rfl⟩:=List.mem_map.1 hx
   refine DN ?_ (by rw [FB]; exact b2 j (by have:=List.mem_range.1 hj; omega));have e:qD (BQ l c k) (.ap 33 (.v (2+j)) (KV k))=qD (BQ l c k) (.v (2+j))*qD (BQ l c k) (KV k):=by simp only [qD]
   rw [e,FB,P3,FB,hN]
   grind
theorem Aau(h:Fz D s l)(hs:s≤80000)(hs1:1≤s)(sc:AQ c 50000000)(hn:l.length≤6){V:VL}{q e:CE}(hq:qD V q=c*Ef l)(he:lD V e=Cp l){M:Nat→Prop}{w:World}{vc vl:Value}(hm0:∀ b,M b→b<w.heap.size)(hvc:(An c).p vc w)(hvl:(XP.rats l).p M w [vl]) :
  Calls Tryz.prog 67 #[vc,vl] w λen w'=>∃ u,en = .returned u ∧ @RV (Ab V) BP (λb=>b<w.heap.size) w' (.agg [aQ q 50080001,aL e]) u∧Below w.heap.size w w':=by
 have hv:@CH (Ab (BQ l c 0)) BP M w W_ [vc,vl]:=⟨vc,_,rfl,FG (V:=BQ l c 0) (q:=.v 0) hvc sc,vl,_,rfl,Eh (V:=BQ l c 0) (e:=.v 0) hvl,rfl⟩;refine Calls.mono (@YR (Ab (BQ l c 0)) _ Zq ZD W_ W_ (λu w'=>@RV (Ab V) BP (λb=>b<w.heap.size) w' (.agg [aQ q 50080001,aL e]) u) BP M w [vc,vl] Tryz.func67 Ae6 (by rfl) (by rw [Aay]; decide) hm0 hv λa hS=>?_) λe w' h=>h
 rw [AfM Zq Aay] at hS;have hA:∀ b,w.heap.size≤b→(λb=>w.heap.size≤b) b:=λ_ h=>h
 have hr0:∀ o p,BP o=some p→o<16:=λo p e=>by cases e
 have hF0:Bq (BQ l c 0) (Tw l.length 0 3):=gS h hs λx hx=>by cases hx
 show holds _ [] a w (.run ZD);refine II hA hF0 (Po h hs hs1 hn hF0) (@DU (Ab _)) _ (Af7 l.length (by omega)) hS λρ M' a w' hS=>?_
 have hb0:yB l.length=true:=List.all_eq_true.1 Age _ (List.mem_range.2 (by omega));obtain ⟨ρ,M',hS⟩:=JC (V':=BQ l c 0) (XI (λp hp=>by
  rcases List.mem_cons.1 hp with rfl | hp
  ·refine DN ?_ (by rw [Fi]; exact (Gd h 0).mono (by omega))
   rw [Fi];simp only [qD,lD,BQ,Cq]
  ·exact AaE sc 0 0 _ _ p hp) rfl rfl rfl) rfl hr0 hb0 hS
 refine Sc (λg:Nat × Bool=>l.length - g.1) (λg=>BQ l c g.1) (λg=>g.1≤l.length) (λg=>bO l.length g.1 g.2) ?_ (0,Nat.beq l.length 0) (Nat.zero_le _) hS;intro ⟨k,f⟩ hk ρ M' a w' hS;have hk:k≤l.length:=hk;show holds _ [] a w' (.run tL)
 by_cases hkn:k<l.length
 ·-- a round
  refine Classical.byContradiction λhno=>?_
  have go:∀ p,p<3→(∀ x∈Y1 k p,decide (qD (BQ l c k) x.1=0)=x.2)→(p=0→l.getD k 0=0)→(p=1→(l.getD k 0 / Cq l k).den=1)→False:=λp hp hz h0 h1=>by
   refine hno ?_;have hF:=gS h hs (p:=p) hz;have hb:aW l.length k p f=true:=by
    have:=List.all_eq_true.1 (List.all_eq_true.1 (Ais l.length (by omega)) k (List.mem_range.2 hkn)) p (List.mem_range.2 hp);rw [Bool.and_eq_true] at this
    cases f with
    | true=>exact this.1
    | false=>exact this.2
   refine sG (e:=.nor) (V':=BQ l c (k+1)) hA hF (Po h hs hs1 hn hF) (@DU (Ab _)) (XI (λx hx=>?_) rfl rfl rfl) rfl hr0 hb hS λρ M' a w' hS=>?_
   ·rcases List.mem_append.1 hx with hx | hx
    ·exact AhF h hs hs1 hp h0 h1 x hx
    ·exact AaE sc _ _ _ _ x hx
   ·exact ⟨(k+1,Nat.beq p 2),ρ,M',hkn,by show l.length - (k+1)<l.length - k; omega,hS⟩
  have hU:=Ra h k
  by_cases hx:l.getD k 0=0
  ·exact go 0 (by decide) (λx hx'=>by
    simp only [Y1,List.mem_singleton] at hx';subst hx';rw [Wf];exact decide_eq_true hx) (λ_=>hx) (λe=>by cases e)
  ·have z1:decide (qD (BQ l c k) (ZN k)=0)=false:=by rw [Wf]; exact decide_eq_false hx
   have z2:decide (qD (BQ l c k) (.v 1)=0)=false:=by rw [Fi]; exact decide_eq_false hU
   by_cases hd:(l.getD k 0 / Cq l k).den=1
   ·exact go 1 (by decide) (λx hx'=>by
     simp only [Y1,List.mem_cons,List.not_mem_nil,or_false] at hx'
     rcases hx' with rfl | rfl | rfl
     ·exact z1
     ·exact z2
     ·refine decide_eq_true ?_
      rw [PV,TG];exact hd) (λe=>by cases e) (λ_=>hd)
   ·exact go 2 (by decide) (λx hx'=>by
     simp only [Y1,List.mem_cons,List.not_mem_nil,or_false] at hx'
     rcases hx' with rfl | rfl | rfl | rfl
     ·exact z1
     ·exact z2
     ·refine decide_eq_false ?_
      rw [PV,TG];exact hd
     ·refine decide_eq_false ?_
      rw [P3];exact J4 _) (λe=>by cases e) (λe=>by cases e)
 ·-- the end
  obtain rfl:k=l.length:=by omega
  have hF:=gS (c:=c) (k:=l.length) (p:=3) h hs λx hx=>by cases hx
  have hbx:Xd l.length f=true:=by
   have:=List.all_eq_true.1 Ag2 l.length (List.mem_range.2 (by omega));rw [Bool.and_eq_true] at this
   cases f with
   | true=>exact this.1
   | false=>exact this.2
  unfold Xd at hbx;split at hbx
  ·rename_i s1 s2 h1 h2
   refine II hA hF (Po h hs hs1 hn hF) (@DU (Ab _)) _ h1 hS λρ M' a w' hS=>?_
   show holds _ uL a w' (.at_ (.ext 0));have h2:DM (iS l.length l.length 3) AK 300 300 (.at_ (.ext 0)) uL (MG (jS l.length f))=_:=h2;rw [h1] at h2;refine II hA hF (Po h hs hs1 hn hF) (@DU (Ab _)) _ h2 hS λρ M' a w' hS=>?_
   unfold Af0 at hbx;split at hbx
   ·rename_i lv hl
    split at hbx
    ·rename_i r hr
     have hr2:=DF hbx;subst hr2;refine ⟨.inr rfl,Ab (BQ l c l.length),_,ρ,M',_,.agg lv,hS,hl,rfl,λa' w' hS v hv=>?_⟩;have hres:=YY (M:=λb=>b<w.heap.size) hF (λ_ h=>h) hS hr hv;obtain ⟨cs,rfl,hc⟩:=hres;refine ⟨cs,rfl,?_⟩;unfold AW at hc ⊢;obtain ⟨x,y,e1,r1,r2⟩:=hc;unfold AW at r2 ⊢;obtain ⟨x2,y2,e2,r3,r4⟩:=r2;have hU:=Gd h l.length;refine ⟨x,y,e1,DN (V:=BQ l c l.length) (V':=V) ?_ ?_ BP BP _ w' x r1,x2,y2,e2,JR (V:=BQ l c l.length) (V':=V) ?_ BP BP _ w' x2 r3,r4⟩
     ·rw [hq]
      simp only [qD];have e1:=Fi (l:=l) (c:=c) l.length;simp only [qD] at e1;rw [e1];rfl
     ·rw [hq]
      exact (sc.mul hU).mono (by omega)
     ·rw [he,F0]
      unfold Cp;apply List.ext_getElem
      ·simp
      ·intro j hj1 hj2
       simp only [List.getElem_map,List.getElem_range];rw [FB,List.getD_eq_getElem?_getD,List.getElem?_eq_getElem (by simpa using hj2)];rfl
    ·cases hbx
   ·cases hbx
  ·cases hbx
theorem AiD(h:Fz D s l)(hs:s≤80000)(hs1:1≤s)(sc:AQ c 50000000)(hn:l.length≤6){V:VL}{q e:CE}(hq:qD V q=c*Ef l)(he:lD V e=Cp l){M:Nat→Prop}{w:World}{vc vl:Value}(hm0:∀ b,M b→b<w.heap.size)(hvc:(An c).p vc w)(hvl:(XP.rats l).p M w [vl]) :
  Calls Tryz.prog 67 #[vc,vl] w λen w'=>∃ u,en = .returned u ∧ @RV (Ab V) BP M w' (.agg [aQ q 50080001,aL e]) u∧Below w.heap.size w w':=
 Calls.mono (Aau h hs hs1 sc hn hq he hm0 hvc hvl) λ_ _ ⟨u,e1,e2,e3⟩=>⟨u,e1,@QL (Ab V) (λo=>some o) BP BP _ _ _ (λ_ _ _ _ e=>by cases e) (λb hb=>hm0 b hb) _ _ _ rfl e2,e3⟩
end
def Rc(E E':Cc)(l l':List AV):Prop:=∀(ρ ρ':Bi)(M:Nat→Prop)(w:World)(cs:List Value),@AW E ρ M w l cs → @AW E' ρ' M w l' cs
def DJ(σ:Nat→Option Nat)(ρ:Bi):Bi:=λx=>(σ x).bind ρ
structure Mt (E E':Cc) (H Hc:HP) (σ:Nat→Option Nat):Prop where
 inj:∀ x y o,σ x=some o→σ y=some o→x=y
 low:∀ x o,σ x=some o→16≤x
 to:∀ x b',lk Hc x=some b'→∃ o b l,σ x=some o∧lk H o=some b∧b' = { b with cs:=l } ∧ b.bl=none∧Rc E E' b.cs l
 fro:∀ o b,lk H o=some b→∃ x b',σ x=some o∧lk Hc x=some b'
section
variable {E E' : Cc} {ρ : Bi} {M : Nat → Prop} {w w' : World} {H Hc : HP} {σ : Nat → Option Nat} {t0 n0 : Nat} {v : Value}
theorem Mt.st0(hc:Mt E E' H Hc σ)(hs:@CL E ρ M (@Dc ρ w (lk H)) w t0 (lk H)):@CL E' (DJ σ ρ) M (@Dc (DJ σ ρ) w (lk Hc)) w 0 (lk Hc):=by
 obtain ⟨⟨hobj,hinj⟩,hbnd,hnew,hfresh⟩:=hs;refine @CL.mk E' _ _ _ _ _ _ (@RH.mk E' _ _ _ _ _ (λx b' e=>?_) (λx x' b b' g c c' e e' q q'=>?_)) hbnd (λx _ hx=>?_) (λb hb=>.inl hb)
 ·obtain ⟨o,b,l,h1,h2,rfl,h3,h4⟩:=hc.to x b' e
  obtain ⟨g,c,arr,cs,k1,k2,k3,k4,k5,k6,k7,k8⟩:=hobj o b h2;have hat:DJ σ ρ x=some (g,c):=by
   unfold DJ;rw [h1];exact k1
  have hr:=@Bu.rps E _ _ _ _ _ k6 h3;exact ⟨g,c,arr,cs,@Is.mk E' _ _ _ _ _ _ _ _ _ _ hat k2 (.inr ⟨x,_,c,e,hat⟩) k4 k5 (@Bu.of E' _ _ _ _ _ (h4 _ _ _ _ _ hr) h3) k7 k8⟩
 ·obtain ⟨o,b1,l1,h1,h2,_,_,_⟩:=hc.to x b e
  obtain ⟨o',b2,l2,h1',h2',_,_,_⟩:=hc.to x' b' e';unfold DJ at q q';rw [h1] at q;rw [h1'] at q';have:o=o':=hinj o o' b1 b2 g c c' h2 h2' q q';subst this;exact hc.inj x x' o h1 h1'
 ·unfold DJ
  cases hσ:σ x with
  | none=>rfl
  | some o =>
   have:=hc.low x o hσ;omega
def rL(σ:Nat→Option Nat)(t0:Nat)(x:Nat):Option Nat:=if x<16 then some (t0+x) else σ x
theorem Mt.back(hc:Mt E E' H Hc σ)(hs:@CL E ρ M (@Dc ρ w (lk H)) w t0 (lk H)){Uc U:HP}{rc r:AV}(hp:@BH E' (DJ σ ρ) M (@Dc (DJ σ ρ) w (lk Hc)) w 0 (lk Hc) Uc rc v w')
  (hr:∀(ρ' ρ2:Bi)(M':Nat→Prop),(∀ x o p,rL σ t0 x=some o→ρ' x=some p→ρ2 o=some p) → @RV E' ρ' M' w' rc v → @RV E ρ2 M' w' r v)
  (hU:∀ o b,CQ (lk H) U o=some b→∃ x b' l,rL σ t0 x=some o∧CQ (lk Hc) Uc x=some b'∧b = { b' with cs:=l } ∧ b'.bl=none∧Rc E' E b'.cs l)
  (hk:∀ x b',lk Hc x=some b'→(∃ y∈Uc,y.1=x)→∃ o,σ x=some o∧∃ y∈U,y.1=o):@BH E ρ M (@Dc ρ w (lk H)) w t0 (lk H) U r v w':=by
 obtain ⟨ρ',M',ht,hv,⟨hRo,hRi⟩,hsup,hm1,hm2,hbnd,hfr,hkp⟩:=hp;obtain ⟨⟨hobj,hinj⟩,hbnd0,hnew,hfresh⟩:=hs
 let ρ2:Bi:=λo=>if t0≤o∧o<t0+16 then ρ' (o - t0) else ρ o
 have hold:∀ o p,ρ o=some p→ρ2 o=some p:=λo p e=>by
  show (if t0≤o∧o<t0+16 then ρ' (o - t0) else ρ o)=some p;rw [if_neg]
  ·exact e
  ·rintro ⟨k1,k2⟩
   rw [hnew o k1 k2] at e
   cases e
 have hτ:∀ x o p,rL σ t0 x=some o→ρ' x=some p→ρ2 o=some p:=λx o p e1 e2=>by
  unfold rL at e1;split at e1
  ·rename_i hx
   cases e1
   show (if t0≤t0+x∧t0+x<t0+16 then ρ' (t0+x - t0) else ρ (t0+x))=some p;rw [if_pos ⟨by omega,by omega⟩,show t0+x - t0=x by omega];exact e2
  ·rcases hsup x p e2 with h | h
   ·unfold DJ at h
    rw [e1] at h;exact hold o p h
   ·omega
 have hO:∀ b,@Dc (DJ σ ρ) w (lk Hc) b → @Dc ρ w (lk H) b:=λb h=>by
  rcases h with h | ⟨x,b',c,h1,h2⟩
  ·exact .inl h
  ·obtain ⟨o,b1,l,k1,k2,_⟩:=hc.to x b' h1
   unfold DJ at h2;rw [k1] at h2;exact .inr ⟨o,b1,c,k2,h2⟩
 refine ⟨ρ2,M',⟨ht.grow,ht.keep,ht.mono,hold⟩,hr ρ' ρ2 M' hτ hv,@RH.mk E _ _ _ _ _ (λo b e=>?_) (λo o' b b' g c c' e e' q q'=>?_),λo p e=>?_,hm1,hm2,hbnd,⟨hfr.os,hfr.tape,hfr.output,hfr.size,λb hb hA=>?_⟩,λo b g c e1 e2 e3=>?_⟩
 ·obtain ⟨x,b',l,h1,h2,rfl,h3,h4⟩:=hU o b e
  obtain ⟨g,c,arr,cs,k1,k2,k3,k4,k5,k6,k7,k8⟩:=hRo x b' h2;exact ⟨g,c,arr,cs,@Is.mk E _ _ _ _ _ _ _ _ _ _ (hτ x o _ h1 k1) k2 (hO g k3) k4 k5 (@Bu.of E _ _ _ _ _ (h4 _ _ _ _ _ (@Bu.rps E' _ _ _ _ _ k6 h3)) h3) k7 k8⟩
 ·obtain ⟨x,b1,l,h1,h2,_,_,_⟩:=hU o b e
  obtain ⟨x',b2,l',h1',h2',_,_,_⟩:=hU o' b' e';obtain ⟨g1,c1,_,_,k1,_⟩:=hRo x b1 h2;obtain ⟨g2,c2,_,_,k2,_⟩:=hRo x' b2 h2';have e1:=hτ x o _ h1 k1;have e2:=hτ x' o' _ h1' k2;rw [q] at e1;rw [q'] at e2;simp only [Option.some.injEq,Prod.mk.injEq] at e1 e2;have:x=x':=hRi x x' b1 b2 g1 c1 c2 h2 h2' k1 (by rw [k2,← e2.1,e1.1]);subst this;rw [h1] at h1';exact Option.some.inj h1'
 ·by_cases ho:t0≤o∧o<t0+16
  ·exact .inr ho
  ·refine .inl ?_
   have:ρ2 o=ρ o:=if_neg ho;rw [← this];exact e
 ·by_cases hx:@Dc (DJ σ ρ) w (lk Hc) b
  ·exact absurd (hO b hx) hA
  ·exact hfr.keep b hb hx
 ·obtain ⟨x,b',h1,h2⟩:=hc.fro o b e1
  refine hkp x b' g c h2 (λy hy e=>?_) ?_
  ·obtain ⟨o',h3,z,h4,h5⟩:=hk x b' h2 ⟨y,hy,e⟩
   rw [h1] at h3
   cases h3
   exact e2 z h4 h5
  ·unfold DJ
   rw [h1];exact e3
theorem lI{E E2:Cc}{f:Nat}{fn:Func}{c:Code}{ρ0:Bi}{H0:HP}{xs:List AV}{r:AV}{U:HP}{vs:List Value}(hf:Tryz.prog.funcs[f]? = some fn)(hb:fn.body=some c)(hs:@CL E ρ0 M (@Dc ρ0 w (lk H0)) w 0 (lk H0))(hs2:@CL E2 ρ0 M (@Dc ρ0 w (lk H0)) w 0 (lk H0))(hd:∀ o p,ρ0 o=some p→o<n0)(hv:@CH E ρ0 M w xs vs)
  (h:∀ a,@FS E (@Dc ρ0 w (lk H0)) w ρ0 M H0 n0 ⟨xs ++ List.replicate (fn.ntmps - xs.length) (.val undef),H0,n0,[]⟩ ρ0 M a w→c.wp Tryz.prog (λe a w'=>(e = .normal ∨ e = .ret)∧∃ s ρ' M',@FS E2 (@Dc ρ0 w (lk H0)) w ρ0 M H0 n0 s ρ' M' a w'∧TU H0 n0 0 fn s=some (r,U)) a w) :
  Calls Tryz.prog f vs.toArray w λe w'=>∃ v,e = .returned v ∧ @BH E2 ρ0 M (@Dc ρ0 w (lk H0)) w 0 (lk H0) U r v w':=by
 refine callsIn_wide.1 (callsIn_of_wp_marks (F:=Ec none) (n:=9) hf hb trivial ((@FK E _ _ _ _).2 (Code.wp_mono ?_ (h { tmps:=vs.toArray ++ Array.replicate (fn.ntmps - vs.toArray.size) undef,defers:=[] } ?_))))
 ·intro e a' w' ⟨he,s,ρ',M',hF',hfin⟩
  letI:=E2
  have hkk:∀ x b g c,lk H0 x=some b→ρ0 x=some (g,c)→g<w.heap.size:=λx b g c e1 e2=>QE hs2.heap e1 e2
  have key:LeavesInM (Ec none) 9 Tryz.prog fn a'.tmps (λe w'=>∃ v,e = .returned v∧BH ρ0 M (Dc ρ0 w (lk H0)) w 0 (lk H0) U r v w') a'.defers .returning w':=by
   refine Dr hs2.fresh hkk a'.defers a' w' hF' rfl rfl λa2 w2 hF2 ht2=>?_
   unfold TU at hfin;split at hfin
   ·rename_i l hl
    split at hfin
    ·rename_i r0 hr0
     obtain ⟨v,e1,e2⟩:=D9 hF2 hs2.fresh hl hr0;rw [ht2] at e1;exact ⟨v,e1,v,rfl,JY hs2 hd hF2 e2 hfin⟩
    ·cases hfin
   ·cases hfin
  rcases he with rfl | rfl
  ·exact key
  ·exact key
 ·exact @SN E _ _ _ fn _ _ _ _ _ hs hd hv
end
section
variable {V : VL} {F : Fa} {M : Nat → Prop} {w : World}
def kdA(ks:List Kd):Option (AV × HP)→Option (List AV)
 | some (.agg l,U)=>Iz U ks l
 | _=>none
theorem WD{L:List PE}{f m:Nat}{xs:List AV}{ks:List Kd}{r:List AV}(hF:Bq V F)(hL:∀ e∈L,@PE.ok (Ab V) e)(h:kdA ks (BW AK (DC (Yx F L) AK m) f xs [] 16 0)=some r){vs:List Value}(hm0:∀ b,M b→b<w.heap.size)(hv:@CH (Ab V) BP M w xs vs) :
  Calls Tryz.prog f vs.toArray w λe w'=>∃ u,e = .returned u ∧ @RV (Ab V) BP M w' (.agg r) u∧Below w.heap.size w w':=by
 letI:=Ab V
 generalize hr:BW AK (DC (Yx F L) AK m) f xs [] 16 0=o at h;unfold kdA at h;split at h
 ·rename_i l U
  obtain ⟨_,hcall⟩:=DE Bp (EP (QG hF hL) Bp m).1 f xs [] 16 0 _ _ hr;have hs:CL BP M (Dc BP w (lk [])) w 0 (lk []):=⟨⟨λo b e=>(by cases e),λo o' b b' g c c' e=>(by cases e)⟩,hm0,λ_ _ _=>rfl,λb hb=>.inl hb⟩;refine Calls.mono (hcall BP M w vs hs (λo p e=>(by cases e)) (by decide) hv) λe w' ⟨v,e1,ρ',M',ht,hv',hR,_,hsup,_,_,hfr,_⟩=>⟨v,e1,?_,⟨hfr.os,hfr.tape,hfr.output,hfr.size,λb hb=>hfr.keep b hb ?_⟩⟩
  ·obtain ⟨cs,rfl,hc⟩:=hv'
   exact ⟨cs,rfl,LX hF hm0 hsup hR h hc⟩
  ·rintro (h1 | ⟨_,_,_,h1,_⟩)
   ·omega
   ·cases h1
 ·cases h
end
def NX(c:Rat)(a:List Rat)(d:Rat)(b:List Rat):List Rat:=(List.range a.length).map λi=>c*a.getD i 0 - d*b.getD i 0
def GU(k i:Nat):CE:=.ap 30 (.v k) (.i 0 (i:Int))
def DB:Nat:=2000001
def dcQ(a:AV):Option (CE × Nat):=match a with
 | .ext 4 true (.ap 52 q (.lit n))=>if Nat.ble n.toNat 2000001 then some (q,n.toNat) else none
 | _=>none
def dcB(b:Option OB):Option (CE × Nat):=match b with
 | some ⟨T,1,[a],false,none⟩=>if Nat.beq T 36 then dcQ a else none
 | _=>none
def dcC:BC:=λf xs H _ _=>match xs with
 | [x,y,.ptr oc 0,.ptr od 0]=>match dcQ x,dcQ y,dcB (lk H oc),dcB (lk H od) with
  | some p,some q,some c,some d=>if Nat.beq f 99 && !Nat.beq oc od && H.all (λz=>Nat.beq z.1 oc || Nat.beq z.1 od) then some (aQ (.ap 32 (.ap 33 c.1 p.1) (.ap 33 d.1 q.1)) 8000010,[]) else none
  | _,_,_,_=>none
 | _=>none
def aE:Nat→List (CE × Bool)
 | 0=>[(.v 1,false)]
 | 1=>[(.v 1,true),(.v 0,false)]
 | _=>[(.v 1,true),(.v 0,true)]
def Afp(p:Nat):Fa:=⟨[],[],[],aE p,[],[],[]⟩
def wC:HP:=[(16,some ⟨36,1,[aQ (.v 2) 2000001],false,none⟩),(17,some ⟨36,1,[aQ (.v 3) 2000001],false,none⟩)]
noncomputable def tB(p:Nat):Option (AV × HP):=BW AK (DC (Yx (Afp p) []) AK 200) 99 [aQ (.v 0) 2000001,aQ (.v 1) 2000001,.ptr 16 0,.ptr 17 0] wC 32 0
def NF:Nat→CE
 | 0=>.ap 32 (.ap 33 (.v 2) (.v 0)) (.ap 33 (.v 3) (.v 1))
 | 1=>.ap 33 (.v 2) (.v 0)
 | _=>.v 0
def mV(q:CE)(b:Nat)(o:Option (AV × HP)):Bool:=match o with
 | some (.ext 4 true (.ap 52 q' (.lit n)),[])=>CE.beq q q' && Nat.ble n.toNat b
 | _=>false
noncomputable def fY:Bool:=mV (NF 0) 8000010 (tB 0) && mV (NF 1) 8000010 (tB 1) && mV (NF 2) 8000010 (tB 2)
theorem Aa3:fY=true:=by kernel_rfl
theorem Tm{b:Option OB}{c:CE × Nat}(h:dcB b=some c):∃ n:Int,c.2=n.toNat∧n.toNat≤2000001∧b=some ⟨36,1,[.ext 4 true (.ap 52 c.1 (.lit n))],false,none⟩:=by
 unfold dcB at h;split at h
 ·split at h
  ·rename_i T a hT
   rw [Nat.eq_of_beq_eq_true hT];unfold dcQ at h;split at h
   ·split at h
    ·rename_i n hn
     cases h
     exact ⟨n,rfl,Nat.le_of_ble_eq_true hn,rfl⟩
    ·cases h
   ·cases h
  ·cases h
 ·cases h
theorem TL{a:AV}{c:CE × Nat}(h:dcQ a=some c):∃ n:Int,c.2=n.toNat∧n.toNat≤2000001∧a = .ext 4 true (.ap 52 c.1 (.lit n)):=by
 unfold dcQ at h;split at h
 ·split at h
  ·rename_i n hn
   cases h
   exact ⟨n,rfl,Nat.le_of_ble_eq_true hn,rfl⟩
  ·cases h
 ·cases h
theorem OT{V V':VL}{q q':CE}{n:Int}{m:Nat}(h:qD V q=qD V' q')(hs:n.toNat≤m):Le V V' (.ext 4 true (.ap 52 q (.lit n)),aQ q' m):=λρ ρ' M w cs r=>by
 unfold Rp at r ⊢;refine ⟨r.1,?_⟩;obtain ⟨s,a,b,c,d,e,h1,h2⟩:=r.2;show (XP.num (qD V' q') ((m:Int)).toNat).p M w cs;rw [← h];exact ⟨s.mono (by simpa using hs),a,b,c,d,e,h1,h2⟩
theorem yP{V V':VL}{q q':CE}{n:Int}{m:Nat}(h:qD V q=qD V' q')(hs:AQ (qD V q) n.toNat):Le V V' (aQ q m,.ext 4 true (.ap 52 q' (.lit n))):=λρ ρ' M w cs r=>by
 unfold Rp at r ⊢;refine ⟨r.1,?_⟩;obtain ⟨_,a,b,c,d,e,h1,h2⟩:=r.2;show (XP.num (qD V' q') n.toNat).p M w cs;rw [← h];exact ⟨hs,a,b,c,d,e,h1,h2⟩
theorem fV{H:HP}{o:Nat}{b:OB}(h:lk H o=some b):∃ z∈H,z.1=o:=by
 induction H with
 | nil=>cases h
 | cons x r ih =>
  unfold lk at h;split at h
  ·rename_i hb
   exact ⟨x,List.mem_cons_self ..,Nat.eq_of_beq_eq_true hb⟩
  ·obtain ⟨z,hz,e⟩:=ih h
   exact ⟨z,List.mem_cons_of_mem _ hz,e⟩
theorem Rs{V V':VL}{a a':AV}(h:Le V V' (a,a')):Rc (Ab V) (Ab V') [a] [a']:=λρ ρ' M w cs r=>by
 unfold AW at r ⊢;obtain ⟨x,y,e,h1,h2⟩:=r;refine ⟨x,y,e,h ρ ρ' M w x h1,?_⟩;unfold AW at h2 ⊢;exact h2
def EI(x y c d:Rat):VL:=⟨λ_=>0,λ_=>[],λk=>match k with | 0=>x | 1=>y | 2=>c | 3=>d | _=>0,λ_=>[]⟩
theorem IC{q:CE}{b:Nat}{o:Option (AV × HP)}(h:mV q b o=true):∃ n:Int,o=some (.ext 4 true (.ap 52 q (.lit n)),[])∧n.toNat≤b:=by
 unfold mV at h;split at h
 ·rw [Bool.and_eq_true] at h
  rw [CE.beq_eq h.1];exact ⟨_,rfl,Nat.le_of_ble_eq_true h.2⟩
 ·cases h
theorem pT(x y c d:Rat):∃ p,p<3∧(∀ z∈aE p,decide (qD (EI x y c d) z.1=0)=z.2)∧qD (EI x y c d) (NF p)=c*x - d*y:=by
 have e0:qD (EI x y c d) (.v 0)=x:=by simp only [qD,EI]
 have e1:qD (EI x y c d) (.v 1)=y:=by simp only [qD,EI]
 have e2:qD (EI x y c d) (.v 2)=c:=by simp only [qD,EI]
 have e3:qD (EI x y c d) (.v 3)=d:=by simp only [qD,EI]
 by_cases hy:y=0
 ·by_cases hx:x=0
  ·refine ⟨2,by decide,λz hz=>?_,?_⟩
   ·simp only [aE,List.mem_cons,List.not_mem_nil,or_false] at hz
    rcases hz with rfl | rfl
    ·rw [e1]; exact decide_eq_true hy
    ·rw [e0]; exact decide_eq_true hx
   ·show qD _ (.v 0)=_
    rw [e0,hx,hy]
    grind
  ·refine ⟨1,by decide,λz hz=>?_,?_⟩
   ·simp only [aE,List.mem_cons,List.not_mem_nil,or_false] at hz
    rcases hz with rfl | rfl
    ·rw [e1]; exact decide_eq_true hy
    ·rw [e0]; exact decide_eq_false hx
   ·have:qD (EI x y c d) (NF 1)=qD (EI x y c d) (.v 2)*qD (EI x y c d) (.v 0):=by simp only [NF,qD]
    rw [this,e0,e2,hy]
    grind
 ·refine ⟨0,by decide,λz hz=>?_,?_⟩
  ·simp only [aE,List.mem_singleton] at hz
   subst hz;rw [e1];exact decide_eq_false hy
  ·have:qD (EI x y c d) (NF 0)=qD (EI x y c d) (.v 2)*qD (EI x y c d) (.v 0) - qD (EI x y c d) (.v 3)*qD (EI x y c d) (.v 1):=by simp only [NF,qD]
   rw [this,e0,e1,e2,e3]
theorem Ahe:∀ p,p<3→∃ n:Int,tB p=some (.ext 4 true (.ap 52 (NF p) (.lit n)),[])∧n.toNat≤8000010:=λp hp=>by
 have h:=Aa3;unfold fY at h;simp only [Bool.and_eq_true] at h
 match p,hp with
 | 0,_=>exact IC h.1.1
 | 1,_=>exact IC h.1.2
 | 2,_=>exact IC h.2
theorem Ac3{V:VL}:@BZ (Ab V) dcC:=by
 intro f xs H n0 t0 r U h;unfold dcC at h;split at h
 ·rename_i x y oc od
  split at h
  ·rename_i p q c d hp hq hc hd
   split at h
   ·rename_i hcond
    cases h
    rw [Bool.and_eq_true,Bool.and_eq_true] at hcond;obtain ⟨⟨hf,hne⟩,hall⟩:=hcond;have hf:=Nat.eq_of_beq_eq_true hf;subst hf;have hne:oc≠od:=λe=>by
     subst e;simp at hne
    obtain ⟨n1,_,l1,rfl⟩:=TL hp;obtain ⟨n2,_,l2,rfl⟩:=TL hq;obtain ⟨n3,_,l3,ec⟩:=Tm hc;obtain ⟨n4,_,l4,ed⟩:=Tm hd;have hkeys:∀ o b,lk H o=some b→o=oc ∨ o=od:=λo b e=>by
     obtain ⟨z,hz,rfl⟩:=fV e;have:=List.all_eq_true.1 hall z hz;rw [Bool.or_eq_true] at this
     rcases this with h | h
     ·exact .inl (Nat.eq_of_beq_eq_true h)
     ·exact .inr (Nat.eq_of_beq_eq_true h)
    obtain ⟨pc,hpc,hz,hres⟩:=pT (qD V p.1) (qD V q.1) (qD V c.1) (qD V d.1);generalize hV':EI (qD V p.1) (qD V q.1) (qD V c.1) (qD V d.1)=V' at hz hres;have e0:qD V' (.v 0)=qD V p.1:=by rw [← hV']; simp only [qD,EI]
    have e1:qD V' (.v 1)=qD V q.1:=by rw [← hV']; simp only [qD,EI]
    have e2:qD V' (.v 2)=qD V c.1:=by rw [← hV']; simp only [qD,EI]
    have e3:qD V' (.v 3)=qD V d.1:=by rw [← hV']; simp only [qD,EI]
    have hF:Bq V' (Afp pc):=Ej (λk=>by rw [← hV']; rfl) (λx hx=>by cases hx) (λx hx=>by cases hx) hz (λx hx=>by cases hx);obtain ⟨nr,hrun,hnr⟩:=Ahe pc hpc;obtain ⟨hpl,hcall⟩:=@DE (Ab V') _ _ Bp _ (@EP (Ab V') _ _ (QG hF (λ_ h=>by cases h)) Bp 200).1 _ _ wC 32 0 _ _ hrun;refine ⟨hpl,λρ M w vs hs hdom htn hv=>?_⟩
    let σ:Nat→Option Nat:=λk=>if k=16 then some oc else if k=17 then some od else none
    have hcan:Mt (Ab V) (Ab V') H wC σ:=by
     refine ⟨λx y o h1 h2=>?_,λx o h1=>?_,λx b' e=>?_,λo b e=>?_⟩
     ·dsimp only [σ] at h1 h2
      split at h1 <;> split at h2 <;> simp_all
     ·dsimp only [σ] at h1
      split at h1
      ·omega
      ·split at h1
       ·omega
       ·cases h1
     ·unfold wC lk at e
      split at e
      ·rename_i hx
       have hx:=Nat.eq_of_beq_eq_true hx;subst hx
       cases e
       exact ⟨oc,_,_,rfl,ec,rfl,rfl,Rs (OT e2.symm l3)⟩
      ·unfold lk at e
       split at e
       ·rename_i hx
        have hx:=Nat.eq_of_beq_eq_true hx;subst hx
        cases e
        exact ⟨od,_,_,rfl,ed,rfl,rfl,Rs (OT e3.symm l4)⟩
       ·cases e
     ·rcases hkeys o b e with rfl | rfl
      ·exact ⟨16,_,rfl,rfl⟩
      ·exact ⟨17,_,rfl,rfl⟩
    have hs':=hcan.st0 hs;obtain ⟨va,_,rfl,h1,vb,_,rfl,h2,vc,_,rfl,h3,vd,_,rfl,h4,h5⟩:=hv;have h5:_=[]:=h5;subst h5;have hv':@CH (Ab V') (DJ σ ρ) M w [aQ (.v 0) 2000001,aQ (.v 1) 2000001,.ptr 16 0,.ptr 17 0] [va,vb,vc,vd]:=by
     obtain ⟨c1,rfl,h1⟩:=h1;obtain ⟨c2,rfl,h2⟩:=h2;refine ⟨_,_,rfl,⟨c1,rfl,OT e0.symm l1 ρ _ M w _ h1⟩,_,_,rfl,⟨c2,rfl,OT e1.symm l2 ρ _ M w _ h2⟩,vc,_,rfl,?_,vd,_,rfl,?_,rfl⟩
     ·have h3:@Rp (Ab V) ρ M w (.ptr oc 0) [vc]:=h3
      show @Rp (Ab V') (DJ σ ρ) M w (.ptr 16 0) [vc];unfold Rp at h3 ⊢;exact h3
     ·have h4:@Rp (Ab V) ρ M w (.ptr od 0) [vd]:=h4
      show @Rp (Ab V') (DJ σ ρ) M w (.ptr 17 0) [vd];unfold Rp at h4 ⊢;exact h4
    have hd':∀ x p,DJ σ ρ x=some p→x<32:=λx p e=>by
     unfold DJ at e;obtain ⟨o,ho,_⟩:=Option.bind_eq_some_iff.1 e;dsimp only [σ] at ho;split at ho
     ·omega
     ·split at ho
      ·omega
      ·cases ho
    have hcode:qD V (.ap 32 (.ap 33 c.1 p.1) (.ap 33 d.1 q.1))=qD V' (NF pc):=by
     rw [hres];simp only [qD]
    obtain ⟨⟨hobj,_⟩,_⟩:=id hs;have size:∀(o:Nat)(cc:CE)(n:Int),lk H o=some ⟨36,1,[.ext 4 true (.ap 52 cc (.lit n))],false,none⟩→AQ (qD V cc) n.toNat:=λo cc n e=>by
     obtain ⟨g,c,arr,cs,_,_,_,_,_,k6,_,_⟩:=hobj o _ e;have k6:=@Bu.rps (Ab V) _ _ _ _ _ k6 rfl;unfold AW at k6;obtain ⟨x,y,_,k,_⟩:=k6;unfold Rp at k;exact k.2.1
    refine Calls.mono (hcall (DJ σ ρ) M w _ hs' hd' (by decide) hv') λe w' ⟨v,e1,hpost⟩=>⟨v,e1,hcan.back hs hpost (λρ' ρ2 M' _ hr=>?_) (λo b e=>?_) (λx b' _ hy=>?_)⟩
    ·obtain ⟨cs,rfl,hc⟩:=hr
     exact ⟨cs,rfl,OT hcode.symm hnr _ _ _ _ _ hc⟩
    ·rcases hkeys o b e with rfl | rfl
     ·have e:lk H o=some b:=e
      have hs2:=size _ _ _ ec;rw [ec] at e
      cases e
      exact ⟨16,_,_,rfl,rfl,rfl,rfl,Rs (yP e2 (by rw [e2]; exact hs2))⟩
     ·have e:lk H o=some b:=e
      have hs2:=size _ _ _ ed;rw [ed] at e
      cases e
      exact ⟨17,_,_,rfl,rfl,rfl,rfl,Rs (yP e3 (by rw [e3]; exact hs2))⟩
    ·obtain ⟨y,hy,_⟩:=hy
     cases hy
   ·cases h
  ·cases h
 ·cases h
theorem tO{V:VL}{F:Fa}{M:Nat→Prop}{w:World}{L:List PE}{C:BC}{f m:Nat}{xs:List AV}{ks:List Kd}{r:AV}(hF:Bq V F)(hL:∀ e∈L,@PE.ok (Ab V) e)(hC:@BZ (Ab V) C)(h:Z7 ks (BW AK (DC (TT F L C) AK m) f xs [] 16 0)=some r){vs:List Value}(hm0:∀ b,M b→b<w.heap.size)(hv:@CH (Ab V) BP M w xs vs) :
  Calls Tryz.prog f vs.toArray w λe w'=>∃ u,e = .returned u ∧ @RV (Ab V) BP M w' r u∧Below w.heap.size w w':=by
 letI:=Ab V
 generalize hr:BW AK (DC (TT F L C) AK m) f xs [] 16 0=o at h
 cases o with
 | none=>unfold Z7 at h; cases h
 | some p =>
  obtain ⟨a,U⟩:=p;obtain ⟨_,hcall⟩:=DE Bp (EP (T:=TT F L C) (@Fo.mk (Ab V) _ (EC hF hL) (F7 hF) hC) Bp m).1 f xs [] 16 0 _ _ hr;have hs:CL BP M (Dc BP w (lk [])) w 0 (lk []):=⟨⟨λo b e=>(by cases e),λo o' b b' g c c' e=>(by cases e)⟩,hm0,λ_ _ _=>rfl,λb hb=>.inl hb⟩;refine Calls.mono (hcall BP M w vs hs (λo p e=>(by cases e)) (by decide) hv) λe w' ⟨v,e1,ρ',M',ht,hv',hR,_,hsup,_,_,hfr,_⟩=>⟨v,e1,?_,⟨hfr.os,hfr.tape,hfr.output,hfr.size,λb hb=>hfr.keep b hb ?_⟩⟩
  ·unfold Z7 at h
   split at h
   ·rename_i l U' e2
    cases e2
    obtain ⟨rs,h1,rfl⟩:=Option.map_eq_some_iff.1 h;obtain ⟨ws,rfl,q⟩:=hv';exact ⟨ws,rfl,JH hF hm0 hsup hR h1 q⟩
   ·rename_i a' U' hne e2
    cases e2
    split at h
    ·rename_i k
     have hv1:@BA (Ab V) ρ' M' w' a v:=by
      cases a with
      | tup l=>exact (hne l rfl).elim
      | _=>exact hv'
     exact @BA.rv (Ab V) BP M w' r v (Dl hF hm0 hsup hR h hv1)
    ·cases h
   ·rename_i e2
    cases e2
  ·rintro (h1 | ⟨_,_,_,h1,_⟩)
   ·omega
   ·cases h1
def sU(n:Nat):Fa:=⟨[],[(.v 0,0,(n:Int)),(.v 1,0,(n:Int))],[(.v 0,2000001),(.v 1,2000001)],[],[],[],[]⟩
def xJ(i:Nat):CE:=.ap 32 (.ap 33 (.v 0) (GU 0 i)) (.ap 33 (.v 1) (GU 1 i))
def AhD:List AV:=[aQ (.v 0) 2000001,aL (.v 0),aQ (.v 1) 2000001,aL (.v 1)]
noncomputable def Aiq(n:Nat):Option AV:=Z7 [.L] (BW AK (DC (TT (sU n) [] dcC) AK 200) 73 AhD [] 16 0)
def isL(l:List CE)(o:Option AV):Bool:=match o with
 | some a=>EZ a (aL (Fw l))
 | none=>false
noncomputable def Aa7:Bool:=(List.range 7).all λn=>isL ((List.range n).map xJ) (Aiq n)
theorem AbL:Aa7=true:=by kernel_rfl
theorem G8{l:List CE}{o:Option AV}(h:isL l o=true):o=some (aL (Fw l)):=by
 unfold isL at h;split at h
 ·rw [FE h]
 ·cases h
def MY(l p:List Rat)(c d:Rat):VL:=⟨λ_=>0,λk=>match k with | 0=>l | 1=>p | _=>[],λk=>match k with | 0=>c | 1=>d | _=>0,λ_=>[]⟩
theorem AhZ{l p:List Rat}{c d:Rat}(hl:∀ x∈l,AQ x 2000001)(hp:∀ x∈p,AQ x 2000001)(hc:AQ c 2000001)(hd:AQ d 2000001)(hn:l.length≤6)(he:p.length=l.length){M:Nat→Prop}{w:World}{vc vl vd vp:Value}(hm0:∀ b,M b→b<w.heap.size)(hvc:(An c).p vc w)(hvl:(XP.rats l).p M w [vl])(hvd:(An d).p vd w)(hvp:(XP.rats p).p M w [vp]) :
  Calls Tryz.prog 73 #[vc,vl,vd,vp] w λe w'=>∃ u,e = .returned u∧(XP.rats (NX c l d p)).p M w' [u]∧Below w.heap.size w w':=by
 have hF:Bq (MY l p c d) (sU l.length):=Ej (λ_=>rfl) (λx hx=>by
  simp only [sU,List.mem_cons,List.not_mem_nil,or_false] at hx
  rcases hx with rfl | rfl
  ·simp [lD,MY]
  ·simp [lD,MY,he]) (λx hx=>by
  simp only [sU,List.mem_cons,List.not_mem_nil,or_false] at hx
  rcases hx with rfl | rfl
  ·simpa [lD,MY] using hl
  ·simpa [lD,MY] using hp) (λx hx=>by cases hx) (λx hx=>by cases hx)
 have hr:=G8 (List.all_eq_true.1 AbL l.length (List.mem_range.2 (by omega)));refine Calls.mono (tO (M:=M) (w:=w) (vs:=[vc,vl,vd,vp]) hF (λ_ h=>by cases h) Ac3 hr hm0 ⟨vc,_,rfl,FG (V:=MY l p c d) (q:=.v 0) hvc hc,vl,_,rfl,Eh (V:=MY l p c d) (e:=.v 0) hvl,vd,_,rfl,FG (V:=MY l p c d) (q:=.v 1) hvd hd,vp,_,rfl,Eh (V:=MY l p c d) (e:=.v 1) hvp,rfl⟩) λe w' ⟨u,e1,e2,e3⟩=>⟨u,e1,?_,e3⟩
 have e2:=CK (ρ:=BP) (M:=M) e2;have e:lD (MY l p c d) (Fw ((List.range l.length).map xJ))=NX c l d p:=by
  rw [F0];unfold NX;rw [List.map_map];refine List.map_congr_left λi _=>?_
  show qD _ (xJ i)=_;simp [xJ,GU,qD,lD,zD,MY]
 rw [e] at e2;exact e2
def EN(c:Rat)(l p:List Rat)(col:Nat):Rat × List Rat:=if l.getD col 0=0 then (c,l) else
 let f:=l.getD col 0 / p.getD col 0
 let r:=NX ((f.den:Int):Rat) l (f.num:Rat) p
 (c / ((f.den:Int):Rat)*Ef r,Cp r)
def Ds(s:Nat)(l:List Rat):Prop:=∀ x∈l,∃ z:Int,x=(z:Rat)∧Sm z s
theorem Ds.at_{s:Nat}{l:List Rat}(h:Ds s l)(k:Nat):∃ z:Int,l.getD k 0=(z:Rat)∧Sm z s:=by
 by_cases hk:k<l.length
 ·rw [List.getD_eq_getElem?_getD,List.getElem?_eq_getElem hk]
  exact h _ (List.getElem_mem hk)
 ·rw [List.getD_eq_getElem?_getD,List.getElem?_eq_none (by omega)]
  exact ⟨0,rfl,by unfold Sm; simp; exact Nat.pow_pos (by decide)⟩
theorem Ds.rsm{s:Nat}{l:List Rat}(h:Ds s l)(hs:1≤s){x:Rat}(hx:x∈l):AQ x s:=by
 obtain ⟨z,rfl,h2⟩:=h x hx;exact DL h2 hs
theorem Ds.mono{s t:Nat}{l:List Rat}(h:Ds s l)(hs:s≤t):Ds t l:=λx hx=>by
 obtain ⟨z,h1,h2⟩:=h x hx;exact ⟨z,h1,h2.mono hs⟩
theorem Ka{x y:Int}{s:Nat}(hx:Sm x s)(hy:Sm y s)(hy0:y≠0):Sm ((((x:Rat) / (y:Rat)).den:Nat):Int) s∧Sm ((x:Rat) / (y:Rat)).num s:=by
 have hyr:(y:Rat)≠0:=λe=>hy0 (Rat.intCast_inj.1 (by simpa using e))
 generalize hq:(x:Rat) / (y:Rat)=q;have h1:q*(y:Rat)=(x:Rat):=by
  rw [← hq]
  grind
 obtain ⟨G,hG⟩:=Yi h1;have g0:G≠0:=λe=>by rw [e,Int.mul_zero] at hG; exact hy0 hG
 refine ⟨PY (c:=G) hG.symm g0 hy,PY (c:=G) (b:=x) (Rat.intCast_inj.1 ?_) g0 hx⟩;rw [Rat.intCast_mul,← LL q,← h1,hG,Rat.intCast_mul]
 grind
theorem Lu{s:Nat}{l p:List Rat}{d n:Int}(hl:Ds s l)(hp:Ds s p)(hd:Sm d s)(hn:Sm n s):Ds (2*s+1) (NX (d:Rat) l (n:Rat) p):=λx hx=>by
 obtain ⟨i,_,rfl⟩:=List.mem_map.1 hx;obtain ⟨a,ha,sa⟩:=hl.at_ i;obtain ⟨b,hb,sb⟩:=hp.at_ i;refine ⟨d*a - n*b,by rw [ha,hb,Rat.intCast_sub,Rat.intCast_mul,Rat.intCast_mul],?_⟩;have:=(hd.mul sa).sub (hn.mul sb);refine this.mono ?_;omega
theorem Ds.frac{s:Nat}{l:List Rat}(h:Ds s l)(hs:1≤s):Fz 1 s l:=⟨by decide,by
 unfold Sm;exact Nat.one_lt_pow (by omega) (by decide),λx hx=>by
 obtain ⟨z,h1,h2⟩:=h x hx;exact ⟨z,by rw [h1]; simp,h2⟩⟩
theorem Fz.whole{D:Int}{s:Nat}{l:List Rat}(h:Fz D s l):Ds s (Cp l):=λ_ hx=>YD h hx
theorem K5{c d:Rat}{l p:List Rat}:(NX c l d p).length=l.length:=by simp [NX]
theorem MU{l:List Rat}:(Cp l).length=l.length:=by simp [Cp]
section
variable {c : Rat} {l p : List Rat} {col s : Nat}
theorem aP:(EN c l p col).2.length=l.length:=by
 unfold EN;split
 ·rfl
 ·show (Cp _).length=_
  rw [MU,K5]
theorem ZP(hl:Ds s l)(hp:Ds s p)(hs:1≤s)(hz:p.getD col 0≠0):Ds (2*s+1) (EN c l p col).2:=by
 unfold EN;split
 ·exact hl.mono (by omega)
 ·obtain ⟨x,hx,sx⟩:=hl.at_ col
  obtain ⟨y,hy,sy⟩:=hp.at_ col;have hy0:y≠0:=λe=>hz (by rw [hy,e]; rfl)
  obtain ⟨h1,h2⟩:=Ka sx sy hy0;rw [← hx,← hy] at h1 h2;exact ((Lu hl hp h1 h2).frac (by omega)).whole
theorem TP{i:Nat}(hl:Ds s l)(hp:Ds s p)(hs:1≤s)(hz:p.getD col 0≠0)(hc:AQ c i):AQ (EN c l p col).1 (i+s+(2*s+1)):=by
 unfold EN;split
 ·exact hc.mono (by omega)
 ·obtain ⟨x,hx,sx⟩:=hl.at_ col
  obtain ⟨y,hy,sy⟩:=hp.at_ col;have hy0:y≠0:=λe=>hz (by rw [hy,e]; rfl)
  obtain ⟨h1,h2⟩:=Ka sx sy hy0;rw [← hx,← hy] at h1 h2;exact (hc.div (DL h1 hs)).mul (Gd ((Lu hl hp h1 h2).frac (by omega)) _)
end
def sH(col:Nat):CE:=.ap 46 (GU 0 col) (GU 1 col)
def PH(col:Nat):CE:=.ap 48 (sH col) (.lit 0)
def Aey(col:Nat):CE:=.ap 47 (sH col) (.lit 0)
def U9(a:AV)(q:CE):Bool:=match FM a with
 | some p=>CE.beq p.1 q
 | none=>false
noncomputable def pDf(col:Nat):PE:=⟨73,λxs=>match xs with
 | [a,.ext 1 false (.ap 51 (.v 0) _),b,.ext 1 false (.ap 51 (.v 1) _)]=>if U9 a (PH col) && U9 b (Aey col) then some (aL (.v 2)) else none
 | _=>none⟩
noncomputable def pLw(col:Nat):PE:=⟨67,λxs=>match xs with
 | [a,.ext 1 false (.ap 51 (.v 2) _)]=>if U9 a (.ap 46 (.v 0) (PH col)) then some (.agg [aQ (.v 2) 50080001,aL (.v 3)]) else none
 | _=>none⟩
def tZ(col:Nat):Bool→List (CE × Bool)
 | true=>[(GU 0 col,true)]
 | false=>[(GU 0 col,false),(GU 1 col,false),(PH col,false)]
def nP(n col:Nat)(z:Bool):Fa:=⟨[],[(.v 0,0,(n:Int)),(.v 1,0,(n:Int))],[(.v 0,2000001),(.v 1,2000001)],tZ col z,[],[],[]⟩
def Aah(col:Nat):List AV:=[.agg [aQ (.v 0) 40000000,aL (.v 0)],.agg [aQ (.v 1) 40000000,aL (.v 1)],.val (.int .i64 (col:Int))]
noncomputable def Ae9(n col:Nat)(z:Bool):Option (List AV):=kdA [.leaf,.leaf] (BW AK (DC (Yx (nP n col z) [pDf col,pLw col,OE (nP n col z)]) AK 200) 70 (Aah col) [] 16 0)
def Agn:Bool→List AV
 | true=>[aQ (.v 0) 40000000,aL (.v 0)]
 | false=>[aQ (.v 2) 50080001,aL (.v 3)]
def isR(rs:List AV)(o:Option (List AV)):Bool:=match o with
 | some l=>GS l rs
 | none=>false
noncomputable def AcN(m:Nat):Bool:=(List.range m).all λcol=>(List.range 7).all λn=>Nat.ble n col || (isR (Agn true) (Ae9 n col true) && isR (Agn false) (Ae9 n col false))
theorem Acv:AcN 6=true:=by kernel_rfl
def BL(l p:List Rat)(c cp:Rat)(col:Nat):VL:=⟨λ_=>0,λk=>match k with
 | 0=>l
 | 1=>p
 | 2=>NX (((l.getD col 0 / p.getD col 0).den:Int):Rat) l ((l.getD col 0 / p.getD col 0).num:Rat) p
 | 3=>Cp (NX (((l.getD col 0 / p.getD col 0).den:Int):Rat) l ((l.getD col 0 / p.getD col 0).num:Rat) p)
 | _=>[],λk=>match k with
 | 0=>c
 | 1=>cp
 | 2=>c / (((l.getD col 0 / p.getD col 0).den:Int):Rat)*Ef (NX (((l.getD col 0 / p.getD col 0).den:Int):Rat) l ((l.getD col 0 / p.getD col 0).num:Rat) p)
 | _=>0,λ_=>[]⟩
theorem OO{rs:List AV}{o:Option (List AV)}(h:isR rs o=true):o=some rs:=by
 unfold isR at h;split at h
 ·rw [DF h]
 ·cases h
theorem EK{a:AV}{q:CE}(h:U9 a q=true):∃ n,FM a=some (q,n):=by
 unfold U9 at h;split at h
 ·rename_i p hp
  exact ⟨p.2,by rw [hp,← CE.beq_eq h]⟩
 ·cases h
section
variable {l p : List Rat} {c cp : Rat} {col s : Nat}
theorem Xo(k:Nat)(hk:k<2)(i:Nat):qD (BL l p c cp col) (GU k i)=(if k=0 then l else p).getD i 0:=by
 match k,hk with
 | 0,_=>simp [GU,qD,lD,zD,BL]
 | 1,_=>simp [GU,qD,lD,zD,BL]
theorem yJ:qD (BL l p c cp col) (sH col)=l.getD col 0 / p.getD col 0:=by
 unfold sH;simp only [qD];rw [← show qD (BL l p c cp col) (GU 0 col)=l.getD col 0 from Xo 0 (by decide) col,← show qD (BL l p c cp col) (GU 1 col)=p.getD col 0 from Xo 1 (by decide) col]
theorem bQ:qD (BL l p c cp col) (PH col)=(((l.getD col 0 / p.getD col 0).den:Int):Rat):=by
 unfold PH;simp only [qD];rw [yJ]
theorem Afw:qD (BL l p c cp col) (Aey col)=((l.getD col 0 / p.getD col 0).num:Rat):=by
 unfold Aey;simp only [qD];rw [yJ]
theorem Tx:qD (BL l p c cp col) (.v 0)=c:=by simp only [qD,BL]
theorem Nx(hl:Ds s l)(hp:Ds s p)(hz:p.getD col 0≠0):Sm (((l.getD col 0 / p.getD col 0).den:Nat):Int) s∧Sm (l.getD col 0 / p.getD col 0).num s:=by
 obtain ⟨x,hx,sx⟩:=hl.at_ col;obtain ⟨y,hy,sy⟩:=hp.at_ col;have hy0:y≠0:=λe=>hz (by rw [hy,e]; rfl)
 rw [hx,hy];exact Ka sx sy hy0
theorem fJ(hl:Ds s l)(hp:Ds s p)(hs:1≤s)(h2:s≤20000)(hz:p.getD col 0≠0)(hn:l.length≤6)(he:p.length=l.length):@PE.ok (Ab (BL l p c cp col)) (pDf col):=by
 intro xs r e;refine ⟨λ_ _=>by simp [pDf,go_sem],λρ M w vs hm0 hv=>?_⟩;unfold pDf at e;dsimp only at e;split at e
 ·rename_i a _ b _
  split at e
  ·rename_i hc
   rw [Bool.and_eq_true] at hc
   cases e
   obtain ⟨n1,e1⟩:=EK hc.1;obtain ⟨n2,e2⟩:=EK hc.2;obtain ⟨va,_,rfl,k1,vb,_,rfl,k2,vc,_,rfl,k3,vd,_,rfl,k4,k5⟩:=hv;have k5:_=[]:=k5;subst k5;have q1:=(Bj e1 (@BA.rv (Ab (BL l p c cp col)) ρ M w _ _ k1)).1;have q3:=(Bj e2 (@BA.rv (Ab (BL l p c cp col)) ρ M w _ _ k3)).1;have q2:=CK k2;have q4:=CK k4;rw [bQ] at q1;rw [Afw] at q3;rw [show lD (BL l p c cp col) (.v 0)=l by simp [lD,BL]] at q2;rw [show lD (BL l p c cp col) (.v 1)=p by simp [lD,BL]] at q4;obtain ⟨s1,s2⟩:=Nx hl hp hz;refine Calls.mono (AhZ (λx hx=>(hl.rsm hs hx).mono (by omega)) (λx hx=>(hp.rsm hs hx).mono (by omega)) ((DL s1 hs).mono (by omega)) ((DL s2 hs).mono (by omega)) hn he hm0 q1 q2 q3 q4) λe w' ⟨v,e1,e2,e3⟩=>⟨v,e1,@BA.rv (Ab (BL l p c cp col)) ρ M w' _ _ (Eh (e:=.v 2) ?_),e3⟩
   rw [show lD (BL l p c cp col) (.v 2)=NX (((l.getD col 0 / p.getD col 0).den:Int):Rat) l ((l.getD col 0 / p.getD col 0).num:Rat) p by simp [lD,BL]];exact e2
  ·cases e
 ·cases e
theorem lN(hl:Ds s l)(hp:Ds s p)(hs:1≤s)(h2:s≤20000)(hz:p.getD col 0≠0)(hn:l.length≤6)(hc:AQ c 40000000):@PE.ok (Ab (BL l p c cp col)) (pLw col):=by
 intro xs r e;refine ⟨λ_ _=>by simp [pLw,go_sem],λρ M w vs hm0 hv=>?_⟩;unfold pLw at e;dsimp only at e;split at e
 ·rename_i a _
  split at e
  ·rename_i hca
   cases e
   obtain ⟨n1,e1⟩:=EK hca;obtain ⟨va,_,rfl,k1,vb,_,rfl,k2,k5⟩:=hv;have k5:_=[]:=k5;subst k5;have q1:=(Bj e1 (@BA.rv (Ab (BL l p c cp col)) ρ M w _ _ k1)).1;have q2:=CK k2;obtain ⟨s1,s2⟩:=Nx hl hp hz;have hq:qD (BL l p c cp col) (.ap 46 (.v 0) (PH col))=c / (((l.getD col 0 / p.getD col 0).den:Int):Rat):=by
    have:qD (BL l p c cp col) (.ap 46 (.v 0) (PH col))=qD (BL l p c cp col) (.v 0) / qD (BL l p c cp col) (PH col):=by simp only [qD]
    rw [this,Tx,bQ]
   rw [hq] at q1;rw [show lD (BL l p c cp col) (.v 2)=NX (((l.getD col 0 / p.getD col 0).den:Int):Rat) l ((l.getD col 0 / p.getD col 0).num:Rat) p by simp [lD,BL]] at q2;have hfr:=(Lu hl hp s1 s2).frac (by omega);refine Calls.mono (AiD hfr (by omega) (by omega) ((hc.div (DL s1 hs)).mono (by omega)) (by rw [K5]; exact hn) (V:=BL l p c cp col) (q:=.v 2) (e:=.v 3) (by simp only [qD,BL]) (by simp [lD,BL]) hm0 q1 q2) λe w' ⟨v,e1,e2,e3⟩=>⟨v,e1,?_,e3⟩
   obtain ⟨cs,rfl,hcs⟩:=e2;refine ⟨cs,rfl,?_⟩;unfold AW at hcs ⊢;obtain ⟨x,y,e3,r1,r2⟩:=hcs;unfold AW at r2 ⊢;obtain ⟨x2,y2,e4,r3,r4⟩:=r2;exact ⟨x,y,e3,Ads rfl BP ρ M w' x r1,x2,y2,e4,JR rfl BP ρ M w' x2 r3,by unfold AW at r4 ⊢; exact r4⟩
  ·cases e
 ·cases e
theorem IE{V V':VL}:Rc (Ab V) (Ab V') [] []:=λρ ρ' M w cs r=>by
 unfold AW at r ⊢;exact r
theorem CS{V V':VL}{a a':AV}{l l':List AV}(h:Le V V' (a,a'))(h':Rc (Ab V) (Ab V') l l'):Rc (Ab V) (Ab V') (a :: l) (a' :: l'):=λρ ρ' M w cs r=>by
 unfold AW at r ⊢;obtain ⟨x,y,e,h1,h2⟩:=r;exact ⟨x,y,e,h ρ ρ' M w x h1,h' ρ ρ' M w y h2⟩
theorem H7{V V':VL}{q q' e e':CE}{n m:Nat}(h:qD V q=qD V' q')(hs:AQ (qD V' q') m)(hl:lD V e=lD V' e'){ρ ρ':Bi}{M:Nat→Prop}{w:World}{v:Value}(hv:@RV (Ab V) ρ M w (.agg [aQ q n,aL e]) v):@RV (Ab V') ρ' M w (.agg [aQ q' m,aL e']) v:=by
 obtain ⟨cs,rfl,hc⟩:=hv;exact ⟨cs,rfl,CS (DN h hs) (CS (JR hl) IE) ρ ρ' M w _ hc⟩
theorem iT(hl:Ds s l)(hp:Ds s p)(hs:1≤s)(h2:s≤20000)(hz:p.getD col 0≠0)(hn:l.length≤6)(he:p.length=l.length)(hcol:col<l.length)(hc:AQ c 40000000)(hcp:AQ cp 40000000){V:VL}{q e:CE}(hq:qD V q=(EN c l p col).1)(hle:lD V e=(EN c l p col).2){ρ:Bi}{M:Nat→Prop}{w:World}{vl vp vc:Value}(hm0:∀ b,M b→b<w.heap.size)
  (hvl:@BA (Ab (BL l p c cp col)) ρ M w (.agg [aQ (.v 0) 40000000,aL (.v 0)]) vl) (hvp:@BA (Ab (BL l p c cp col)) ρ M w (.agg [aQ (.v 1) 40000000,aL (.v 1)]) vp) (hvc:vc = .int .i64 (col:Int)) :
  Calls Tryz.prog 70 #[vl,vp,vc] w λen w'=>∃ u,en = .returned u ∧ @RV (Ab V) ρ M w' (.agg [aQ q 50080001,aL e]) u∧Below w.heap.size w w':=by
 have hrl:∀ x∈l,AQ x 2000001:=λx hx=>(hl.rsm hs hx).mono (by omega)
 have hrp:∀ x∈p,AQ x 2000001:=λx hx=>(hp.rsm hs hx).mono (by omega)
 have hF:∀ z,(∀ x∈tZ col z,decide (qD (BL l p c cp col) x.1=0)=x.2)→Bq (BL l p c cp col) (nP l.length col z):=λz hz=>Ej (λ_=>rfl) (λx hx=>by
  simp only [nP,List.mem_cons,List.not_mem_nil,or_false] at hx
  rcases hx with rfl | rfl
  ·simp [lD,BL]
  ·simp [lD,BL,he]) (λx hx=>by
  simp only [nP,List.mem_cons,List.not_mem_nil,or_false] at hx
  rcases hx with rfl | rfl
  ·simpa [lD,BL] using hrl
  ·simpa [lD,BL] using hrp) hz (λx hx=>by cases hx)
 have hrun:=List.all_eq_true.1 (List.all_eq_true.1 Acv col (List.mem_range.2 (by omega))) l.length (List.mem_range.2 (by omega));rw [Bool.or_eq_true] at hrun;have hrun:=hrun.resolve_left λh=>by
  have:=Nat.le_of_ble_eq_true h;omega
 rw [Bool.and_eq_true] at hrun;have hv:@CH (Ab (BL l p c cp col)) BP M w (Aah col) [vl,vp,vc]:=⟨vl,_,rfl,H7 rfl (by rw [Tx]; exact hc) rfl hvl,vp,_,rfl,H7 rfl (by simp only [qD,BL]; exact hcp) rfl hvp,vc,_,rfl,hvc,rfl⟩;have e0:qD (BL l p c cp col) (GU 0 col)=l.getD col 0:=Xo 0 (by decide) col;have e1:qD (BL l p c cp col) (GU 1 col)=p.getD col 0:=Xo 1 (by decide) col;have hsz:=TP hl hp hs hz hc
 by_cases hx:l.getD col 0=0
 ·have hF:=hF true λx hx'=>by
   simp only [tZ,List.mem_singleton] at hx';subst hx';rw [e0];exact decide_eq_true hx
  have hw:EN c l p col=(c,l):=by
   unfold EN;rw [if_pos hx]
  rw [hw] at hq hle hsz;refine Calls.mono (WD hF (by
   intro e he';simp only [List.mem_cons,List.not_mem_nil,or_false] at he'
   rcases he' with rfl | rfl | rfl
   ·exact fJ hl hp hs h2 hz hn he
   ·exact lN hl hp hs h2 hz hn hc
   ·exact I1 hF) (OO hrun.1) hm0 hv) λen w' ⟨u,e1,e2,e3⟩=>⟨u,e1,H7 (by rw [hq,Tx]) (by rw [hq]; exact hc.mono (by omega)) (by rw [hle]; simp [lD,BL]) e2,e3⟩
 ·have hd:decide (qD (BL l p c cp col) (PH col)=0)=false:=by
   rw [bQ];exact decide_eq_false (J4 _)
  have hF:=hF false λx hx'=>by
   simp only [tZ,List.mem_cons,List.not_mem_nil,or_false] at hx'
   rcases hx' with rfl | rfl | rfl
   ·rw [e0]
    exact decide_eq_false hx
   ·rw [e1]
    exact decide_eq_false hz
   ·exact hd
  have hw:EN c l p col=(qD (BL l p c cp col) (.v 2),lD (BL l p c cp col) (.v 3)):=by
   unfold EN;rw [if_neg hx];simp [qD,lD,BL]
  rw [hw] at hq hle hsz;refine Calls.mono (WD hF (by
   intro e he';simp only [List.mem_cons,List.not_mem_nil,or_false] at he'
   rcases he' with rfl | rfl | rfl
   ·exact fJ hl hp hs h2 hz hn he
   ·exact lN hl hp hs h2 hz hn hc
   ·exact I1 hF) (OO hrun.2) hm0 hv) λen w' ⟨u,e1,e2,e3⟩=>⟨u,e1,H7 (by rw [hq]) (by rw [hq]; exact hsz.mono (by omega)) (by rw [hle]) e2,e3⟩
end
noncomputable def eJ(T:Tb)(c:Code)(n0:Nat)(s:Fm)(Lf:Fm→List (Nat × Nat))(B:List Nat)(d:Rd)(s':Fm):Bool:=match DC T AK 300 c s with
 | some (.fall s1)=>Oh n0 Lf B d s1 s'
 | _=>false
section
variable {A : Nat → Prop} {W0 : World} {ρ0 : Bi} {M0 : Nat → Prop} {H0 : HP} {n0 : Nat} {s s' : Fm} {ρ : Bi} {M : Nat → Prop} {a : Act} {w : World} {Q : Exit → Act → World → Prop} {V V' : VL} {d : Rd} {B : List Nat} {Lf : Fm → List (Nat × Nat)}
theorem kI{F:Fa}{l:List PE}{C:BC}{c:Code}(hA:∀ b,W0.heap.size≤b→A b)(hB:HB H0 ρ0 W0)(hF:Bq V F)(hl:∀ e∈l,@PE.ok (Ab V) e)(hC:@BZ (Ab V) C)(hd:KT (Ab V) (Ab V') d)(ho:d.out=[])(hr0:∀ o p,ρ0 o=some p→o<n0)
  (h:eJ (TT F l C) c n0 s Lf B d s'=true) (hS:@FS (Ab V) A W0 ρ0 M0 H0 n0 s ρ M a w) (hQ:∀ ρ M a w,@FS (Ab V') A W0 ρ0 M0 H0 n0 s' ρ M a w→Q .normal a w):c.wp Tryz.prog Q a w:=by
 unfold eJ at h;split at h
 ·rename_i s1 hr
  refine (@FK (Ab V) _ _ _ _).1 ((@EP (Ab V) _ _ (@Fo.mk (Ab V) _ (EC hF hl) (F7 hF) hC) Bp 300).1 false Oy c s (.fall s1) hr J7 none (λ_=>rfl) (@Eu (Ab V)) (@aC (Ab V) _) A W0 ρ0 M0 H0 n0 ρ M a w Q hA hB trivial hS λρ1 M1 a1 w1 hS1=>?_);obtain ⟨ρ2,M2,hS2⟩:=JC hd ho hr0 h hS1;exact hQ ρ2 M2 a1 w1 hS2
 ·cases h
end
abbrev Ln:=Rat × List Rat
def Cd(L:List Ln)(k:Nat):Ln:=L.getD k (0,[])
def KP(L:List Ln)(col:Nat):Nat→Nat→Nat
 | 0,i=>i
 | n+1,i=>if (Cd L i).2.getD col 0=0 then KP L col n (i+1) else i
def Ce(L:List Ln)(t col:Nat):Nat:=KP L col (L.length - t) t
def Fy(L:List Ln)(t at_ col:Nat):List Ln:=(List.range L.length).map λk=>if k=t then Cd L at_ else if k=at_ then (-(Cd L t).1,(Cd L t).2) else if at_<k then EN (Cd L k).1 (Cd L k).2 (Cd L at_).2 col else Cd L k
def Bm(L:List Ln):Nat→List Nat × List Ln
 | 0=>([],L)
 | n+1=>let g:=Bm L n
  if Ce g.2 g.1.length n<g.2.length then (g.1 ++ [n],Fy g.2 g.1.length (Ce g.2 g.1.length n) n) else g
noncomputable def kT:Func:=Tryz.f42
noncomputable def iK:=DG kT
noncomputable def vJ:=lpB iK []
noncomputable def Ace:List VT:=lpK iK []
def qL(k:Nat):AV:=aQ (.v k) 40000000
def sQ(k:Nat):List AV:=[qL k,aL (.v k)]
def Bx(L0:List Ln)(g:List Nat × List Ln)(col C:Nat):VL:=⟨λk=>if k=20 then (col:Int) else if k=21 then (C:Int) else if 1≤k∧k≤6 then ((g.1.getD (k - 1) 0:Nat):Int) else 0,
 λk=>if 100≤k then (Cd L0 (k - 100)).2 else if 10≤k then (EN (Cd g.2 (k - 10)).1 (Cd g.2 (k - 10)).2 (Cd g.2 (Ce g.2 g.1.length col)).2 col).2 else (Cd g.2 k).2,
 λk=>if 100≤k then (Cd L0 (k - 100)).1 else if 10≤k then (EN (Cd g.2 (k - 10)).1 (Cd g.2 (k - 10)).2 (Cd g.2 (Ce g.2 g.1.length col)).2 col).1 else (Cd g.2 k).1,λ_=>[]⟩
def elD(k:Nat):CE:=.ap 30 (.v k) (.i 20 0)
def Aim(R t a:Nat):List (CE × Bool):=((List.range (a - t)).map λi=>(elD (t+i),true)) ++ (if a<R then [(elD a,false)] else [])
def Add(R:Nat):List (CE × Nat × Int):=(List.range R).map λk=>(.v k,21,0)
def AaT(R:Nat):List (CE × Nat):=(List.range R).map λk=>(.v k,20000)
def Acm(R t a:Nat):Fa:=⟨[(20,21,-1),(0,20,0)],Add R,AaT R,Aim R t a,[],[],[]⟩
def XV(R:Nat):Fa:=⟨[(21,20,0),(0,20,0)],Add R,AaT R,[],[],[],[]⟩
noncomputable def pWo(R a:Nat):PE:=⟨70,λxs=>match xs with
 | [.agg [x,.ext 1 false (.ap 51 (.v k) _)],.agg [y,.ext 1 false (.ap 51 (.v k2) _)],.ext 1 false (.ap 50 (.ap 1 (.v 20) (.lit 0)) _)]=>if EZ x (qL k) && EZ y (qL a) && Nat.beq k2 a && Nat.blt k R && Nat.blt a R then some (.agg [aQ (.v (10+k)) 50080001,aL (.v (10+k))]) else none
 | _=>none⟩
def Sj(R:Nat):List AV:=[.sl 16 0 R none,aI 21 0]
def L4(cs:List AV):Option OB:=some ⟨78,5,cs,true,none⟩
def EJ(R:Nat):HP:=[(16,L4 ((List.range R).flatMap λk=>sQ (100+k)))]
noncomputable def uO(F:Fa)(R a:Nat):Tb:=TT F [pWo R a] Oy
def Aih(t:Nat):AV:=if t=0 then .val (.slice none 0 0) else .sl 17 0 t none
def TN(t:Nat):Option OB:=some ⟨3,1,(List.range t).map λi=>aI (1+i) 0,true,none⟩
def AiB(R t:Nat):Fm:=Z6 63 [(0,.sl 16 0 R none),(5,Aih t),(10,aI 21 0),(11,aI 20 0)]
 ((16,L4 ((List.range R).flatMap sQ)) :: (if t=0 then [] else [(17,TN t)])) 100
def Tn(R t:Nat):Fm:={ AiB R t with wr:=[16] }
def yD:Fa:=⟨[],[],[],[],[],[],[]⟩
noncomputable def cZ(R:Nat):=DM (uO yD R R) AK 300 300 (.run iK) [] ⟨Sj R ++ List.replicate 61 (.val undef),EJ R,17,[16]⟩
noncomputable def zI(R t:Nat):=DM (uO (XV R) R R) AK 300 300 (.run vJ) [] (Tn R t)
def yX(s:Fm):List (Nat × Nat):=match (s.tm[5]? : Option AV) with
 | some (.sl d _ _ _)=>[(d,17)]
 | _=>[]
def ZL:AV:=.val (.slice none 0 0)
def Xi(k:Nat):List (AV × AV):=[(qL k,qL k),(aL (.v k),aL (.v k))]
def AaQ(R:Nat):List (AV × AV):=((List.range R).flatMap λk=>[(qL (100+k),qL k),(aL (.v (100+k)),aL (.v k))]) ++ [(aI 21 0,aI 21 0),(iv 0,aI 20 0),(ZL,ZL)]
def Afo(t:Nat):List (AV × AV):=(List.range t).map λi=>(aI (1+i) 0,aI (1+i) 0)
def yA(t a k:Nat):List (AV × AV):=if k=t then [(qL a,qL t),(aL (.v a),aL (.v t))] else if k=a then [(aQ (.ap 34 (.v t) (.lit 0)) 40000000,qL k),(aL (.v t),aL (.v k))] else if a<k then [(aQ (.v (10+k)) 50080001,qL k),(aL (.v (10+k)),aL (.v k))] else Xi k
def bU(R t a:Nat):List (AV × AV):=(if a<R then ((List.range R).flatMap (yA t a)) ++ [(aI 20 0,aI (1+t) 0)] else (List.range R).flatMap Xi) ++ Afo t ++ [(aI 21 0,aI 21 0),(aI 20 1,aI 20 0),(ZL,ZL)]
def AgU(R:Nat):Rd:=⟨AaQ R,[],[],[],[],100⟩
def Agz(R t a:Nat):Rd:=⟨bU R t a,[],[],[],[],100⟩
noncomputable def AeQ(R:Nat):Bool:=Oh 17 yX [16] (AgU R) (MG (cZ R)) (Tn R 0)
def gI(R t a:Nat):Nat:=if a<R then t+1 else t
noncomputable def gE(R t a:Nat):Bool:=eJ (uO (Acm R t a) R a) vJ 17 (Tn R t) yX [16] (Agz R t a) (Tn R (gI R t a))
noncomputable def AaO(R t:Nat):=DM (uO (XV R) R R) AK 300 300 (.at_ (.ext 0)) Ace (MG (zI R t))
def AdF(t:Nat):AV:=if t=0 then ZL else .sl 0 0 t none
def KF(R:Nat):List AV:=(List.range R).flatMap sQ
def AcO(R t:Nat):HP:=if t=0 then [(16,L4 (KF R))] else [(0,TN t),(16,L4 (KF R))]
def sC(R:Nat)(b:Option OB):Bool:=match b with
 | some ⟨T,5,cs,true,none⟩=>Nat.beq T 78 && GS cs (KF R)
 | _=>false
def Aa5(t:Nat)(b:Option OB):Bool:=match b with
 | some ⟨T,1,cs,true,none⟩=>Nat.beq T 3 && GS cs ((List.range t).map λi=>aI (1+i) 0)
 | _=>false
noncomputable def dA(R t:Nat)(p:Option (AV × HP)):Bool:=match t with
 | 0=>(match p with
  | some (.val (.slice none 0 0),[(16,b)])=>sC R b
  | _=>false)
 | t+1=>(match p with
  | some (.sl 0 0 n none,[(0,b),(16,c)])=>Nat.beq n (t+1) && Aa5 (t+1) b && sC R c
  | _=>false)
noncomputable def Aab(R t:Nat):Bool:=match zI R t,AaO R t with
 | some (.done (.ext 0) _),some (.done .ret s)=>dA R t (TU (EJ R) 17 0 kT s)
 | _,_=>false
noncomputable def dF(R:Nat):Bool:=AeQ R && (List.range (R+1)).all λt=>Aab R t && (List.range (R+1)).all λa=>Nat.blt a t || gE R t a
theorem AiP:∀ R,R<7→1≤R→dF R=true
 | 0,_,h=>absurd h (by decide)
 | 1,_,_=>by kernel_rfl
 | 2,_,_=>by kernel_rfl
 | 3,_,_=>by kernel_rfl
 | 4,_,_=>by kernel_rfl
 | 5,_,_=>by kernel_rfl
 | 6,_,_=>by kernel_rfl
theorem Agr:∀ R,R<7→1≤R→cZ R=some (.loop vJ Ace (MG (cZ R)))
 | 0,_,h=>absurd h (by decide)
 | 1,_,_=>by kernel_rfl
 | 2,_,_=>by kernel_rfl
 | 3,_,_=>by kernel_rfl
 | 4,_,_=>by kernel_rfl
 | 5,_,_=>by kernel_rfl
 | 6,_,_=>by kernel_rfl
theorem Agx:kT.body=some iK:=by kernel_rfl
theorem AeI:kT.ntmps=63:=by kernel_rfl
theorem MS(L:List Ln)(col:Nat):∀ n i,i≤KP L col n i∧KP L col n i≤i+n∧(∀ j,i≤j→j<KP L col n i→(Cd L j).2.getD col 0=0)∧(KP L col n i<i+n→(Cd L (KP L col n i)).2.getD col 0≠0)
 | 0,i=>⟨Nat.le_refl _,Nat.le_refl _,λj h1 h2=>absurd (Nat.lt_of_le_of_lt h1 h2) (Nat.lt_irrefl _),λh=>absurd h (Nat.lt_irrefl _)⟩
 | n+1,i=>by
  unfold KP;split
  ·rename_i h
   obtain ⟨h1,h2,h3,h4⟩:=MS L col n (i+1);refine ⟨by omega,by omega,λj a b=>?_,λa=>h4 (by omega)⟩
   by_cases e:j=i
   ·rw [e]; exact h
   ·exact h3 j (by omega) b
  ·rename_i h
   exact ⟨Nat.le_refl _,by omega,λj a b=>absurd (Nat.lt_of_le_of_lt a b) (Nat.lt_irrefl _),λ_=>h⟩
theorem DY{L:List Ln}{t col:Nat}(ht:t≤L.length):t≤Ce L t col∧Ce L t col≤L.length∧(∀ j,t≤j→j<Ce L t col→(Cd L j).2.getD col 0=0)∧(Ce L t col<L.length→(Cd L (Ce L t col)).2.getD col 0≠0):=by
 obtain ⟨h1,h2,h3,h4⟩:=MS L col (L.length - t) t;exact ⟨h1,by unfold Ce; omega,h3,λh=>h4 (by unfold Ce at h; omega)⟩
theorem Vq{L:List Ln}{t a col:Nat}:(Fy L t a col).length=L.length:=by simp [Fy]
theorem J8{L:List Ln}{t a col k:Nat}(hk:k<L.length):Cd (Fy L t a col) k=if k=t then Cd L a else if k=a then (-(Cd L t).1,(Cd L t).2) else if a<k then EN (Cd L k).1 (Cd L k).2 (Cd L a).2 col else Cd L k:=by
 unfold Cd Fy;rw [List.getD_eq_getElem?_getD,List.getElem?_map,List.getElem?_range hk];rfl
def RK(s:Nat):Nat→Nat
 | 0=>s
 | n+1=>2*RK s n+1
structure J9 (C s B:Nat) (x:Ln):Prop where
 len:x.2.length=C
 ints:Ds s x.2
 rsm:AQ x.1 B
theorem J9.mono{C s s' B B':Nat}{x:Ln}(h:J9 C s B x)(hs:s≤s')(hb:B≤B'):J9 C s' B' x:=⟨h.len,h.ints.mono hs,h.rsm.mono hb⟩
structure Nu (R C s B:Nat) (n:Nat) (g:List Nat × List Ln):Prop where
 tn:g.1.length≤n
 tR:g.1.length≤R
 lt:∀ x∈g.1,x<n
 len:g.2.length=R
 ln:∀ k,k<R→J9 C (RK s n) (B+n*60001) (Cd g.2 k)
theorem PM{s:Nat}(hs:s≤300):∀ n,n≤6→RK s n≤20000
 | 0,_=>by unfold RK; omega
 | 1,_=>by simp only [RK]; omega
 | 2,_=>by simp only [RK]; omega
 | 3,_=>by simp only [RK]; omega
 | 4,_=>by simp only [RK]; omega
 | 5,_=>by simp only [RK]; omega
 | 6,_=>by simp only [RK]; omega
theorem RX{s:Nat}(hs:1≤s):∀ n,1≤RK s n
 | 0=>hs
 | n+1=>by unfold RK; omega
theorem Ls{L0:List Ln}{C s B:Nat}(hs:s≤300)(hs1:1≤s)(hL:∀ k,k<L0.length→J9 C s B (Cd L0 k)):∀ n,n≤6→Nu L0.length C s B n (Bm L0 n)
 | 0,_=>⟨Nat.le_refl _,Nat.zero_le _,λx hx=>(by cases hx),rfl,λk hk=>by
  have:=hL k hk;simpa [RK,Bm] using this⟩
 | n+1,hn=>by
  have ih:=Ls hs hs1 hL n (by omega);have hsz:=PM hs n (by omega);have hs2:=RX hs1 n;have up:∀ x,J9 C (RK s n) (B+n*60001) x→J9 C (RK s (n+1)) (B+(n+1)*60001) x:=λx h=>h.mono (by show RK s n≤2*RK s n+1; omega) (by omega)
  unfold Bm;generalize hg:Bm L0 n=g at ih;dsimp only;split
  ·rename_i ha
   obtain ⟨p1,p2,p3,p4⟩:=DY (L:=g.2) (t:=g.1.length) (col:=n) (by rw [ih.len]; exact ih.tR);have hz:=p4 ha;have hlA:=ih.ln _ (by rw [← ih.len]; exact ha);have htR:g.1.length<L0.length:=by have:=ih.len; omega
   refine ⟨by simp; exact ih.tn,by simp; omega,λx hx=>?_,by rw [Vq]; exact ih.len,λk hk=>?_⟩
   ·rcases List.mem_append.1 hx with hx | hx
    ·exact Nat.lt_succ_of_lt (ih.lt x hx)
    ·rw [List.mem_singleton] at hx
     omega
   ·show J9 _ _ _ (Cd (Fy g.2 _ _ _) k)
    rw [J8 (by rw [ih.len]; exact hk)];split
    ·exact up _ hlA
    ·split
     ·have:=ih.ln _ htR
      exact up _ ⟨this.len,this.ints,this.rsm.neg⟩
     ·split
      ·have hk':=ih.ln k hk
       exact ⟨by rw [aP]; exact hk'.len,ZP hk'.ints hlA.ints hs2 hz,(TP hk'.ints hlA.ints hs2 hz hk'.rsm).mono (by omega)⟩
      ·exact up _ (ih.ln k hk)
  ·exact ⟨Nat.le_succ_of_le ih.tn,ih.tR,λx hx=>Nat.lt_succ_of_lt (ih.lt x hx),ih.len,λk hk=>up _ (ih.ln k hk)⟩
section
variable {L0 : List Ln} {g : List Nat × List Ln} {n C : Nat}
theorem Ei{k:Nat}(hk:k<10):qD (Bx L0 g n C) (.v k)=(Cd g.2 k).1:=by
 simp only [qD,Bx];rw [if_neg (by omega),if_neg (by omega)]
theorem E0{k:Nat}(hk:k<10):lD (Bx L0 g n C) (.v k)=(Cd g.2 k).2:=by
 simp only [lD,Bx];rw [if_neg (by omega),if_neg (by omega)]
theorem eL{k:Nat}(hk:k<90):qD (Bx L0 g n C) (.v (10+k))=(EN (Cd g.2 k).1 (Cd g.2 k).2 (Cd g.2 (Ce g.2 g.1.length n)).2 n).1:=by
 simp only [qD,Bx];rw [if_neg (by omega),if_pos (by omega),show 10+k - 10=k by omega]
theorem mK{k:Nat}(hk:k<90):lD (Bx L0 g n C) (.v (10+k))=(EN (Cd g.2 k).1 (Cd g.2 k).2 (Cd g.2 (Ce g.2 g.1.length n)).2 n).2:=by
 simp only [lD,Bx];rw [if_neg (by omega),if_pos (by omega),show 10+k - 10=k by omega]
theorem jK{k:Nat}:qD (Bx L0 g n C) (.v (100+k))=(Cd L0 k).1:=by
 simp only [qD,Bx];rw [if_pos (by omega),show 100+k - 100=k by omega]
theorem aT{k:Nat}:lD (Bx L0 g n C) (.v (100+k))=(Cd L0 k).2:=by
 simp only [lD,Bx];rw [if_pos (by omega),show 100+k - 100=k by omega]
theorem mN{k:Nat}(hk:k<10):qD (Bx L0 g n C) (elD k)=(Cd g.2 k).2.getD n 0:=by
 unfold elD;simp only [qD];rw [E0 hk];simp [zD,Bx]
theorem XB{i:Nat}(hi:i<6):(Bx L0 g n C).z (1+i)=((g.1.getD i 0:Nat):Int):=by
 simp only [Bx];rw [if_neg (by omega),if_neg (by omega),if_pos (by omega),show 1+i - 1=i by omega]
variable {R s B : Nat}
theorem W6(h:Nu R C s B n g)(hn:n≤6)(hC:C≤6)(k:Nat) : -1152921504606846976≤(Bx L0 g n C).z k∧(Bx L0 g n C).z k≤1152921504606846976:=by
 simp only [Bx];split
 ·omega
 ·split
  ·omega
  ·split
   ·have:g.1.getD (k - 1) 0≤6:=by
     by_cases hk:k - 1<g.1.length
     ·rw [List.getD_eq_getElem?_getD,List.getElem?_eq_getElem hk]
      have:=h.lt _ (List.getElem_mem hk);simp only [Option.getD_some];omega
     ·rw [List.getD_eq_getElem?_getD,List.getElem?_eq_none (by omega)]
      simp
    omega
   ·omega
theorem cW(h:Nu R C s B n g)(hR:R≤6):∀ x∈Add R,((lD (Bx L0 g n C) x.1).length:Int)=(Bx L0 g n C).z x.2.1+x.2.2:=λx hx=>by
 obtain ⟨k,hk,rfl⟩:=List.mem_map.1 hx;have hk:=List.mem_range.1 hk;show ((lD _ (.v k)).length:Int)=(Bx L0 g n C).z 21+0;rw [E0 (by omega),(h.ln k hk).len];simp [Bx]
theorem yL(h:Nu R C s B n g)(hs:s≤300)(hs1:1≤s)(hR:R≤6)(hn:n≤6):∀ x∈AaT R,∀ y∈lD (Bx L0 g n C) x.1,AQ y x.2:=λx hx y hy=>by
 obtain ⟨k,hk,rfl⟩:=List.mem_map.1 hx;have hk:=List.mem_range.1 hk;have hy:y∈lD (Bx L0 g n C) (.v k):=hy;rw [E0 (by omega)] at hy;exact ((h.ln k hk).ints.rsm (RX hs1 n) hy).mono (PM hs n hn)
theorem Ags(h:Nu R C s B n g)(hs:s≤300)(hs1:1≤s)(hR:R≤6)(hC:C≤6)(hn:n<C):Bq (Bx L0 g n C) (Acm R g.1.length (Ce g.2 g.1.length n)):=by
 obtain ⟨p1,p2,p3,p4⟩:=DY (L:=g.2) (t:=g.1.length) (col:=n) (by rw [h.len]; exact h.tR);have hl:=h.len;refine ⟨rfl,W6 h (by omega) hC,λx hx=>?_,cW h hR,yL h hs hs1 hR (by omega),λx hx=>?_,λx hx=>(by cases hx),λx hx=>(by cases hx),λx hx=>(by cases hx)⟩
 ·simp only [Acm,List.mem_cons,List.not_mem_nil,or_false] at hx
  rcases hx with rfl | rfl
  ·simp [Bx]; omega
  ·simp [Bx]
 ·rcases List.mem_append.1 hx with hx | hx
  ·obtain ⟨i,hi,rfl⟩:=List.mem_map.1 hx
   have hi:=List.mem_range.1 hi;show decide (qD _ (elD (g.1.length+i))=0)=true;rw [mN (by omega)];exact decide_eq_true (p3 _ (by omega) (by omega))
  ·split at hx
   ·rename_i ha
    rw [List.mem_singleton] at hx;subst hx;show decide (qD _ (elD _)=0)=false;rw [mN (by omega)];exact decide_eq_false (p4 (by omega))
   ·cases hx
theorem AfI(h:Nu R C s B n g)(hs:s≤300)(hs1:1≤s)(hR:R≤6)(hC:C≤6)(hn:n≤C)(hx:C≤n):Bq (Bx L0 g n C) (XV R):=by
 refine ⟨rfl,W6 h (by omega) hC,λx hx=>?_,cW h hR,yL h hs hs1 hR (by omega),λx hx=>(by cases hx),λx hx=>(by cases hx),λx hx=>(by cases hx),λx hx=>(by cases hx)⟩;simp only [XV,List.mem_cons,List.not_mem_nil,or_false] at hx
 rcases hx with rfl | rfl
 ·simp [Bx]; omega
 ·simp [Bx]
end
theorem FS.wr'[Cc]{A:Nat→Prop}{W0:World}{ρ0:Bi}{M0:Nat→Prop}{H0:HP}{n0:Nat}{s:Fm}{ρ:Bi}{M:Nat→Prop}{a:Act}{w:World}(l:List Nat)(hl:∀ x∈s.wr,x∈l)(h:FS A W0 ρ0 M0 H0 n0 s ρ M a w):FS A W0 ρ0 M0 H0 n0 { s with wr:=l } ρ M a w:=
 ⟨h.size,h.defers,h.slots,h.heap,h.dom,h.nx,h.bnd,h.fr,h.tr,h.sup,h.mon,h.old,λo ho hw=>h.kp o ho λx hx=>hw x (hl x hx)⟩
section
variable {L0 : List Ln} {g : List Nat × List Ln} {n C R s B : Nat}
theorem Aa6(h:Nu R C s B n g)(hs:s≤300)(hs1:1≤s)(hB:B≤39000000)(hR:R≤6)(hC:C≤6)(hn:n<C):@PE.ok (Ab (Bx L0 g n C)) (pWo R (Ce g.2 g.1.length n)):=by
 intro xs r e;refine ⟨λ_ _=>by simp [pWo,go_sem],λρ M w vs hm0 hv=>?_⟩;unfold pWo at e;dsimp only at e;split at e
 ·rename_i x k d1 y k2 d2 d3
  split at e
  ·rename_i hc
   simp only [Bool.and_eq_true] at hc;obtain ⟨⟨⟨⟨c1,c2⟩,c3⟩,c4⟩,c5⟩:=hc
   cases e
   have c1:=FE c1;have c2:=FE c2;have c3:=Nat.eq_of_beq_eq_true c3;have c4:k<R:=Nat.le_of_ble_eq_true c4;have c5:Ce g.2 g.1.length n<R:=Nat.le_of_ble_eq_true c5;subst c1;subst c2;subst c3;obtain ⟨va,_,rfl,k1,vb,_,rfl,k2,vc,_,rfl,k3,k5⟩:=hv;have k5:_=[]:=k5;subst k5;obtain ⟨p1,p2,p3,p4⟩:=DY (L:=g.2) (t:=g.1.length) (col:=n) (by rw [h.len]; exact h.tR);have hz:=p4 (by rw [h.len]; exact c5);have hk:=h.ln k c4;have ha:=h.ln _ c5;have hb:B+n*60001≤40000000:=by
     omega
   have hvc:vc = .int .i64 (n:Int):=by
    have:=BM (V:=Bx L0 g n C) (F:=⟨[],[],[],[],[],[],[]⟩) ⟨rfl,W6 h (by omega) hC,λ_ h=>(by cases h),λ_ h=>(by cases h),λ_ h=>(by cases h),λ_ h=>(by cases h),λ_ h=>(by cases h),λ_ h=>(by cases h),λ_ h=>(by cases h)⟩ (a:=.ext 1 false (.ap 50 (.ap 1 (.v 20) (.lit 0)) d3)) rfl k3;rw [this];simp [iD,Bx]
   refine iT (c:=(Cd g.2 k).1) (cp:=(Cd g.2 (Ce g.2 g.1.length n)).1) (s:=RK s n) hk.ints ha.ints (RX hs1 n) (PM hs n (by omega)) hz (by rw [hk.len]; omega) (by rw [hk.len,ha.len]) (by rw [hk.len]; exact hn) (hk.rsm.mono hb) (ha.rsm.mono hb) (eL (by omega)) (mK (by omega)) hm0 ?_ ?_ hvc
   ·exact H7 (V:=Bx L0 g n C) (q:=.v k) (e:=.v k) (by rw [Ei (by omega),Tx]) (by rw [Tx]; exact hk.rsm.mono hb) (by rw [E0 (by omega)]; simp [lD,BL]) k1
   ·exact H7 (V:=Bx L0 g n C) (q:=.v (Ce g.2 g.1.length n)) (e:=.v (Ce g.2 g.1.length n)) (by rw [Ei (by omega)]; simp only [qD,BL]) (by simp only [qD,BL]; exact ha.rsm.mono hb) (by rw [E0 (by omega)]; simp [lD,BL]) k2
  ·cases e
 ·cases e
theorem Kk(L:List Ln)(n:Nat):Bm L (n+1)=if Ce (Bm L n).2 (Bm L n).1.length n<(Bm L n).2.length then ((Bm L n).1 ++ [n],Fy (Bm L n).2 (Bm L n).1.length (Ce (Bm L n).2 (Bm L n).1.length n) n) else Bm L n:=by
 rw [Bm]
theorem AbU(hL:∀ k,k<R→J9 C s B (Cd L0 k))(hB:B≤39000000)(hR:R≤6):∀ x∈AaQ R,Le (Bx L0 ([],L0) 0 C) (Bx L0 ([],L0) 0 C) x:=λx hx=>by
 rcases List.mem_append.1 hx with hx | hx
 ·obtain ⟨k,hk,hx⟩:=List.mem_flatMap.1 hx
  have hk:=List.mem_range.1 hk;simp only [List.mem_cons,List.not_mem_nil,or_false] at hx
  rcases hx with rfl | rfl
  ·refine DN ?_ ?_
   ·rw [jK,Ei (by omega)]
   ·rw [Ei (by omega)]
    exact (hL k hk).rsm.mono (by omega)
  ·refine JR ?_
   rw [aT,E0 (by omega)]
 ·simp only [List.mem_cons,List.not_mem_nil,or_false] at hx
  rcases hx with rfl | rfl | rfl
  ·exact S0 rfl
  ·exact Afa (by simp [iD,Bx])
  ·exact JE _ trivial
theorem eC{g':List Nat × List Ln}{n' b:Nat}{k:Nat}(hk:k<10)(he:Cd g'.2 k=Cd g.2 k)(hb:b≤40000000)(hr:AQ (Cd g.2 k).1 b):∀ x∈Xi k,Le (Bx L0 g n C) (Bx L0 g' n' C) x:=λx hx=>by
 simp only [Xi,List.mem_cons,List.not_mem_nil,or_false] at hx
 rcases hx with rfl | rfl
 ·refine DN ?_ ?_
  ·rw [Ei hk,Ei hk,he]
  ·rw [Ei hk,he]
   exact hr.mono hb
 ·refine JR ?_
  rw [E0 hk,E0 hk,he]
theorem Aed(h:Nu R C s B n g)(h':Nu R C s B (n+1) (Bm L0 (n+1)))(hg:g=Bm L0 n)(hB:B≤39000000)(hR:R≤6)(hn:n<6):∀ x∈bU R g.1.length (Ce g.2 g.1.length n),Le (Bx L0 g n C) (Bx L0 (Bm L0 (n+1)) (n+1) C) x:=λx hx=>by
 have hb:B+n*60001≤40000000:=by
  clear hx;omega
 have hb':B+(n+1)*60001≤40000000:=Nat.le_trans (Nat.add_le_add hB (Nat.mul_le_mul_right 60001 (show n+1≤6 from hn))) (by decide);have hlen:=h.len;have hd:Bm L0 (n+1)=if Ce g.2 g.1.length n<g.2.length then (g.1 ++ [n],Fy g.2 g.1.length (Ce g.2 g.1.length n) n) else g:=by
  rw [hg];exact Kk L0 n
 have pre:∀ i,i<g.1.length→(Bm L0 (n+1)).1.getD i 0=g.1.getD i 0:=λi hi=>by
  rw [hd];split
  ·show (g.1 ++ [n]).getD i 0=_
   rw [List.getD_eq_getElem?_getD,List.getElem?_append_left hi,← List.getD_eq_getElem?_getD]
  ·rfl
 unfold bU at hx
 rcases List.mem_append.1 hx with hx | hx
 ·rcases List.mem_append.1 hx with hx | hx
  ·split at hx
   ·rename_i ha
    rw [if_pos (by omega)] at hd
    rcases List.mem_append.1 hx with hx | hx
    ·obtain ⟨k,hk,hx⟩:=List.mem_flatMap.1 hx
     have hk:=List.mem_range.1 hk;have hs2:Cd (Bm L0 (n+1)).2 k=if k=g.1.length then Cd g.2 (Ce g.2 g.1.length n) else if k=Ce g.2 g.1.length n then (-(Cd g.2 g.1.length).1,(Cd g.2 g.1.length).2) else if Ce g.2 g.1.length n<k then EN (Cd g.2 k).1 (Cd g.2 k).2 (Cd g.2 (Ce g.2 g.1.length n)).2 n else Cd g.2 k:=by
      rw [hd];exact J8 (by omega)
     have hr:=(h'.ln k hk).rsm.mono hb';unfold yA at hx;split at hx
     ·rename_i e
      rw [if_pos e] at hs2;simp only [List.mem_cons,List.not_mem_nil,or_false] at hx;subst e
      rcases hx with rfl | rfl
      ·exact DN (by rw [Ei (by omega),Ei (by omega),hs2]) (by rw [Ei (by omega)]; exact hr)
      ·exact JR (by rw [E0 (by omega),E0 (by omega),hs2])
     ·rename_i e
      rw [if_neg e] at hs2;split at hx
      ·rename_i e2
       rw [if_pos e2] at hs2;simp only [List.mem_cons,List.not_mem_nil,or_false] at hx;have ht:g.1.length<10:=by have:=h.tR; omega
       rcases hx with rfl | rfl
       ·refine DN ?_ (by rw [Ei (by omega)]; exact hr)
        have:qD (Bx L0 g n C) (.ap 34 (.v g.1.length) (.lit 0)) = -qD (Bx L0 g n C) (.v g.1.length):=by simp only [qD]
        rw [this,Ei ht,Ei (by omega),hs2]
       ·exact JR (by rw [E0 ht,E0 (by omega),hs2])
      ·rename_i e2
       rw [if_neg e2] at hs2;split at hx
       ·rename_i e3
        rw [if_pos e3] at hs2;simp only [List.mem_cons,List.not_mem_nil,or_false] at hx
        rcases hx with rfl | rfl
        ·exact DN (by rw [eL (by omega),Ei (by omega),hs2]) (by rw [Ei (by omega)]; exact hr)
        ·exact JR (by rw [mK (by omega),E0 (by omega),hs2])
       ·rename_i e3
        rw [if_neg e3] at hs2;exact eC (by omega) hs2 hb (h.ln k hk).rsm x hx
    ·rw [List.mem_singleton] at hx
     subst hx;have htR:g.1.length<6:=by
      obtain ⟨p1,_⟩:=DY (L:=g.2) (t:=g.1.length) (col:=n) (by rw [h.len]; exact h.tR);omega
     refine S0 ?_;unfold iD;rw [XB htR,hd];simp [Bx]
   ·rename_i ha
    rw [if_neg (by omega)] at hd;obtain ⟨k,hk,hx⟩:=List.mem_flatMap.1 hx;have hk:=List.mem_range.1 hk;exact eC (by omega) (by rw [hd]) hb (h.ln k hk).rsm x hx
  ·obtain ⟨i,hi,rfl⟩:=List.mem_map.1 hx
   have hi:=List.mem_range.1 hi;have:g.1.length≤6:=by have:=h.tR; omega
   refine S0 ?_;unfold iD;rw [XB (by omega),XB (by omega),pre i hi]
 ·simp only [List.mem_cons,List.not_mem_nil,or_false] at hx
  rcases hx with rfl | rfl | rfl
  ·exact S0 (by simp [iD,Bx])
  ·exact S0 (by simp [iD,Bx])
  ·exact JE _ trivial
end
theorem Mv{R:Nat}{b:Option OB}(h:sC R b=true):b=L4 (KF R):=by
 unfold sC at h;split at h
 ·rw [Bool.and_eq_true] at h
  rw [Nat.eq_of_beq_eq_true h.1,DF h.2];rfl
 ·cases h
theorem V8{t:Nat}{b:Option OB}(h:Aa5 t b=true):b=TN t:=by
 unfold Aa5 at h;split at h
 ·rw [Bool.and_eq_true] at h
  rw [Nat.eq_of_beq_eq_true h.1,DF h.2];rfl
 ·cases h
theorem Sq{R t:Nat}{p:Option (AV × HP)}(h:dA R t p=true):p=some (AdF t,AcO R t):=by
 unfold dA at h;split at h
 ·split at h
  ·rw [Mv h]
   rfl
  ·cases h
 ·split at h
  ·simp only [Bool.and_eq_true] at h
   obtain ⟨⟨h1,h2⟩,h3⟩:=h;rw [Nat.eq_of_beq_eq_true h1,V8 h2,Mv h3];rfl
  ·cases h
theorem Aes{V:VL}{R:Nat}:@PE.ok (Ab V) (pWo R R):=λxs r e=>by
 unfold pWo at e;dsimp only at e;split at e
 ·split at e
  ·rename_i hc
   simp only [Bool.and_eq_true] at hc;have h:Nat.blt R R=true:=hc.2;have:=Nat.le_of_ble_eq_true h;omega
  ·cases e
 ·cases e
section
variable {L0 : List Ln} {C s B : Nat}
theorem Ah2(hR:L0.length≤6)(hR1:1≤L0.length)(hC:C≤6)(hs:s≤300)(hs1:1≤s)(hB:B≤39000000)(hL:∀ k,k<L0.length→J9 C s B (Cd L0 k)){ρ0:Bi}{M:Nat→Prop}{w:World}{vs:List Value}
  (h1:@CL (Ab (Bx L0 ([],L0) 0 C)) ρ0 M (@Dc ρ0 w (lk (EJ L0.length))) w 0 (lk (EJ L0.length))) (h2:@CL (Ab (Bx L0 (Bm L0 C) C C)) ρ0 M (@Dc ρ0 w (lk (EJ L0.length))) w 0 (lk (EJ L0.length))) (hd:∀ o p,ρ0 o=some p→o<17) (hv:@CH (Ab (Bx L0 ([],L0) 0 C)) ρ0 M w (Sj L0.length) vs) :
  Calls Tryz.prog 42 vs.toArray w λe w'=>∃ v,e = .returned v ∧ @BH (Ab (Bx L0 (Bm L0 C) C C)) ρ0 M (@Dc ρ0 w (lk (EJ L0.length))) w 0 (lk (EJ L0.length)) (AcO L0.length (Bm L0 C).1.length) (AdF (Bm L0 C).1.length) v w':=by
 have hok:=Ls hs hs1 hL;have hall:=AiP L0.length (by omega) hR1;unfold dF at hall;rw [Bool.and_eq_true] at hall;have hA:∀ b,w.heap.size≤b → @Dc ρ0 w (lk (EJ L0.length)) b:=λb hb=>.inl hb
 have hHB:HB (EJ L0.length) ρ0 w:=λx b g c e1 e2=>by
  obtain ⟨⟨hobj,_⟩,_⟩:=id h1;obtain ⟨g',c',arr,cs,k1,_,_,k4,_⟩:=hobj x b e1;rw [e2] at k1;have:g=g':=congrArg Prod.fst (Option.some.inj k1);rw [this];exact AI k4
 refine lI (n0:=17) (r:=AdF (Bm L0 C).1.length) (U:=AcO L0.length (Bm L0 C).1.length) Tryz.func42 Agx h1 h2 hd hv λa hS=>?_
 have hS:=@FS.wr' (Ab _) _ _ _ _ _ _ _ _ _ _ _ [16] (λx hx=>(by cases hx)) hS;have hF0:Bq (Bx L0 ([],L0) 0 C) yD:=⟨rfl,W6 (hok 0 (by decide)) (by decide) hC,λ_ h=>(by cases h),λ_ h=>(by cases h),λ_ h=>(by cases h),λ_ h=>(by cases h),λ_ h=>(by cases h),λ_ h=>(by cases h),λ_ h=>(by cases h)⟩;have hE:∀(V:VL),∀ e∈[pWo L0.length L0.length],@PE.ok (Ab V) e:=λV e he=>by
  rw [List.mem_singleton] at he;subst he;exact Aes
 have e63:kT.ntmps - (Sj L0.length).length=61:=by
  rw [AeI];rfl
 have hS:@FS (Ab (Bx L0 ([],L0) 0 C)) (@Dc ρ0 w (lk (EJ L0.length))) w ρ0 M (EJ L0.length) 17 ⟨Sj L0.length ++ List.replicate 61 (.val undef),EJ L0.length,17,[16]⟩ ρ0 M a w:=by
  rw [← e63];exact hS
 show holds _ [] a w (.run iK);refine II hA hF0 (hE _) (@DU (Ab _)) _ (Agr L0.length (by omega) hR1) hS λρ M' a w' hS=>?_
 obtain ⟨ρ,M',hS⟩:=JC (V':=Bx L0 ([],L0) 0 C) (XI (AbU hL hB hR) rfl rfl rfl) rfl hd hall.1 hS;refine Sc (λn:Nat=>C - n) (λn=>Bx L0 (Bm L0 n) n C) (λn=>n≤C) (λn=>Tn L0.length (Bm L0 n).1.length) ?_ 0 (Nat.zero_le _) hS;intro n hn ρ M' a w' hS;have hn:n≤C:=hn;have hg:=hok n (by omega);have htR:(Bm L0 n).1.length≤L0.length:=hg.tR;have hrow:=List.all_eq_true.1 hall.2 (Bm L0 n).1.length (List.mem_range.2 (by omega));rw [Bool.and_eq_true] at hrow
 by_cases hnC:n<C
 ·-- a round
  obtain ⟨p1,p2,p3,p4⟩:=DY (L:=(Bm L0 n).2) (t:=(Bm L0 n).1.length) (col:=n) (by rw [hg.len]; exact htR);rw [hg.len] at p2;have hF:=Ags (L0:=L0) hg hs hs1 hR hC hnC;have hb:=List.all_eq_true.1 hrow.2 (Ce (Bm L0 n).2 (Bm L0 n).1.length n) (List.mem_range.2 (by omega));rw [Bool.or_eq_true] at hb;have hb:gE L0.length (Bm L0 n).1.length (Ce (Bm L0 n).2 (Bm L0 n).1.length n)=true:=hb.resolve_left λh=>by
   have:=Nat.le_of_ble_eq_true h;omega
  have ht':gI L0.length (Bm L0 n).1.length (Ce (Bm L0 n).2 (Bm L0 n).1.length n)=(Bm L0 (n+1)).1.length:=by
   unfold gI;rw [Kk,hg.len];split
   ·simp
   ·rfl
  unfold gE at hb;rw [ht'] at hb;refine kI (V':=Bx L0 (Bm L0 (n+1)) (n+1) C) hA hHB hF (λe he=>by
   rw [List.mem_singleton] at he;subst he;exact Aa6 hg hs hs1 hB hR hC hnC) (@DU (Ab _)) (XI (Aed hg (hok (n+1) (by omega)) rfl hB hR (by omega)) rfl rfl rfl) rfl hd hb hS λρ M' a w' hS=>?_
  exact ⟨n+1,ρ,M',hnC,by show C - (n+1)<C - n; omega,hS⟩
 ·-- the end
  obtain rfl:n=C:=by omega
  have hF:=AfI (L0:=L0) hg hs hs1 hR hC (Nat.le_refl _) (Nat.le_refl _);have hbx:=hrow.1;unfold Aab at hbx;split at hbx
  ·rename_i s1 s2 e1 e2
   show holds _ [] a w' (.run vJ);refine II hA hF (hE _) (@DU (Ab _)) _ e1 hS λρ M' a w' hS=>?_
   show holds _ Ace a w' (.at_ (.ext 0));unfold AaO at e2;rw [e1] at e2;refine II hA hF (hE _) (@DU (Ab _)) _ e2 hS λρ M' a w' hS=>?_
   exact ⟨.inr rfl,_,ρ,M',hS,Sq hbx⟩
  ·cases hbx
end
def lnB:List (CE × CE)→List AV→Bool
 | [],cs=>cs.isEmpty
 | p :: l,cs=>match cs with
  | .ext 4 true (.ap 52 q (.lit n)) :: .ext 1 false (.ap 51 e (.lit 0)) :: r=>CE.beq q p.1 && CE.beq e p.2 && Nat.ble n.toNat 40000000 && lnB l r
  | _=>false
def lnO(p:CE × CE):List AV:=[aQ p.1 40000000,aL p.2]
def isI(c:AV)(C:Nat):Bool:=match Fu c with
 | some p=>Nat.beq p.1 0 && decide (p.2=(C:Int))
 | none=>false
def deC(R C:Nat)(ins outs:List (CE × CE))(pcs:List AV):BC:=λf xs H _ t0=>match xs,H with
 | [.sl o 0 n none,c],[(o',some ⟨T,5,cs,true,none⟩)]=>if Nat.beq f 42 && Nat.beq n R && Nat.beq o o' && isI c C && Nat.beq T 78 && lnB ins cs then
   some (match pcs with
    | []=>(ZL,[(o,L4 (outs.flatMap lnO))])
    | _ :: _=>(.sl t0 0 pcs.length none,[(t0,some ⟨3,1,pcs,true,none⟩),(o,L4 (outs.flatMap lnO))])) else none
 | _,_=>none
section
variable {V V' : VL}
theorem yK:∀{ins:List (CE × CE)}{cs:List AV}{k0:Nat},lnB ins cs=true→(∀(j:Nat)(p:CE × CE),ins[j]? = some p→qD V p.1=qD V' (.v (100+(k0+j)))∧AQ (qD V' (.v (100+(k0+j)))) 40000000∧lD V p.2=lD V' (.v (100+(k0+j))))→Rc (Ab V) (Ab V') cs ((List.range' k0 ins.length).flatMap λk=>sQ (100+k))
 | [],cs,k0,h,_=>by
  unfold lnB at h;have:=List.isEmpty_iff.1 h;subst this;exact IE
 | p :: l,cs,k0,h,hp=>by
  unfold lnB at h;split at h
  ·rename_i q n e r
   simp only [Bool.and_eq_true] at h;obtain ⟨⟨⟨h1,h2⟩,h3⟩,h4⟩:=h;have h1:=CE.beq_eq h1;have h2:=CE.beq_eq h2;subst h1;subst h2;obtain ⟨e1,e2,e3⟩:=hp 0 p rfl;rw [List.length_cons,List.range'_succ,List.flatMap_cons];refine CS (OT (m:=40000000) (by rw [e1,Nat.add_zero]) (Nat.le_of_ble_eq_true h3)) (CS (JR (by rw [e3,Nat.add_zero])) ?_);refine yK h4 λj p hj=>?_
   have:=hp (j+1) p (by simpa using hj);rw [show k0+(j+1)=k0+1+j by omega] at this;exact this
  ·cases h
theorem jM:∀{outs:List (CE × CE)}{k0:Nat},(∀(j:Nat)(p:CE × CE),outs[j]? = some p→qD V' (.v (k0+j))=qD V p.1∧lD V' (.v (k0+j))=lD V p.2)→Rc (Ab V') (Ab V) ((List.range' k0 outs.length).flatMap sQ) (outs.flatMap lnO)
 | [],k0,_=>IE
 | p :: l,k0,hp=>by
  obtain ⟨e1,e2⟩:=hp 0 p rfl;rw [List.length_cons,List.range'_succ,List.flatMap_cons,List.flatMap_cons];refine CS (Ads (by rw [← e1,Nat.add_zero])) (CS (JR (by rw [← e2,Nat.add_zero])) ?_);refine jM λj p hj=>?_
  have:=hp (j+1) p (by simpa using hj);rw [show k0+(j+1)=k0+1+j by omega] at this;exact this
end
theorem ZK{V:VL}(hz:V.z 0=0){c:AV}{C:Nat}(h:isI c C=true){ρ:Bi}{M:Nat→Prop}{w:World}{v:Value}(hv:@BA (Ab V) ρ M w c v):v = .int .i64 (C:Int):=by
 unfold isI at h;split at h
 ·rename_i p hp
  rw [Bool.and_eq_true] at h;have h1:=Nat.eq_of_beq_eq_true h.1;have h2:=of_decide_eq_true h.2;unfold Fu at hp;split at hp
  ·cases hp
   have h2:_=(C:Int):=h2;have hv:v = .int .i64 _:=hv;rw [hv];exact congrArg (Value.int .i64) h2
  ·cases hp
   have hv:@Rp (Ab V) ρ M w _ [v]:=hv;unfold Rp at hv;have:=(List.cons.inj hv.2).1;rw [this];dsimp only at h1 h2;show Value.int .i64 (V.z _+_)=_;rw [h1,h2,hz,Int.zero_add]
  ·cases hp
 ·cases h
theorem Abl{V:VL}{L0:List Ln}{C s B:Nat}{ins outs:List (CE × CE)}{pcs:List AV}(hz:V.z 0=0)(hR:L0.length≤6)(hR1:1≤L0.length)(hC:C≤6)(hs:s≤300)(hs1:1≤s)(hB:B≤39000000)(hL:∀ k,k<L0.length→J9 C s B (Cd L0 k))
  (hi:ins.length=L0.length) (hin:∀(j:Nat)(p:CE × CE),ins[j]? = some p→qD V p.1=(Cd L0 j).1∧lD V p.2=(Cd L0 j).2) (ho:outs.length=L0.length) (hout:∀(j:Nat)(p:CE × CE),outs[j]? = some p→qD V p.1=(Cd (Bm L0 C).2 j).1∧lD V p.2=(Cd (Bm L0 C).2 j).2)
  (hp:pcs.length=(Bm L0 C).1.length) (hpc:Rc (Ab (Bx L0 (Bm L0 C) C C)) (Ab V) ((List.range pcs.length).map λi=>aI (1+i) 0) pcs):@BZ (Ab V) (deC L0.length C ins outs pcs):=by
 intro f xs H n0 t0 r U h;unfold deC at h;split at h
 ·rename_i o n c o' T cs
  split at h
  ·rename_i hcond
   simp only [Bool.and_eq_true] at hcond;obtain ⟨⟨⟨⟨⟨c1,c2⟩,c3⟩,c4⟩,c5⟩,c6⟩:=hcond;have c1:=Nat.eq_of_beq_eq_true c1;have c2:=Nat.eq_of_beq_eq_true c2;have c3:=Nat.eq_of_beq_eq_true c3;have c5:=Nat.eq_of_beq_eq_true c5;subst c1;subst c2;subst c3;subst c5;refine ⟨λ_ _=>by simp [go_sem],λρ M w vs hs' hdom htn hv=>?_⟩
   let σ:Nat→Option Nat:=λk=>if k=16 then some o else none
   have hlk:lk [(o,some (⟨78,5,cs,true,none⟩:OB))] o=some ⟨78,5,cs,true,none⟩:=by
    unfold lk;rw [if_pos (by simp)]
   have hlk':∀ x b,lk [(o,some (⟨78,5,cs,true,none⟩:OB))] x=some b→x=o∧b=⟨78,5,cs,true,none⟩:=λx b e=>by
    unfold lk at e;split at e
    ·rename_i hx
     cases e
     exact ⟨(Nat.eq_of_beq_eq_true hx).symm,rfl⟩
    ·cases e
   have hcan:∀(g:List Nat × List Ln)(n:Nat),Mt (Ab V) (Ab (Bx L0 g n C)) [(o,some ⟨78,5,cs,true,none⟩)] (EJ L0.length) σ:=λg n=>by
    refine ⟨λx y o' h1 h2=>?_,λx o' h1=>?_,λx b' e=>?_,λo' b e=>?_⟩
    ·dsimp only [σ] at h1 h2
     split at h1 <;> split at h2 <;> simp_all
    ·dsimp only [σ] at h1
     split at h1
     ·omega
     ·cases h1
    ·unfold EJ lk at e
     split at e
     ·rename_i hx
      have hx:=Nat.eq_of_beq_eq_true hx;subst hx
      cases e
      refine ⟨o,_,_,rfl,hlk,rfl,rfl,?_⟩;have:=yK (V:=V) (V':=Bx L0 g n C) (k0:=0) c6 λj p hj=>by
       obtain ⟨a1,a2⟩:=hin j p hj;have hjl:j<L0.length:=by
        rw [← hi];exact (List.getElem?_eq_some_iff.1 hj).1
       rw [Nat.zero_add,jK,aT];exact ⟨a1,(hL j hjl).rsm.mono (by omega),a2⟩
      rw [hi,← List.range_eq_range'] at this;exact this
     ·cases e
    ·obtain ⟨rfl,rfl⟩:=hlk' o' b e
     exact ⟨16,_,rfl,rfl⟩
   have s1:=(hcan ([],L0) 0).st0 hs';have s2:=(hcan (Bm L0 C) C).st0 hs';obtain ⟨va,_,rfl,k1,vb,_,rfl,k2,k5⟩:=hv;have k5:_=[]:=k5;subst k5;have hvb:=ZK hz c4 k2;have hv':@CH (Ab (Bx L0 ([],L0) 0 C)) (DJ σ ρ) M w (Sj L0.length) [va,vb]:=by
    refine ⟨va,_,rfl,?_,vb,_,rfl,Ml ?_,rfl⟩
    ·have k1:@Rp (Ab V) ρ M w (.sl o 0 L0.length none) [va]:=k1
     show @Rp (Ab (Bx L0 ([],L0) 0 C)) (DJ σ ρ) M w (.sl 16 0 L0.length none) [va];unfold Rp at k1 ⊢;exact k1
    ·rw [hvb]
     simp [Bx]
   have hd':∀ x p,DJ σ ρ x=some p→x<17:=λx p e=>by
    unfold DJ at e;obtain ⟨o',ho',_⟩:=Option.bind_eq_some_iff.1 e;dsimp only [σ] at ho';split at ho'
    ·omega
    ·cases ho'
   have hno:∀ j,j<16→t0+j≠o:=λj hj e=>by
    obtain ⟨⟨hobj,_⟩,_,hnew,_⟩:=id hs';obtain ⟨g,c',arr,cs',q1,_⟩:=hobj o _ hlk;rw [hnew o (by omega) (by omega)] at q1
    cases q1
   have hlo:Rc (Ab (Bx L0 (Bm L0 C) C C)) (Ab V) (KF L0.length) (outs.flatMap lnO):=by
    have:=jM (V:=V) (V':=Bx L0 (Bm L0 C) C C) (outs:=outs) (k0:=0) λj p hj=>by
     obtain ⟨a1,a2⟩:=hout j p hj;have hjl:j<L0.length:=by
      rw [← ho];exact (List.getElem?_eq_some_iff.1 hj).1
     rw [Nat.zero_add,Ei (by omega),E0 (by omega)];exact ⟨a1.symm,a2.symm⟩
    rw [ho,← List.range_eq_range'] at this;exact this
   refine Calls.mono (Ah2 hR hR1 hC hs hs1 hB hL s1 s2 hd' hv') λe w' ⟨v,e1,hpost⟩=>⟨v,e1,?_⟩
   cases pcs with
   | nil =>
    cases h
    have ht0:(Bm L0 C).1.length=0:=hp.symm;rw [ht0] at hpost;refine (hcan (Bm L0 C) C).back hs' hpost (λρ' ρ2 M' _ hr=>?_) (λo' b e=>?_) (λx b' e hy=>?_)
    ·have hr:v = .slice none 0 0:=hr
     rw [hr];exact rfl
    ·simp only [CQ] at e
     split at e
     ·rename_i hx
      cases e
      have hx:=Nat.eq_of_beq_eq_true hx;subst hx;exact ⟨16,_,_,rfl,rfl,rfl,rfl,hlo⟩
     ·rename_i hx
      obtain ⟨rfl,_⟩:=hlk' o' b e;simp at hx
    ·obtain ⟨y,hy,rfl⟩:=hy
     have:y=(16,L4 (KF L0.length)):=by
      have hy:y∈[(16,L4 (KF L0.length))]:=hy;simpa using hy
     subst this;exact ⟨o,rfl,_,List.mem_cons_self ..,rfl⟩
   | cons pc pr =>
    cases h
    obtain ⟨t,ht⟩:∃ t,(Bm L0 C).1.length=t+1:=⟨pr.length,hp.symm⟩;rw [ht] at hpost;have hp:(pc :: pr).length=t+1:=hp.trans ht;rw [hp] at hpc;refine (hcan (Bm L0 C) C).back hs' hpost (λρ' ρ2 M' hτ hr=>?_) (λo' b e=>?_) (λx b' e hy=>?_)
    ·rw [hp]
     have hr:@Rp (Ab (Bx L0 (Bm L0 C) C C)) ρ' M' w' (.sl 0 0 (t+1) none) [v]:=hr;show @Rp (Ab V) ρ2 M' w' (.sl t0 0 (t+1) none) [v];unfold Rp at hr ⊢;obtain ⟨g,c',k,q1,q2⟩:=hr;exact ⟨g,c',k,hτ 0 t0 _ rfl q1,q2⟩
    ·simp only [CQ] at e
     split at e
     ·rename_i hx
      cases e
      have hx:=Nat.eq_of_beq_eq_true hx;subst hx;exact ⟨0,_,_,rfl,rfl,rfl,rfl,hpc⟩
     ·split at e
      ·rename_i hx
       cases e
       have hx:=Nat.eq_of_beq_eq_true hx;subst hx;exact ⟨16,_,_,rfl,rfl,rfl,rfl,hlo⟩
      ·rename_i hx
       obtain ⟨rfl,_⟩:=hlk' o' b e;simp at hx
    ·obtain ⟨y,hy,rfl⟩:=hy
     have hy:y∈[(0,TN (t+1)),(16,L4 (KF L0.length))]:=hy;simp only [List.mem_cons,List.not_mem_nil,or_false] at hy
     rcases hy with rfl | rfl
     ·cases e
     ·exact ⟨o,rfl,_,List.mem_cons_of_mem _ (List.mem_cons_self ..),rfl⟩
  ·cases h
 ·cases h
def loC(tab:List (CE × (CE × CE))):BC:=λf xs H _ _=>match xs with
 | [x,.sl o 0 n c]=>match Z5 H .L (.sl o 0 n c) with
  | some (.ext 1 false (.ap 51 e (.lit 0)))=>match JG tab e with
   | some p=>if Nat.beq f 67 && U9 x (.ap 36 (.lit 1) (.lit 1)) then some (.agg [aQ p.1 80001,aL p.2],[]) else none
   | none=>none
  | _=>none
 | _=>none
theorem sZ:AQ 1 50000000:=by
 have:AQ ((1:Int):Rat) 1:=DL (by unfold Sm; decide) (by decide);exact this.mono (by decide)
section
variable {V : VL}
theorem AbM{tab:List (CE × (CE × CE))}{F:Fa}(hF:Bq V F)(ht:∀ x∈tab,(∃ D s,Fz D s (lD V x.1)∧s≤80000∧1≤s)∧(lD V x.1).length≤6∧qD V x.2.1=Ef (lD V x.1)∧lD V x.2.2=Cp (lD V x.1)):@BZ (Ab V) (loC tab):=by
 intro f xs H n0 t0 r U h;unfold loC at h;split at h
 ·rename_i x o n c
  split at h
  ·rename_i e hk
   split at h
   ·rename_i p hp
    split at h
    ·rename_i hc
     rw [Bool.and_eq_true] at hc
     cases h
     have hf:=Nat.eq_of_beq_eq_true hc.1;subst hf;obtain ⟨⟨D,s,hfr,hs,hs1⟩,hl6,hq,hl⟩:=ht _ (BB hp);dsimp only at hfr hl6 hq hl;refine ⟨λ_ _=>by simp [go_sem],λρ M w vs hs' hdom htn hv=>?_⟩;obtain ⟨va,_,rfl,k1,vb,_,rfl,k2,k5⟩:=hv;have k5:_=[]:=k5;subst k5;obtain ⟨m,hm⟩:=EK hc.2;have q1:=(Bj hm (@BA.rv (Ab V) ρ M w _ _ k1)).1;rw [show qD V (.ap 36 (.lit 1) (.lit 1))=1 by simp only [qD]; decide] at q1;have hrow:(XP.rats (lD V e)).p (λ_=>False) w [vb]:=by
      obtain ⟨⟨hobj,hinj⟩,_⟩:=id hs';have hR:@RH (Ab V) ρ M (Dc BP { w with heap:=#[] } (lk [])) w (CQ (lk []) H):=by
       have e:CQ (lk []) H=lk H:=funext λo=>by
        letI:=Ab V
        rw [← CT,List.append_nil]
       rw [e];exact @RH.mk (Ab V) _ _ _ _ _ (λo b q=>by
        obtain ⟨g,c,arr,cs,k1,k2,k3,k4,k5,k6,k7,k8⟩:=hobj o b q;exact ⟨g,c,arr,cs,@Is.mk (Ab V) _ _ _ _ _ _ _ _ _ _ k1 k2 (.inl (Nat.zero_le _)) k4 k5 k6 k7 k8⟩) hinj
      exact CK (Dl (M:=λ_=>False) (w0:={ w with heap:=#[] }) hF (λb hb=>hb.elim) (λb hb=>hb.elim) hR hk k2)
     obtain ⟨_,hbnd,_⟩:=id hs';refine Calls.mono (Aau (V:=V) (q:=p.1) (e:=p.2) hfr hs hs1 (c:=1) sZ hl6 (by rw [hq,Rat.one_mul]) hl (λb hb=>hb.elim) q1 hrow) λen w' ⟨u,e1,e2,e3⟩=>⟨u,e1,@Ob (Ab V) _ _ _ _ _ _ _ _ _ hs' e3 ?_⟩
     obtain ⟨cs,rfl,hcs⟩:=e2;refine ⟨cs,rfl,?_⟩;unfold AW at hcs ⊢;obtain ⟨x,y,e3,r1,r2⟩:=hcs;unfold AW at r2 ⊢;obtain ⟨x2,y2,e4,r3,r4⟩:=r2;refine ⟨x,y,e3,AcU (DN rfl (by rw [hq]; exact (Gd hfr _).mono (by omega)) ρ ρ M w' x (AcU r1)),x2,y2,e4,?_,by unfold AW at r4 ⊢; exact r4⟩;exact @DX (Ab V) (λo=>some o) BP ρ (λb=>b<w.heap.size) M w' (λ_ _ _ _ e=>by cases e) (λb hb=>hbnd b hb) _ _ _ rfl r3
    ·cases h
   ·cases h
  ·cases h
 ·cases h
end
def Mp:Nat→Nat→CE
 | _,0=>.lit 0
 | k,n+1=>.ap 81 (.v k) (Mp (k+1) n)
def Ac2(k C:Nat):CE:=Fw ((List.range C).map (GU k))
def fC(R C:Nat):List (CE × (CE × CE)):=(List.range R).map λk=>(Ac2 k C,(.v k,.v (10+k)))
def Zt(C k:Nat):Nat:=if C=0 then 0 else k
def OM(R C:Nat):List (CE × CE):=(List.range R).map λk=>(.v (Zt C k),.v (10+Zt C k))
def GG(R:Nat):List (CE × CE):=(List.range R).map λk=>(.v (20+k),.v (20+k))
def GN(t:Nat):List AV:=(List.range t).map λi=>aI (1+i) 0
def Afe(R C:Nat):Fa:=⟨[],(List.range R).map λk=>(.v k,0,(C:Int)),(List.range R).map λk=>(.v k,300),[],[],[],[]⟩
def yM(l:List Rat):Ln:=(Ef l,Cp l)
def BE(m:List (List Rat)):List Ln:=m.map yM
def A8(m:List (List Rat))(C:Nat):Nat:=(Bm (BE m) C).1.length
structure BU (C:Nat) (m:List (List Rat)):Prop where
 len:∀ l∈m,l.length=C
 fr:∀ l∈m,∃ D s,Fz D s l∧s≤300∧1≤s
def Jr(m:List (List Rat))(C:Nat):VL:=⟨λk=>if 1≤k∧k≤6 then (((Bm (BE m) C).1.getD (k - 1) 0:Nat):Int) else 0,
 λk=>if k<10 then m.getD k [] else if k<20 then Cp (m.getD (k - 10) []) else (Cd (Bm (BE m) C).2 (k - 20)).2,
 λk=>if k<10 then Ef (m.getD k []) else if k<20 then 0 else (Cd (Bm (BE m) C).2 (k - 20)).1,λ_=>[]⟩
theorem OI(V:VL):∀ n k,mD V (Mp k n)=(List.range' k n).map V.l
 | 0,k=>by simp [Mp,mD]
 | n+1,k=>by
  unfold Mp;rw [List.range'_succ,List.map_cons,← OI V n (k+1)];simp only [mD,lD]
section
variable {m : List (List Rat)} {C : Nat}
theorem JO{k:Nat}(hk:k<m.length):Cd (BE m) k=yM (m.getD k []):=by
 unfold Cd BE;rw [List.getD_eq_getElem?_getD,List.getElem?_map,List.getD_eq_getElem?_getD,List.getElem?_eq_getElem hk];rfl
theorem BU.row(h:BU C m){k:Nat}(hk:k<m.length):(m.getD k []).length=C∧∃ D s,Fz D s (m.getD k [])∧s≤300∧1≤s:=by
 rw [List.getD_eq_getElem?_getD,List.getElem?_eq_getElem hk];exact ⟨h.len _ (List.getElem_mem hk),h.fr _ (List.getElem_mem hk)⟩
theorem BU.ln(h:BU C m){k:Nat}(hk:k<m.length):J9 C 300 300 (Cd (BE m) k):=by
 obtain ⟨h1,D,s,h2,h3,h4⟩:=h.row hk;rw [JO hk];exact ⟨by show (Cp _).length=C; rw [MU]; exact h1,h2.whole.mono h3,(Gd h2 _).mono h3⟩
theorem sK{k:Nat}(hk:k<10):(Jr m C).l k=m.getD k []:=by
 show (if k<10 then _ else _)=_;rw [if_pos hk]
theorem RJ{V V':VL}{f g:Nat→AV}:∀{l:List Nat},(∀ i∈l,Le V V' (f i,g i))→Rc (Ab V) (Ab V') (l.map f) (l.map g)
 | [],_=>IE
 | i :: l,h=>CS (h i (List.mem_cons_self ..)) (RJ λj hj=>h j (List.mem_cons_of_mem _ hj))
theorem KJ{V:VL}{e:CE}{ρ:Bi}{M:Nat→Prop}{w:World}{v:Value}(h:(XP.mat (mD V e)).p M w [v]):@BA (Ab V) ρ M w (aM e) v:=by
 show @Rp (Ab V) ρ M w (aM e) [v];unfold Rp;exact ⟨rfl,h⟩
end
end Go.Proofs.YtegaedfdddapnaaGreat
