/- Layer 5: lowered. -/
import Derived.Test.YtdopbgnkneeceaaGreatqN1
set_option linter.unusedSectionVars false
set_option linter.unusedVariables false
set_option linter.unusedSimpArgs false
set_option maxRecDepth 100000
namespace Go.Proofs.YtdopbgnkneeceaaGreat
open Go.RowKit
noncomputable def X_:Func:=Tryz.f67
noncomputable def Yn:=C8 X_
noncomputable def oO:=lpB Yn []
noncomputable def lO:List Rx:=lpK Yn []
noncomputable def iA:PE:=⟨91,λxs=>match xs with
 | [.ext 1 false (.ap 51 (.v 0) _)]=>some (aQ (.ap 29 (.v 0) (.lit 0)) 80001)
 | _=>none⟩
def BM(l:List Rat)(c:Rat)(k:Nat):VL:=⟨λ_=>0,λm=>match m with | 0=>l | _=>[],λm=>match m with | 0=>c | 1=>Ce l k | m+2=>l.getD m 0 / Ce l k,λ_=>[]⟩
def Pd(k:Nat):CE:=.ap 46 (Yf k) (.v 1)
def Ko(k:Nat):CE:=.ap 48 (Pd k) (.lit 0)
def Xo(k:Nat):Nat→List (CE × Bool)
 | 0=>[(Yf k,true)]
 | 1=>[(Yf k,false),(.v 1,false),(XW (Pd k),true)]
 | 2=>[(Yf k,false),(.v 1,false),(XW (Pd k),false),(Ko k,false)]
 | _=>[]
def QR(n k p:Nat):Fa:=⟨[],[(.v 0,0,(n:Int))],[(.v 0,80001)],Xo k p,[],[],[]⟩
def Vk:List AV:=[aQ (.v 0) 50000000,aL (.v 0)]
noncomputable def fP(n k p:Nat):Tb:=Yw (QR n k p) [iA,Rb (QR n k p),VP (QR n k p)] Qk
noncomputable def gJ(n:Nat):=CP (fP n 0 3) AO 300 300 (.run Yn) [] (TH 54 Vk)
def iv(n:Nat):AV:=.val (.int .i64 (n:Int))
def Lm(j:Nat):AV:=aQ (.v (2+j)) 80001
noncomputable def Y4(n k:Nat)(f:Bool):Fm:=YV 54 [(2,.ptr 16 0),(4,.ptr 19 0),(5,.ptr 17 0),(6,.sl 18 0 k (if f then some k else none)),(16,aL (.v 0)),(17,iv n),(18,iv k)]
  [(16,some ⟨36,1,[aQ (.v 0) 50000000],false,none⟩),(17,some ⟨36,1,[aQ (.v 1) 80001],false,none⟩),(18,some ⟨36,4,(List.range k).map Lm,!f,none⟩),
   (19,some ⟨78,1,[.val (.bool false),.val (.slice none 0 0),.val (.bool false),.val (.slice none 0 0),.val (.slice none 0 0)],false,none⟩)] 100
def AbM(s:Fm):List (Nat × Nat):=match (s.tm[2]? : Option AV),(s.tm[4]? : Option AV),(s.tm[5]? : Option AV),(s.tm[6]? : Option AV) with
 | some (.ptr a _),some (.ptr b _),some (.ptr c _),some (.sl d _ _ _)=>[(a,16),(c,17),(d,18),(b,19)]
 | _,_,_,_=>[]
def mG(n k:Nat):List (AV × AV):=[(aQ (.v 0) 50000000,aQ (.v 0) 50000000),(aL (.v 0),aL (.v 0)),(iv n,iv n),(iv k,iv k),(.val (.bool false),.val (.bool false))]
def AcU(n:Nat):Rd:=⟨(aQ (.ap 29 (.v 0) (.lit 0)) 80001,aQ (.v 1) 80001) :: mG n 0,[],[],[],[],100⟩
def aT(k:Nat):Nat→List (AV × AV)
 | 0=>(aQ (.v 1) 80001,aQ (.v 1) 80001) :: (aQ (Yf k) 80001,Lm k) :: (List.range k).map λj=>(Lm j,Lm j)
 | 1=>(aQ (.v 1) 80001,aQ (.v 1) 80001) :: (aQ (Pd k) 160002,Lm k) :: (List.range k).map λj=>(Lm j,Lm j)
 | _=>(aQ (.ap 46 (.v 1) (Ko k)) 240003,aQ (.v 1) 80001) :: (aQ (.ap 33 (Pd k) (Ko k)) 320004,Lm k) :: (List.range k).map λj=>(aQ (.ap 33 (.v (2+j)) (Ko k)) 240003,Lm j)
def AcO(n k p:Nat):Rd:=⟨aT k p ++ mG n (k+1),[],[],[],[],100⟩
noncomputable def tV(n:Nat):Bool:=Nu 16 AbM [] (AcU n) (F0 (gJ n)) (Y4 n 0 (Nat.beq n 0))
noncomputable def jB(n k p:Nat)(f:Bool):Bool:=iX (fP n k p) (.run oO) [] .nor 16 (Y4 n k f) AbM [] (AcO n k p) (Y4 n (k+1) (Nat.beq p 2))
noncomputable def fR(n:Nat)(f:Bool):=CP (fP n n 3) AO 300 300 (.run oO) [] (Y4 n n f)
noncomputable def Ach(n:Nat)(f:Bool):=CP (fP n n 3) AO 300 300 (.at_ (.ext 0)) lO (F0 (fR n f))
def Ac2(n:Nat):List AV:=[aQ (.ap 33 (.v 0) (.v 1)) 50080001,aL (F6 ((List.range n).map λj=>.v (2+j)))]
def J8:List AV→List AV→Bool
 | [],[]=>true
 | a :: l,b :: m=>EV a b && J8 l m
 | _,_=>false
theorem Fl:∀{l m:List AV},J8 l m=true→l=m
 | [],[],_=>rfl
 | a :: l,b :: m,h=>by
  unfold J8 at h;rw [Bool.and_eq_true] at h;rw [Ft h.1,Fl h.2]
 | [],_ :: _,h=>by cases h
 | _ :: _,[],h=>by cases h
noncomputable def AcW(fn:Func)(s:Fm)(ks:List Kd)(rs:List AV):Bool:=match Lz s fn.results.toList with
 | some [.agg l]=>(match H8 s.H ks l with
  | some r=>J8 r rs
  | none=>false)
 | _=>false
noncomputable def WO(n:Nat)(f:Bool):Bool:=(match fR n f,Ach n f with
 | some (.done (.ext 0) _),some (.done .ret s)=>AcW X_ s [.leaf,.L] (Ac2 n)
 | _,_=>false)
theorem AbF:∀ n,n<7→gJ n=some (.loop oO lO (F0 (gJ n)))
 | 0,_=>by kernel_rfl
 | 1,_=>by kernel_rfl
 | 2,_=>by kernel_rfl
 | 3,_=>by kernel_rfl
 | 4,_=>by kernel_rfl
 | 5,_=>by kernel_rfl
 | 6,_=>by kernel_rfl
noncomputable def Ace:Bool:=(List.range 7).all tV
noncomputable def Adi:Bool:=(List.range 7).all λn=>WO n true && WO n false
noncomputable def Acn(n:Nat):Bool:=(List.range n).all λk=>(List.range 3).all λp=>jB n k p true && jB n k p false
theorem Adm:Ace=true:=by kernel_rfl
theorem AdY:Adi=true:=by kernel_rfl
theorem Aek:∀ n,n<7→Acn n=true
 | 0,_=>by kernel_rfl
 | 1,_=>by kernel_rfl
 | 2,_=>by kernel_rfl
 | 3,_=>by kernel_rfl
 | 4,_=>by kernel_rfl
 | 5,_=>by kernel_rfl
 | 6,_=>by kernel_rfl
theorem Ac9:X_.body=some Yn:=by kernel_rfl
theorem sS:X_.ntmps=54:=by kernel_rfl
theorem Abd{V:VL}{ρ ρ':Bg}{M M':Nat→Prop}{w:World}{q:CE}{n:Nat}{cs:List Value}(h:@Rp (Ae V) ρ M w (aQ q n) cs):@Rp (Ae V) ρ' M' w (aQ q n) cs:=by
 unfold Rp at h ⊢;exact ⟨h.1,h.2⟩
section
variable {V : VL} {F : Fa} {ρ : Bg} {M M' M2 : Nat → Prop} {w w0 : World}
theorem slF(hF:Bu V F)(hm0:∀ b,M b→b<w0.heap.size){U:HP}(hR:@RH (Ae V) ρ M' (Dl B4 w0 (lk [])) w (CT (lk []) U)){o n:Nat}{c:Option Nat}{e:CE}{cs:List Value}(h:jZ U .L (.sl o 0 n c)=some (aL e))(hv:@Rp (Ae V) ρ M' w (.sl o 0 n c) cs):@Rp (Ae V) B4 M w (aL e) cs:=by
 have hv2:=hv;unfold Rp at hv2;obtain ⟨g,cc,kk,q1,rfl,_⟩:=hv2;have key:@Bz (Ae V) B4 (λ_=>False) w (aL e) _:=Ed hF (λb hb=>hb.elim) (λb hb=>hb.elim) hR h (show @Bz (Ae V) ρ M' w (.sl o 0 n c) _ from hv);obtain ⟨A,c',e1,e2,e3⟩:=Ff key;have hge:w0.heap.size≤g:=by
  have h':(match lk U o with
   | some b=>if b.bl.isNone then kdR n b.cs .L else none
   | none=>none)=some (aL e):=h
  split at h'
  ·rename_i b hb
   have hU:CT (lk []) U o=some b:=by
    letI:=Ae V
    rw [← CN,List.append_nil];exact hb
   obtain ⟨hobj,_⟩:=id hR;obtain ⟨g2,c2,arr,cs,k1,_,k3,_⟩:=hobj o b hU;rw [q1] at k1;have:g=g2:=congrArg Prod.fst (Option.some.inj k1);subst this
   rcases k3 with h1 | ⟨_,_,_,h1,_⟩
   ·exact h1
   ·cases h1
  ·cases h'
 have hfin:(XP.rats (lD V e)).p M w [.slice (some ⟨g,0,none⟩) n kk]:=by
  refine ⟨A,c',e1,e2,λh0=>?_⟩;obtain ⟨g',off,xs,p1,p2,p3⟩:=e3 h0;have e4:=(List.cons.inj e1).1;rw [p1] at e4;injection e4 with e5 _ _
  injection e5 with e5
  injection e5 with e5 _ _
  subst e5;exact ⟨g,off,xs,p1,λhm=>by
   have:=hm0 g hm;omega,p3⟩
 have:=Hp (ρ:=B4) hfin;exact this
theorem Y5{U:HP}{l:List AV}{a b:AV}(h:H8 U [.leaf,.L] l=some [a,b]):∃ x y,l=[x,y]∧zT U .leaf x=some a∧zT U .L y=some b:=by
 cases l with
 | nil=>unfold H8 at h; cases h
 | cons x l =>
  unfold H8 at h;split at h
  ·rename_i r rs h1 h2
   cases h
   cases l with
   | nil=>unfold H8 at h2; cases h2
   | cons y l =>
    unfold H8 at h2;split at h2
    ·rename_i r rs h3 h4
     cases h2
     cases l with
     | nil=>exact ⟨x,y,rfl,h1,h3⟩
     | cons z l=>unfold H8 at h4; cases h4
    ·cases h2
  ·cases h
theorem Adh{U:HP}{x:AV}{q:CE}{m:Nat}(h:zT U .leaf x=some (aQ q m)):x=aQ q m:=by
 cases x <;> first
  | (cases h; done)
  | (cases h; rfl)
theorem AdA{U:HP}{y r:AV}(h:zT U .L y=some r):∃ o n c,y = .sl o 0 n c∧jZ U .L (.sl o 0 n c)=some r:=by
 cases y <;> first
  | (cases h; done)
  | skip
 rename_i o a n c
 cases a with
 | zero=>exact ⟨o,n,c,rfl,h⟩
 | succ a=>cases h
theorem YS(hF:Bu V F){s:Fm}{a:Act}{l:List AV}{q e:CE}{m:Nat}{v:Value}(hm0:∀ b,M b→b<w0.heap.size)(hS:@Uz (Ae V) w0 M' s ρ M2 a w)(h:H8 s.H [.leaf,.L] l=some [aQ q m,aL e])(hv:@RV (Ae V) ρ M2 w (.agg l) v):@RV (Ae V) B4 M w (.agg [aQ q m,aL e]) v:=by
 obtain ⟨_,_,_,⟨hobj,hinj⟩,_⟩:=id hS;obtain ⟨cs,rfl,hc⟩:=hv;refine ⟨cs,rfl,?_⟩;have hR:@RH (Ae V) ρ M2 (Dl B4 w0 (lk [])) w (CT (lk []) s.H):=by
  have e:CT (lk []) s.H=lk s.H:=funext λo=>by
   letI:=Ae V
   rw [← CN,List.append_nil]
  rw [e];exact @RH.mk (Ae V) _ _ _ _ _ (λo b q=>by
   obtain ⟨g,c,arr,cs,k1,k2,k3,k4,k5,k6,k7,k8⟩:=hobj o b q;exact ⟨g,c,arr,cs,@Ij.mk (Ae V) _ _ _ _ _ _ _ _ _ _ k1 k2 (.inl k3) k4 k5 k6 k7 k8⟩) hinj
 obtain ⟨x,y,rfl,h1,h3⟩:=Y5 h;unfold AU at hc ⊢;obtain ⟨c1,c2,e1,r1,r2⟩:=hc;unfold AU at r2 ⊢;obtain ⟨c3,c4,e2,r3,r4⟩:=r2;have h1:=Adh h1;subst h1;obtain ⟨o,n,c,rfl,h3⟩:=AdA h3;exact ⟨c1,c2,e1,Abd r1,c3,c4,e2,slF hF hm0 hR h3 r3,by unfold AU at r4 ⊢; exact r4⟩
end
theorem E0{w:Int}{s:Nat}(h:Sm w s)(hs:1≤s):A7 (w:Rat) s:=by
 obtain ⟨i,rfl⟩:∃ i,s=i+1:=⟨s - 1,by omega⟩;exact A7.whole h
theorem AbV(fn:Func){N:Nat}(h:fn.ntmps=N)(xs:List AV):(⟨xs ++ List.replicate (fn.ntmps - xs.length) (.val undef),[],16,[]⟩:Fm)=TH N xs:=by
 rw [h];rfl
section
variable {l : List Rat} {c : Rat} {D : Int} {s : Nat}
theorem WU(k j:Nat):qD (BM l c k) (Yf j)=l.getD j 0:=by simp [Yf,qD,lD,zD,BM]
theorem EX(k:Nat):qD (BM l c k) (.v 1)=Ce l k:=by simp [qD,BM]
theorem FC(k j:Nat):qD (BM l c k) (.v (2+j))=l.getD j 0 / Ce l k:=by
 rw [Nat.add_comm];simp only [qD,BM]
theorem R4(k:Nat):qD (BM l c k) (Pd k)=l.getD k 0 / Ce l k:=by
 unfold Pd;simp only [qD];rw [← WU (c:=c) k k,← EX (c:=c) k];simp only [qD]
theorem OQ(k:Nat):qD (BM l c k) (Ko k)=(((l.getD k 0 / Ce l k).den:Int):Rat):=by
 unfold Ko;simp only [qD];rw [R4]
theorem cA(h:Fk D s l)(hs:s≤80000){k p:Nat}(hz:∀ x∈Xo k p,decide (qD (BM l c k) x.1=0)=x.2):Bu (BM l c k) (QR l.length k p):=I7 (λ_=>rfl) (λx hx=>by
 rw [List.mem_singleton] at hx;subst hx;simp [lD,BM]) (λx hx=>by
 rw [List.mem_singleton] at hx;subst hx;intro y hy;have hy:y∈l:=by simpa [lD,BM] using hy
 exact (h.rsm hy).mono (by omega)) hz (λ_ h=>by cases h)
theorem rJ(h:Fk D s l)(hs:s≤80000)(hs1:1≤s)(hn:l.length≤6)(k:Nat):@PE.ok (Ae (BM l c k)) iA:=by
 intro xs r e;refine ⟨λ_ _=>by simp [iA,go_sem],λρ M w vs hm0 hv=>?_⟩;unfold iA at e;dsimp only at e;split at e
 ·rename_i dd
  cases e
  obtain ⟨va,_,rfl,h1,h3⟩:=hv;have h3:_=[]:=h3;subst h3;have hl:lD (BM l c k) (.v 0)=l:=by simp [lD,BM]
  have h1:=Ff h1;rw [hl] at h1;refine Calls.mono (Aec (λx hx=>(h.rsm hx).mono (by omega)) hn hm0 h1) λe w' ⟨v,e1,e2,e3⟩=>⟨v,e1,@Bz.rv (Ae (BM l c k)) ρ M w' _ _ (Gl (q:=.ap 29 (.v 0) (.lit 0)) ?_ ?_),e3⟩
  ·simp only [qD]
   rw [hl];exact e2
  ·simp only [qD]
   rw [hl];exact (FN h 0).mono (by omega)
 ·cases e
theorem P7(h:Fk D s l)(hs:s≤80000)(hs1:1≤s)(hn:l.length≤6){k p:Nat}(hF:Bu (BM l c k) (QR l.length k p)):∀ e∈[iA,Rb (QR l.length k p),VP (QR l.length k p)],@PE.ok (Ae (BM l c k)) e:=λe he=>by
 simp only [List.mem_cons,List.not_mem_nil,or_false] at he
 rcases he with rfl | rfl | rfl
 ·exact rJ h hs hs1 hn k
 ·exact LH hF
 ·exact cC hF
theorem uQ(sc:A7 c 50000000)(k k' n i:Nat):∀ p∈mG n i,Le (BM l c k) (BM l c k') p:=λp hp=>by
 simp only [mG,List.mem_cons,List.not_mem_nil,or_false] at hp
 rcases hp with rfl | rfl | rfl | rfl | rfl
 ·exact Dw rfl sc
 ·exact L6 rfl
 ·exact IH _ trivial
 ·exact IH _ trivial
 ·exact IH _ trivial
theorem qY{k:Nat}(h:Fk D s l)(hs:s≤80000)(hs1:1≤s):A7 (Ce l (k+1)) 80001∧∀ j,j<k+1→A7 (l.getD j 0 / Ce l (k+1)) 80001:=by
 refine ⟨(FN h _).mono (by omega),λj hj=>?_⟩;obtain ⟨G,_,_,_,hw⟩:=I2 h (k+1);obtain ⟨w,h1,h2⟩:=hw j hj;rw [h1];exact (E0 h2 hs1).mono (by omega)
theorem AbO(h:Fk D s l)(hs:s≤80000)(hs1:1≤s){k p:Nat}(hp:p<3)(h0:p=0→l.getD k 0=0)(h1:p=1→(l.getD k 0 / Ce l k).den=1):∀ x∈aT k p,Le (BM l c k) (BM l c (k+1)) x:=by
 obtain ⟨b1,b2⟩:=qY (k:=k) h hs hs1;have hU:=Qr h k;have hd:=JM (l.getD k 0 / Ce l k);have hN:Ce l (k+1)=Ce l k / (((l.getD k 0 / Ce l k).den:Int):Rat):=rfl;have same:p=0 ∨ p=1→Ce l (k+1)=Ce l k:=λhp=>by
  have:(l.getD k 0 / Ce l k).den=1:=by
   rcases hp with hp | hp
   ·rw [h0 hp,Rat.div_def,Rat.zero_mul]
    rfl
   ·exact h1 hp
  rw [hN,this];show Ce l k / ((1:Int):Rat)=Ce l k
  grind
 have el:∀ j,j<k+1→(p=0 ∨ p=1)→Le (BM l c k) (BM l c (k+1)) (Lm j,Lm j):=λj hj hp=>Dw (by rw [FC,FC,same hp]) (by rw [FC]; exact b2 j hj)
 intro x hx
 match p,hp with
 | 0,_ =>
  simp only [aT,List.mem_cons] at hx
  rcases hx with rfl | rfl | hx
  ·exact Dw (by rw [EX,EX,same (.inl rfl)]) (by rw [EX]; exact b1)
  ·exact Dw (by rw [WU,FC,h0 rfl,Rat.div_def,Rat.zero_mul]) (by rw [FC]; exact b2 k (by omega))
  ·obtain ⟨j,hj,rfl⟩:=List.mem_map.1 hx
   exact el j (by have:=List.mem_range.1 hj; omega) (.inl rfl)
 | 1,_ =>
  simp only [aT,List.mem_cons] at hx
  rcases hx with rfl | rfl | hx
  ·exact Dw (by rw [EX,EX,same (.inr rfl)]) (by rw [EX]; exact b1)
  ·exact Dw (by rw [R4,FC,same (.inr rfl)]) (by rw [FC]; exact b2 k (by omega))
  ·obtain ⟨j,hj,rfl⟩:=List.mem_map.1 hx
   exact el j (by have:=List.mem_range.1 hj; omega) (.inr rfl)
 | 2,_ =>
  simp only [aT,List.mem_cons] at hx
  rcases hx with rfl | rfl | hx
  ·refine Dw ?_ (by rw [EX]; exact b1)
   rw [EX,hN];have e:qD (BM l c k) (.ap 46 (.v 1) (Ko k))=qD (BM l c k) (.v 1) / qD (BM l c k) (Ko k):=by simp only [qD]
   rw [e,EX,OQ]
  ·refine Dw ?_ (by rw [FC]; exact b2 k (by omega))
   have e:qD (BM l c k) (.ap 33 (Pd k) (Ko k))=qD (BM l c k) (Pd k)*qD (BM l c k) (Ko k):=by simp only [qD]
   rw [e,R4,OQ,FC,hN]
   grind
  ·obtain ⟨j,hj,rfl⟩:=List.mem_map.1 hx
   refine Dw ?_ (by rw [FC]; exact b2 j (by have:=List.mem_range.1 hj; omega));have e:qD (BM l c k) (.ap 33 (.v (2+j)) (Ko k))=qD (BM l c k) (.v (2+j))*qD (BM l c k) (Ko k):=by simp only [qD]
   rw [e,FC,OQ,FC,hN]
   grind
theorem sJ(h:Fk D s l)(hs:s≤80000)(hs1:1≤s)(sc:A7 c 50000000)(hn:l.length≤6){V:VL}{q e:CE}(hq:qD V q=c*DX l)(he:lD V e=Ck l){M:Nat→Prop}{w:World}{vc vl:Value}(hm0:∀ b,M b→b<w.heap.size)(hvc:(Ap c).p vc w)(hvl:(XP.rats l).p M w [vl]) :
  Calls Tryz.prog 67 #[vc,vl] w λen w'=>∃ u,en = .returned u ∧ @RV (Ae V) B4 (λb=>b<w.heap.size) w' (.agg [aQ q 50080001,aL e]) u∧Below w.heap.size w w':=by
 have hv:@CH (Ae (BM l c 0)) B4 M w Vk [vc,vl]:=⟨vc,_,rfl,Gl (V:=BM l c 0) (q:=.v 0) hvc sc,vl,_,rfl,Hp (V:=BM l c 0) (e:=.v 0) hvl,rfl⟩;refine Calls.mono (@Xy (Ae (BM l c 0)) _ X_ Yn Vk Vk (λu w'=>@RV (Ae V) B4 (λb=>b<w.heap.size) w' (.agg [aQ q 50080001,aL e]) u) B4 M w [vc,vl] Tryz.func67 Ac9 (by rfl) (by rw [sS]; decide) hm0 hv λa hS=>?_) λe w' h=>h
 rw [AbV X_ sS] at hS;have hA:∀ b,w.heap.size≤b→(λb=>w.heap.size≤b) b:=λ_ h=>h
 have hr0:∀ o p,B4 o=some p→o<16:=λo p e=>by cases e
 have hF0:Bu (BM l c 0) (QR l.length 0 3):=cA h hs λx hx=>by cases hx
 show holds _ [] a w (.run Yn);refine Hz hA hF0 (P7 h hs hs1 hn hF0) (@DU (Ae _)) _ (AbF l.length (by omega)) hS λρ M' a w' hS=>?_
 have hb0:tV l.length=true:=List.all_eq_true.1 Adm _ (List.mem_range.2 (by omega));obtain ⟨ρ,M',hS⟩:=I1 (V':=BM l c 0) (V6 (λp hp=>by
  rcases List.mem_cons.1 hp with rfl | hp
  ·refine Dw ?_ (by rw [EX]; exact (FN h 0).mono (by omega))
   rw [EX];simp only [qD,lD,BM,Ce]
  ·exact uQ sc 0 0 _ _ p hp) rfl rfl rfl) rfl hr0 hb0 hS
 refine Rc (λg:Nat × Bool=>l.length - g.1) (λg=>BM l c g.1) (λg=>g.1≤l.length) (λg=>Y4 l.length g.1 g.2) ?_ (0,Nat.beq l.length 0) (Nat.zero_le _) hS;intro ⟨k,f⟩ hk ρ M' a w' hS;have hk:k≤l.length:=hk;show holds _ [] a w' (.run oO)
 by_cases hkn:k<l.length
 ·-- a round
  refine Classical.byContradiction λhno=>?_
  have go:∀ p,p<3→(∀ x∈Xo k p,decide (qD (BM l c k) x.1=0)=x.2)→(p=0→l.getD k 0=0)→(p=1→(l.getD k 0 / Ce l k).den=1)→False:=λp hp hz h0 h1=>by
   refine hno ?_;have hF:=cA h hs (p:=p) hz;have hb:jB l.length k p f=true:=by
    have:=List.all_eq_true.1 (List.all_eq_true.1 (Aek l.length (by omega)) k (List.mem_range.2 hkn)) p (List.mem_range.2 hp);rw [Bool.and_eq_true] at this
    cases f with
    | true=>exact this.1
    | false=>exact this.2
   refine oG (e:=.nor) (V':=BM l c (k+1)) hA hF (P7 h hs hs1 hn hF) (@DU (Ae _)) (V6 (λx hx=>?_) rfl rfl rfl) rfl hr0 hb hS λρ M' a w' hS=>?_
   ·rcases List.mem_append.1 hx with hx | hx
    ·exact AbO h hs hs1 hp h0 h1 x hx
    ·exact uQ sc _ _ _ _ x hx
   ·exact ⟨(k+1,Nat.beq p 2),ρ,M',hkn,by show l.length - (k+1)<l.length - k; omega,hS⟩
  have hU:=Qr h k
  by_cases hx:l.getD k 0=0
  ·exact go 0 (by decide) (λx hx'=>by
    simp only [Xo,List.mem_singleton] at hx';subst hx';rw [WU];exact decide_eq_true hx) (λ_=>hx) (λe=>by cases e)
  ·have z1:decide (qD (BM l c k) (Yf k)=0)=false:=by rw [WU]; exact decide_eq_false hx
   have z2:decide (qD (BM l c k) (.v 1)=0)=false:=by rw [EX]; exact decide_eq_false hU
   by_cases hd:(l.getD k 0 / Ce l k).den=1
   ·exact go 1 (by decide) (λx hx'=>by
     simp only [Xo,List.mem_cons,List.not_mem_nil,or_false] at hx'
     rcases hx' with rfl | rfl | rfl
     ·exact z1
     ·exact z2
     ·refine decide_eq_true ?_
      rw [ON,R4];exact hd) (λe=>by cases e) (λ_=>hd)
   ·exact go 2 (by decide) (λx hx'=>by
     simp only [Xo,List.mem_cons,List.not_mem_nil,or_false] at hx'
     rcases hx' with rfl | rfl | rfl | rfl
     ·exact z1
     ·exact z2
     ·refine decide_eq_false ?_
      rw [ON,R4];exact hd
     ·refine decide_eq_false ?_
      rw [OQ];exact JM _) (λe=>by cases e) (λe=>by cases e)
 ·-- the end
  obtain rfl:k=l.length:=by omega
  have hF:=cA (c:=c) (k:=l.length) (p:=3) h hs λx hx=>by cases hx
  have hbx:WO l.length f=true:=by
   have:=List.all_eq_true.1 AdY l.length (List.mem_range.2 (by omega));rw [Bool.and_eq_true] at this
   cases f with
   | true=>exact this.1
   | false=>exact this.2
  unfold WO at hbx;split at hbx
  ·rename_i s1 s2 h1 h2
   refine Hz hA hF (P7 h hs hs1 hn hF) (@DU (Ae _)) _ h1 hS λρ M' a w' hS=>?_
   show holds _ lO a w' (.at_ (.ext 0));have h2:CP (fP l.length l.length 3) AO 300 300 (.at_ (.ext 0)) lO (F0 (fR l.length f))=_:=h2;rw [h1] at h2;refine Hz hA hF (P7 h hs hs1 hn hF) (@DU (Ae _)) _ h2 hS λρ M' a w' hS=>?_
   unfold AcW at hbx;split at hbx
   ·rename_i lv hl
    split at hbx
    ·rename_i r hr
     have hr2:=Fl hbx;subst hr2;refine ⟨.inr rfl,Ae (BM l c l.length),_,ρ,M',_,.agg lv,hS,hl,rfl,λa' w' hS v hv=>?_⟩;have hres:=YS (M:=λb=>b<w.heap.size) hF (λ_ h=>h) hS hr hv;obtain ⟨cs,rfl,hc⟩:=hres;refine ⟨cs,rfl,?_⟩;unfold AU at hc ⊢;obtain ⟨x,y,e1,r1,r2⟩:=hc;unfold AU at r2 ⊢;obtain ⟨x2,y2,e2,r3,r4⟩:=r2;have hU:=FN h l.length;refine ⟨x,y,e1,Dw (V:=BM l c l.length) (V':=V) ?_ ?_ B4 B4 _ w' x r1,x2,y2,e2,L6 (V:=BM l c l.length) (V':=V) ?_ B4 B4 _ w' x2 r3,r4⟩
     ·rw [hq]
      simp only [qD];have e1:=EX (l:=l) (c:=c) l.length;simp only [qD] at e1;rw [e1];rfl
     ·rw [hq]
      exact (sc.mul hU).mono (by omega)
     ·rw [he,Hx]
      unfold Ck;apply List.ext_getElem
      ·simp
      ·intro j hj1 hj2
       simp only [List.getElem_map,List.getElem_range];rw [FC,List.getD_eq_getElem?_getD,List.getElem?_eq_getElem (by simpa using hj2)];rfl
    ·cases hbx
   ·cases hbx
  ·cases hbx
theorem Aex(h:Fk D s l)(hs:s≤80000)(hs1:1≤s)(sc:A7 c 50000000)(hn:l.length≤6){V:VL}{q e:CE}(hq:qD V q=c*DX l)(he:lD V e=Ck l){M:Nat→Prop}{w:World}{vc vl:Value}(hm0:∀ b,M b→b<w.heap.size)(hvc:(Ap c).p vc w)(hvl:(XP.rats l).p M w [vl]) :
  Calls Tryz.prog 67 #[vc,vl] w λen w'=>∃ u,en = .returned u ∧ @RV (Ae V) B4 M w' (.agg [aQ q 50080001,aL e]) u∧Below w.heap.size w w':=
 Calls.mono (sJ h hs hs1 sc hn hq he hm0 hvc hvl) λ_ _ ⟨u,e1,e2,e3⟩=>⟨u,e1,@PT (Ae V) (λo=>some o) B4 B4 _ _ _ (λ_ _ _ _ e=>by cases e) (λb hb=>hm0 b hb) _ _ _ rfl e2,e3⟩
end
def YT(E E':B5)(l l':List AV):Prop:=∀(ρ ρ':Bg)(M:Nat→Prop)(w:World)(cs:List Value),@AU E ρ M w l cs → @AU E' ρ' M w l' cs
def Eg(σ:Nat→Option Nat)(ρ:Bg):Bg:=λx=>(σ x).bind ρ
structure Nt (E E':B5) (H Hc:HP) (σ:Nat→Option Nat):Prop where
 inj:∀ x y o,σ x=some o→σ y=some o→x=y
 low:∀ x o,σ x=some o→16≤x
 to:∀ x b',lk Hc x=some b'→∃ o b l,σ x=some o∧lk H o=some b∧b' = { b with cs:=l } ∧ b.bl=none∧YT E E' b.cs l
 fro:∀ o b,lk H o=some b→∃ x b',σ x=some o∧lk Hc x=some b'
section
variable {E E' : B5} {ρ : Bg} {M : Nat → Prop} {w w' : World} {H Hc : HP} {σ : Nat → Option Nat} {t0 n0 : Nat} {v : Value}
theorem Nt.st0(hc:Nt E E' H Hc σ)(hs:@CI E ρ M (@Dl ρ w (lk H)) w t0 (lk H)):@CI E' (Eg σ ρ) M (@Dl (Eg σ ρ) w (lk Hc)) w 0 (lk Hc):=by
 obtain ⟨⟨hobj,hinj⟩,hbnd,hnew,hfresh⟩:=hs;refine @CI.mk E' _ _ _ _ _ _ (@RH.mk E' _ _ _ _ _ (λx b' e=>?_) (λx x' b b' g c c' e e' q q'=>?_)) hbnd (λx _ hx=>?_) (λb hb=>.inl hb)
 ·obtain ⟨o,b,l,h1,h2,rfl,h3,h4⟩:=hc.to x b' e
  obtain ⟨g,c,arr,cs,k1,k2,k3,k4,k5,k6,k7,k8⟩:=hobj o b h2;have hat:Eg σ ρ x=some (g,c):=by
   unfold Eg;rw [h1];exact k1
  have hr:=@Bn.rps E _ _ _ _ _ k6 h3;exact ⟨g,c,arr,cs,@Ij.mk E' _ _ _ _ _ _ _ _ _ _ hat k2 (.inr ⟨x,_,c,e,hat⟩) k4 k5 (@Bn.of E' _ _ _ _ _ (h4 _ _ _ _ _ hr) h3) k7 k8⟩
 ·obtain ⟨o,b1,l1,h1,h2,_,_,_⟩:=hc.to x b e
  obtain ⟨o',b2,l2,h1',h2',_,_,_⟩:=hc.to x' b' e';unfold Eg at q q';rw [h1] at q;rw [h1'] at q';have:o=o':=hinj o o' b1 b2 g c c' h2 h2' q q';subst this;exact hc.inj x x' o h1 h1'
 ·unfold Eg
  cases hσ:σ x with
  | none=>rfl
  | some o =>
   have:=hc.low x o hσ;omega
def pV(σ:Nat→Option Nat)(t0:Nat)(x:Nat):Option Nat:=if x<16 then some (t0+x) else σ x
theorem Nt.back(hc:Nt E E' H Hc σ)(hs:@CI E ρ M (@Dl ρ w (lk H)) w t0 (lk H)){Uc U:HP}{rc r:AV}(hp:@BF E' (Eg σ ρ) M (@Dl (Eg σ ρ) w (lk Hc)) w 0 (lk Hc) Uc rc v w')
  (hr:∀(ρ' ρ2:Bg)(M':Nat→Prop),(∀ x o p,pV σ t0 x=some o→ρ' x=some p→ρ2 o=some p) → @RV E' ρ' M' w' rc v → @RV E ρ2 M' w' r v)
  (hU:∀ o b,CT (lk H) U o=some b→∃ x b' l,pV σ t0 x=some o∧CT (lk Hc) Uc x=some b'∧b = { b' with cs:=l } ∧ b'.bl=none∧YT E' E b'.cs l)
  (hk:∀ x b',lk Hc x=some b'→(∃ y∈Uc,y.1=x)→∃ o,σ x=some o∧∃ y∈U,y.1=o):@BF E ρ M (@Dl ρ w (lk H)) w t0 (lk H) U r v w':=by
 obtain ⟨ρ',M',ht,hv,⟨hRo,hRi⟩,hsup,hm1,hm2,hbnd,hfr,hkp⟩:=hp;obtain ⟨⟨hobj,hinj⟩,hbnd0,hnew,hfresh⟩:=hs
 let ρ2:Bg:=λo=>if t0≤o∧o<t0+16 then ρ' (o - t0) else ρ o
 have hold:∀ o p,ρ o=some p→ρ2 o=some p:=λo p e=>by
  show (if t0≤o∧o<t0+16 then ρ' (o - t0) else ρ o)=some p;rw [if_neg]
  ·exact e
  ·rintro ⟨k1,k2⟩
   rw [hnew o k1 k2] at e
   cases e
 have hτ:∀ x o p,pV σ t0 x=some o→ρ' x=some p→ρ2 o=some p:=λx o p e1 e2=>by
  unfold pV at e1;split at e1
  ·rename_i hx
   cases e1
   show (if t0≤t0+x∧t0+x<t0+16 then ρ' (t0+x - t0) else ρ (t0+x))=some p;rw [if_pos ⟨by omega,by omega⟩,show t0+x - t0=x by omega];exact e2
  ·rcases hsup x p e2 with h | h
   ·unfold Eg at h
    rw [e1] at h;exact hold o p h
   ·omega
 have hO:∀ b,@Dl (Eg σ ρ) w (lk Hc) b → @Dl ρ w (lk H) b:=λb h=>by
  rcases h with h | ⟨x,b',c,h1,h2⟩
  ·exact .inl h
  ·obtain ⟨o,b1,l,k1,k2,_⟩:=hc.to x b' h1
   unfold Eg at h2;rw [k1] at h2;exact .inr ⟨o,b1,c,k2,h2⟩
 refine ⟨ρ2,M',⟨ht.grow,ht.keep,ht.mono,hold⟩,hr ρ' ρ2 M' hτ hv,@RH.mk E _ _ _ _ _ (λo b e=>?_) (λo o' b b' g c c' e e' q q'=>?_),λo p e=>?_,hm1,hm2,hbnd,⟨hfr.os,hfr.tape,hfr.output,hfr.size,λb hb hA=>?_⟩,λo b g c e1 e2 e3=>?_⟩
 ·obtain ⟨x,b',l,h1,h2,rfl,h3,h4⟩:=hU o b e
  obtain ⟨g,c,arr,cs,k1,k2,k3,k4,k5,k6,k7,k8⟩:=hRo x b' h2;exact ⟨g,c,arr,cs,@Ij.mk E _ _ _ _ _ _ _ _ _ _ (hτ x o _ h1 k1) k2 (hO g k3) k4 k5 (@Bn.of E _ _ _ _ _ (h4 _ _ _ _ _ (@Bn.rps E' _ _ _ _ _ k6 h3)) h3) k7 k8⟩
 ·obtain ⟨x,b1,l,h1,h2,_,_,_⟩:=hU o b e
  obtain ⟨x',b2,l',h1',h2',_,_,_⟩:=hU o' b' e';obtain ⟨g1,c1,_,_,k1,_⟩:=hRo x b1 h2;obtain ⟨g2,c2,_,_,k2,_⟩:=hRo x' b2 h2';have e1:=hτ x o _ h1 k1;have e2:=hτ x' o' _ h1' k2;rw [q] at e1;rw [q'] at e2;simp only [Option.some.injEq,Prod.mk.injEq] at e1 e2;have:x=x':=hRi x x' b1 b2 g1 c1 c2 h2 h2' k1 (by rw [k2,← e2.1,e1.1]);subst this;rw [h1] at h1';exact Option.some.inj h1'
 ·by_cases ho:t0≤o∧o<t0+16
  ·exact .inr ho
  ·refine .inl ?_
   have:ρ2 o=ρ o:=if_neg ho;rw [← this];exact e
 ·by_cases hx:@Dl (Eg σ ρ) w (lk Hc) b
  ·exact absurd (hO b hx) hA
  ·exact hfr.keep b hb hx
 ·obtain ⟨x,b',h1,h2⟩:=hc.fro o b e1
  refine hkp x b' g c h2 (λy hy e=>?_) ?_
  ·obtain ⟨o',h3,z,h4,h5⟩:=hk x b' h2 ⟨y,hy,e⟩
   rw [h1] at h3
   cases h3
   exact e2 z h4 h5
  ·unfold Eg
   rw [h1];exact e3
theorem ZK{E E2:B5}{f:Nat}{fn:Func}{c:Code}{ρ0:Bg}{H0:HP}{xs:List AV}{r:AV}{U:HP}{vs:List Value}(hf:Tryz.prog.funcs[f]? = some fn)(hb:fn.body=some c)(hs:@CI E ρ0 M (@Dl ρ0 w (lk H0)) w 0 (lk H0))(hs2:@CI E2 ρ0 M (@Dl ρ0 w (lk H0)) w 0 (lk H0))(hd:∀ o p,ρ0 o=some p→o<n0)(hv:@CH E ρ0 M w xs vs)
  (h:∀ a,@FS E (@Dl ρ0 w (lk H0)) w ρ0 M H0 n0 ⟨xs ++ List.replicate (fn.ntmps - xs.length) (.val undef),H0,n0,[]⟩ ρ0 M a w→c.wp Tryz.prog (λe a w'=>(e = .normal ∨ e = .ret)∧∃ s ρ' M',@FS E2 (@Dl ρ0 w (lk H0)) w ρ0 M H0 n0 s ρ' M' a w'∧Ue H0 n0 0 fn s=some (r,U)) a w) :
  Calls Tryz.prog f vs.toArray w λe w'=>∃ v,e = .returned v ∧ @BF E2 ρ0 M (@Dl ρ0 w (lk H0)) w 0 (lk H0) U r v w':=by
 refine callsIn_wide.1 (callsIn_of_wp_marks (F:=DR none) (n:=9) hf hb trivial ((@Fu E _ _ _ _).2 (Code.wp_mono ?_ (h { tmps:=vs.toArray ++ Array.replicate (fn.ntmps - vs.toArray.size) undef,defers:=[] } ?_))))
 ·intro e a' w' ⟨he,s,ρ',M',hF',hfin⟩
  letI:=E2
  have hkk:∀ x b g c,lk H0 x=some b→ρ0 x=some (g,c)→g<w.heap.size:=λx b g c e1 e2=>OL hs2.heap e1 e2
  have key:LeavesInM (DR none) 9 Tryz.prog fn a'.tmps (λe w'=>∃ v,e = .returned v∧BF ρ0 M (Dl ρ0 w (lk H0)) w 0 (lk H0) U r v w') a'.defers .returning w':=by
   refine Dh hs2.fresh hkk a'.defers a' w' hF' rfl rfl λa2 w2 hF2 ht2=>?_
   unfold Ue at hfin;split at hfin
   ·rename_i l hl
    split at hfin
    ·rename_i r0 hr0
     obtain ⟨v,e1,e2⟩:=DN hF2 hs2.fresh hl hr0;rw [ht2] at e1;exact ⟨v,e1,v,rfl,Jt hs2 hd hF2 e2 hfin⟩
    ·cases hfin
   ·cases hfin
  rcases he with rfl | rfl
  ·exact key
  ·exact key
 ·exact @RQ E _ _ _ fn _ _ _ _ _ hs hd hv
end
section
variable {V : VL} {F : Fa} {M : Nat → Prop} {w : World}
def kdA(ks:List Kd):Option (AV × HP)→Option (List AV)
 | some (.agg l,U)=>H8 U ks l
 | _=>none
theorem Xd{L:List PE}{f m:Nat}{xs:List AV}{ks:List Kd}{r:List AV}(hF:Bu V F)(hL:∀ e∈L,@PE.ok (Ae V) e)(h:kdA ks (Cz AO (EA (V8 F L) AO m) f xs [] 16 0)=some r){vs:List Value}(hm0:∀ b,M b→b<w.heap.size)(hv:@CH (Ae V) B4 M w xs vs) :
  Calls Tryz.prog f vs.toArray w λe w'=>∃ u,e = .returned u ∧ @RV (Ae V) B4 M w' (.agg r) u∧Below w.heap.size w w':=by
 letI:=Ae V
 generalize hr:Cz AO (EA (V8 F L) AO m) f xs [] 16 0=o at h;unfold kdA at h;split at h
 ·rename_i l U
  obtain ⟨_,hcall⟩:=Eu Bv (FQ (Pt hF hL) Bv m).1 f xs [] 16 0 _ _ hr;have hs:CI B4 M (Dl B4 w (lk [])) w 0 (lk []):=⟨⟨λo b e=>(by cases e),λo o' b b' g c c' e=>(by cases e)⟩,hm0,λ_ _ _=>rfl,λb hb=>.inl hb⟩;refine Calls.mono (hcall B4 M w vs hs (λo p e=>(by cases e)) (by decide) hv) λe w' ⟨v,e1,ρ',M',ht,hv',hR,_,hsup,_,_,hfr,_⟩=>⟨v,e1,?_,⟨hfr.os,hfr.tape,hfr.output,hfr.size,λb hb=>hfr.keep b hb ?_⟩⟩
  ·obtain ⟨cs,rfl,hc⟩:=hv'
   exact ⟨cs,rfl,LY hF hm0 hsup hR h hc⟩
  ·rintro (h1 | ⟨_,_,_,h1,_⟩)
   ·omega
   ·cases h1
 ·cases h
end
def R5(c:Rat)(a:List Rat)(d:Rat)(b:List Rat):List Rat:=(List.range a.length).map λi=>c*a.getD i 0 - d*b.getD i 0
def NC(k i:Nat):CE:=.ap 30 (.v k) (.i 0 (i:Int))
def DB:Nat:=20001
def dcQ(a:AV):Option (CE × Nat):=match a with
 | .ext 4 true (.ap 52 q (.lit n))=>if Nat.ble n.toNat 20001 then some (q,n.toNat) else none
 | _=>none
def dcB(b:Option OB):Option (CE × Nat):=match b with
 | some ⟨T,1,[a],false,none⟩=>if Nat.beq T 36 then dcQ a else none
 | _=>none
def dcC:Bx:=λf xs H _ _=>match xs with
 | [x,y,.ptr oc 0,.ptr od 0]=>match dcQ x,dcQ y,dcB (lk H oc),dcB (lk H od) with
  | some p,some q,some c,some d=>if Nat.beq f 99 && !Nat.beq oc od && H.all (λz=>Nat.beq z.1 oc || Nat.beq z.1 od) then some (aQ (.ap 32 (.ap 33 c.1 p.1) (.ap 33 d.1 q.1)) 80010,[]) else none
  | _,_,_,_=>none
 | _=>none
def iM:Nat→List (CE × Bool)
 | 0=>[(.v 1,false)]
 | 1=>[(.v 1,true),(.v 0,false)]
 | _=>[(.v 1,true),(.v 0,true)]
def Ab3(p:Nat):Fa:=⟨[],[],[],iM p,[],[],[]⟩
def oN:HP:=[(16,some ⟨36,1,[aQ (.v 2) 20001],false,none⟩),(17,some ⟨36,1,[aQ (.v 3) 20001],false,none⟩)]
noncomputable def oX(p:Nat):Option (AV × HP):=Cz AO (EA (V8 (Ab3 p) []) AO 200) 99 [aQ (.v 0) 20001,aQ (.v 1) 20001,.ptr 16 0,.ptr 17 0] oN 32 0
def M4:Nat→CE
 | 0=>.ap 32 (.ap 33 (.v 2) (.v 0)) (.ap 33 (.v 3) (.v 1))
 | 1=>.ap 33 (.v 2) (.v 0)
 | _=>.v 0
def dI(q:CE)(b:Nat)(o:Option (AV × HP)):Bool:=match o with
 | some (.ext 4 true (.ap 52 q' (.lit n)),[])=>CE.beq q q' && Nat.ble n.toNat b
 | _=>false
noncomputable def gE:Bool:=dI (M4 0) 80010 (oX 0) && dI (M4 1) 80010 (oX 1) && dI (M4 2) 80010 (oX 2)
theorem yB:gE=true:=by kernel_rfl
theorem RO{b:Option OB}{c:CE × Nat}(h:dcB b=some c):∃ n:Int,c.2=n.toNat∧n.toNat≤20001∧b=some ⟨36,1,[.ext 4 true (.ap 52 c.1 (.lit n))],false,none⟩:=by
 unfold dcB at h;split at h
 ·split at h
  ·rename_i T a hT
   rw [Nat.eq_of_beq_eq_true hT];unfold dcQ at h;split at h
   ·split at h
    ·rename_i n hn
     cases h
     exact ⟨n,rfl,Nat.le_of_ble_eq_true hn,rfl⟩
    ·cases h
   ·cases h
  ·cases h
 ·cases h
theorem RR{a:AV}{c:CE × Nat}(h:dcQ a=some c):∃ n:Int,c.2=n.toNat∧n.toNat≤20001∧a = .ext 4 true (.ap 52 c.1 (.lit n)):=by
 unfold dcQ at h;split at h
 ·split at h
  ·rename_i n hn
   cases h
   exact ⟨n,rfl,Nat.le_of_ble_eq_true hn,rfl⟩
  ·cases h
 ·cases h
theorem Og{V V':VL}{q q':CE}{n:Int}{m:Nat}(h:qD V q=qD V' q')(hs:n.toNat≤m):Le V V' (.ext 4 true (.ap 52 q (.lit n)),aQ q' m):=λρ ρ' M w cs r=>by
 unfold Rp at r ⊢;refine ⟨r.1,?_⟩;obtain ⟨s,a,b,c,d,e,h1,h2⟩:=r.2;show (XP.num (qD V' q') ((m:Int)).toNat).p M w cs;rw [← h];exact ⟨s.mono (by simpa using hs),a,b,c,d,e,h1,h2⟩
theorem sE{V V':VL}{q q':CE}{n:Int}{m:Nat}(h:qD V q=qD V' q')(hs:A7 (qD V q) n.toNat):Le V V' (aQ q m,.ext 4 true (.ap 52 q' (.lit n))):=λρ ρ' M w cs r=>by
 unfold Rp at r ⊢;refine ⟨r.1,?_⟩;obtain ⟨_,a,b,c,d,e,h1,h2⟩:=r.2;show (XP.num (qD V' q') n.toNat).p M w cs;rw [← h];exact ⟨hs,a,b,c,d,e,h1,h2⟩
theorem zS{H:HP}{o:Nat}{b:OB}(h:lk H o=some b):∃ z∈H,z.1=o:=by
 induction H with
 | nil=>cases h
 | cons x r ih =>
  unfold lk at h;split at h
  ·rename_i hb
   exact ⟨x,List.mem_cons_self ..,Nat.eq_of_beq_eq_true hb⟩
  ·obtain ⟨z,hz,e⟩:=ih h
   exact ⟨z,List.mem_cons_of_mem _ hz,e⟩
theorem Qf{V V':VL}{a a':AV}(h:Le V V' (a,a')):YT (Ae V) (Ae V') [a] [a']:=λρ ρ' M w cs r=>by
 unfold AU at r ⊢;obtain ⟨x,y,e,h1,h2⟩:=r;refine ⟨x,y,e,h ρ ρ' M w x h1,?_⟩;unfold AU at h2 ⊢;exact h2
def Eh(x y c d:Rat):VL:=⟨λ_=>0,λ_=>[],λk=>match k with | 0=>x | 1=>y | 2=>c | 3=>d | _=>0,λ_=>[]⟩
theorem Im{q:CE}{b:Nat}{o:Option (AV × HP)}(h:dI q b o=true):∃ n:Int,o=some (.ext 4 true (.ap 52 q (.lit n)),[])∧n.toNat≤b:=by
 unfold dI at h;split at h
 ·rw [Bool.and_eq_true] at h
  rw [CE.beq_eq h.1];exact ⟨_,rfl,Nat.le_of_ble_eq_true h.2⟩
 ·cases h
theorem mE(x y c d:Rat):∃ p,p<3∧(∀ z∈iM p,decide (qD (Eh x y c d) z.1=0)=z.2)∧qD (Eh x y c d) (M4 p)=c*x - d*y:=by
 have e0:qD (Eh x y c d) (.v 0)=x:=by simp only [qD,Eh]
 have e1:qD (Eh x y c d) (.v 1)=y:=by simp only [qD,Eh]
 have e2:qD (Eh x y c d) (.v 2)=c:=by simp only [qD,Eh]
 have e3:qD (Eh x y c d) (.v 3)=d:=by simp only [qD,Eh]
 by_cases hy:y=0
 ·by_cases hx:x=0
  ·refine ⟨2,by decide,λz hz=>?_,?_⟩
   ·simp only [iM,List.mem_cons,List.not_mem_nil,or_false] at hz
    rcases hz with rfl | rfl
    ·rw [e1]; exact decide_eq_true hy
    ·rw [e0]; exact decide_eq_true hx
   ·show qD _ (.v 0)=_
    rw [e0,hx,hy]
    grind
  ·refine ⟨1,by decide,λz hz=>?_,?_⟩
   ·simp only [iM,List.mem_cons,List.not_mem_nil,or_false] at hz
    rcases hz with rfl | rfl
    ·rw [e1]; exact decide_eq_true hy
    ·rw [e0]; exact decide_eq_false hx
   ·have:qD (Eh x y c d) (M4 1)=qD (Eh x y c d) (.v 2)*qD (Eh x y c d) (.v 0):=by simp only [M4,qD]
    rw [this,e0,e2,hy]
    grind
 ·refine ⟨0,by decide,λz hz=>?_,?_⟩
  ·simp only [iM,List.mem_singleton] at hz
   subst hz;rw [e1];exact decide_eq_false hy
  ·have:qD (Eh x y c d) (M4 0)=qD (Eh x y c d) (.v 2)*qD (Eh x y c d) (.v 0) - qD (Eh x y c d) (.v 3)*qD (Eh x y c d) (.v 1):=by simp only [M4,qD]
   rw [this,e0,e1,e2,e3]
theorem Acd:∀ p,p<3→∃ n:Int,oX p=some (.ext 4 true (.ap 52 (M4 p) (.lit n)),[])∧n.toNat≤80010:=λp hp=>by
 have h:=yB;unfold gE at h;simp only [Bool.and_eq_true] at h
 match p,hp with
 | 0,_=>exact Im h.1.1
 | 1,_=>exact Im h.1.2
 | 2,_=>exact Im h.2
theorem yJ{V:VL}:@Ch (Ae V) dcC:=by
 intro f xs H n0 t0 r U h;unfold dcC at h;split at h
 ·rename_i x y oc od
  split at h
  ·rename_i p q c d hp hq hc hd
   split at h
   ·rename_i hcond
    cases h
    rw [Bool.and_eq_true,Bool.and_eq_true] at hcond;obtain ⟨⟨hf,hne⟩,hall⟩:=hcond;have hf:=Nat.eq_of_beq_eq_true hf;subst hf;have hne:oc≠od:=λe=>by
     subst e;simp at hne
    obtain ⟨n1,_,l1,rfl⟩:=RR hp;obtain ⟨n2,_,l2,rfl⟩:=RR hq;obtain ⟨n3,_,l3,ec⟩:=RO hc;obtain ⟨n4,_,l4,ed⟩:=RO hd;have hkeys:∀ o b,lk H o=some b→o=oc ∨ o=od:=λo b e=>by
     obtain ⟨z,hz,rfl⟩:=zS e;have:=List.all_eq_true.1 hall z hz;rw [Bool.or_eq_true] at this
     rcases this with h | h
     ·exact .inl (Nat.eq_of_beq_eq_true h)
     ·exact .inr (Nat.eq_of_beq_eq_true h)
    obtain ⟨pc,hpc,hz,hres⟩:=mE (qD V p.1) (qD V q.1) (qD V c.1) (qD V d.1);generalize hV':Eh (qD V p.1) (qD V q.1) (qD V c.1) (qD V d.1)=V' at hz hres;have e0:qD V' (.v 0)=qD V p.1:=by rw [← hV']; simp only [qD,Eh]
    have e1:qD V' (.v 1)=qD V q.1:=by rw [← hV']; simp only [qD,Eh]
    have e2:qD V' (.v 2)=qD V c.1:=by rw [← hV']; simp only [qD,Eh]
    have e3:qD V' (.v 3)=qD V d.1:=by rw [← hV']; simp only [qD,Eh]
    have hF:Bu V' (Ab3 pc):=I7 (λk=>by rw [← hV']; rfl) (λx hx=>by cases hx) (λx hx=>by cases hx) hz (λx hx=>by cases hx);obtain ⟨nr,hrun,hnr⟩:=Acd pc hpc;obtain ⟨hpl,hcall⟩:=@Eu (Ae V') _ _ Bv _ (@FQ (Ae V') _ _ (Pt hF (λ_ h=>by cases h)) Bv 200).1 _ _ oN 32 0 _ _ hrun;refine ⟨hpl,λρ M w vs hs hdom htn hv=>?_⟩
    let σ:Nat→Option Nat:=λk=>if k=16 then some oc else if k=17 then some od else none
    have hcan:Nt (Ae V) (Ae V') H oN σ:=by
     refine ⟨λx y o h1 h2=>?_,λx o h1=>?_,λx b' e=>?_,λo b e=>?_⟩
     ·dsimp only [σ] at h1 h2
      split at h1 <;> split at h2 <;> simp_all
     ·dsimp only [σ] at h1
      split at h1
      ·omega
      ·split at h1
       ·omega
       ·cases h1
     ·unfold oN lk at e
      split at e
      ·rename_i hx
       have hx:=Nat.eq_of_beq_eq_true hx;subst hx
       cases e
       exact ⟨oc,_,_,rfl,ec,rfl,rfl,Qf (Og e2.symm l3)⟩
      ·unfold lk at e
       split at e
       ·rename_i hx
        have hx:=Nat.eq_of_beq_eq_true hx;subst hx
        cases e
        exact ⟨od,_,_,rfl,ed,rfl,rfl,Qf (Og e3.symm l4)⟩
       ·cases e
     ·rcases hkeys o b e with rfl | rfl
      ·exact ⟨16,_,rfl,rfl⟩
      ·exact ⟨17,_,rfl,rfl⟩
    have hs':=hcan.st0 hs;obtain ⟨va,_,rfl,h1,vb,_,rfl,h2,vc,_,rfl,h3,vd,_,rfl,h4,h5⟩:=hv;have h5:_=[]:=h5;subst h5;have hv':@CH (Ae V') (Eg σ ρ) M w [aQ (.v 0) 20001,aQ (.v 1) 20001,.ptr 16 0,.ptr 17 0] [va,vb,vc,vd]:=by
     obtain ⟨c1,rfl,h1⟩:=h1;obtain ⟨c2,rfl,h2⟩:=h2;refine ⟨_,_,rfl,⟨c1,rfl,Og e0.symm l1 ρ _ M w _ h1⟩,_,_,rfl,⟨c2,rfl,Og e1.symm l2 ρ _ M w _ h2⟩,vc,_,rfl,?_,vd,_,rfl,?_,rfl⟩
     ·have h3:@Rp (Ae V) ρ M w (.ptr oc 0) [vc]:=h3
      show @Rp (Ae V') (Eg σ ρ) M w (.ptr 16 0) [vc];unfold Rp at h3 ⊢;exact h3
     ·have h4:@Rp (Ae V) ρ M w (.ptr od 0) [vd]:=h4
      show @Rp (Ae V') (Eg σ ρ) M w (.ptr 17 0) [vd];unfold Rp at h4 ⊢;exact h4
    have hd':∀ x p,Eg σ ρ x=some p→x<32:=λx p e=>by
     unfold Eg at e;obtain ⟨o,ho,_⟩:=Option.bind_eq_some_iff.1 e;dsimp only [σ] at ho;split at ho
     ·omega
     ·split at ho
      ·omega
      ·cases ho
    have hcode:qD V (.ap 32 (.ap 33 c.1 p.1) (.ap 33 d.1 q.1))=qD V' (M4 pc):=by
     rw [hres];simp only [qD]
    obtain ⟨⟨hobj,_⟩,_⟩:=id hs;have size:∀(o:Nat)(cc:CE)(n:Int),lk H o=some ⟨36,1,[.ext 4 true (.ap 52 cc (.lit n))],false,none⟩→A7 (qD V cc) n.toNat:=λo cc n e=>by
     obtain ⟨g,c,arr,cs,_,_,_,_,_,k6,_,_⟩:=hobj o _ e;have k6:=@Bn.rps (Ae V) _ _ _ _ _ k6 rfl;unfold AU at k6;obtain ⟨x,y,_,k,_⟩:=k6;unfold Rp at k;exact k.2.1
    refine Calls.mono (hcall (Eg σ ρ) M w _ hs' hd' (by decide) hv') λe w' ⟨v,e1,hpost⟩=>⟨v,e1,hcan.back hs hpost (λρ' ρ2 M' _ hr=>?_) (λo b e=>?_) (λx b' _ hy=>?_)⟩
    ·obtain ⟨cs,rfl,hc⟩:=hr
     exact ⟨cs,rfl,Og hcode.symm hnr _ _ _ _ _ hc⟩
    ·rcases hkeys o b e with rfl | rfl
     ·have e:lk H o=some b:=e
      have hs2:=size _ _ _ ec;rw [ec] at e
      cases e
      exact ⟨16,_,_,rfl,rfl,rfl,rfl,Qf (sE e2 (by rw [e2]; exact hs2))⟩
     ·have e:lk H o=some b:=e
      have hs2:=size _ _ _ ed;rw [ed] at e
      cases e
      exact ⟨17,_,_,rfl,rfl,rfl,rfl,Qf (sE e3 (by rw [e3]; exact hs2))⟩
    ·obtain ⟨y,hy,_⟩:=hy
     cases hy
   ·cases h
  ·cases h
 ·cases h
theorem W4{V:VL}{F:Fa}{M:Nat→Prop}{w:World}{L:List PE}{C:Bx}{f m:Nat}{xs:List AV}{ks:List Kd}{r:AV}(hF:Bu V F)(hL:∀ e∈L,@PE.ok (Ae V) e)(hC:@Ch (Ae V) C)(h:kC ks (Cz AO (EA (Yw F L C) AO m) f xs [] 16 0)=some r){vs:List Value}(hm0:∀ b,M b→b<w.heap.size)(hv:@CH (Ae V) B4 M w xs vs) :
  Calls Tryz.prog f vs.toArray w λe w'=>∃ u,e = .returned u ∧ @RV (Ae V) B4 M w' r u∧Below w.heap.size w w':=by
 letI:=Ae V
 generalize hr:Cz AO (EA (Yw F L C) AO m) f xs [] 16 0=o at h
 cases o with
 | none=>unfold kC at h; cases h
 | some p =>
  obtain ⟨a,U⟩:=p;obtain ⟨_,hcall⟩:=Eu Bv (FQ (T:=Yw F L C) (@Fj.mk (Ae V) _ (FB hF hL) (GC hF) hC) Bv m).1 f xs [] 16 0 _ _ hr;have hs:CI B4 M (Dl B4 w (lk [])) w 0 (lk []):=⟨⟨λo b e=>(by cases e),λo o' b b' g c c' e=>(by cases e)⟩,hm0,λ_ _ _=>rfl,λb hb=>.inl hb⟩;refine Calls.mono (hcall B4 M w vs hs (λo p e=>(by cases e)) (by decide) hv) λe w' ⟨v,e1,ρ',M',ht,hv',hR,_,hsup,_,_,hfr,_⟩=>⟨v,e1,?_,⟨hfr.os,hfr.tape,hfr.output,hfr.size,λb hb=>hfr.keep b hb ?_⟩⟩
  ·unfold kC at h
   split at h
   ·rename_i l U' e2
    cases e2
    obtain ⟨rs,h1,rfl⟩:=Option.map_eq_some_iff.1 h;obtain ⟨ws,rfl,q⟩:=hv';exact ⟨ws,rfl,JQ hF hm0 hsup hR h1 q⟩
   ·rename_i a' U' hne e2
    cases e2
    split at h
    ·rename_i k
     have hv1:@Bz (Ae V) ρ' M' w' a v:=by
      cases a with
      | tup l=>exact (hne l rfl).elim
      | _=>exact hv'
     exact @Bz.rv (Ae V) B4 M w' r v (Ed hF hm0 hsup hR h hv1)
    ·cases h
   ·rename_i e2
    cases e2
  ·rintro (h1 | ⟨_,_,_,h1,_⟩)
   ·omega
   ·cases h1
def mM(n:Nat):Fa:=⟨[],[(.v 0,0,(n:Int)),(.v 1,0,(n:Int))],[(.v 0,20001),(.v 1,20001)],[],[],[],[]⟩
def mR(i:Nat):CE:=.ap 32 (.ap 33 (.v 0) (NC 0 i)) (.ap 33 (.v 1) (NC 1 i))
def Abs:List AV:=[aQ (.v 0) 20001,aL (.v 0),aQ (.v 1) 20001,aL (.v 1)]
noncomputable def Aez(n:Nat):Option AV:=kC [.L] (Cz AO (EA (Yw (mM n) [] dcC) AO 200) 73 Abs [] 16 0)
def isL(l:List CE)(o:Option AV):Bool:=match o with
 | some a=>EV a (aL (F6 l))
 | none=>false
noncomputable def wE:Bool:=(List.range 7).all λn=>isL ((List.range n).map mR) (Aez n)
theorem uY:wE=true:=by kernel_rfl
theorem Yu{l:List CE}{o:Option AV}(h:isL l o=true):o=some (aL (F6 l)):=by
 unfold isL at h;split at h
 ·rw [Ft h]
 ·cases h
def ME(l p:List Rat)(c d:Rat):VL:=⟨λ_=>0,λk=>match k with | 0=>l | 1=>p | _=>[],λk=>match k with | 0=>c | 1=>d | _=>0,λ_=>[]⟩
theorem Aev{l p:List Rat}{c d:Rat}(hl:∀ x∈l,A7 x 20001)(hp:∀ x∈p,A7 x 20001)(hc:A7 c 20001)(hd:A7 d 20001)(hn:l.length≤6)(he:p.length=l.length){M:Nat→Prop}{w:World}{vc vl vd vp:Value}(hm0:∀ b,M b→b<w.heap.size)(hvc:(Ap c).p vc w)(hvl:(XP.rats l).p M w [vl])(hvd:(Ap d).p vd w)(hvp:(XP.rats p).p M w [vp]) :
  Calls Tryz.prog 73 #[vc,vl,vd,vp] w λe w'=>∃ u,e = .returned u∧(XP.rats (R5 c l d p)).p M w' [u]∧Below w.heap.size w w':=by
 have hF:Bu (ME l p c d) (mM l.length):=I7 (λ_=>rfl) (λx hx=>by
  simp only [mM,List.mem_cons,List.not_mem_nil,or_false] at hx
  rcases hx with rfl | rfl
  ·simp [lD,ME]
  ·simp [lD,ME,he]) (λx hx=>by
  simp only [mM,List.mem_cons,List.not_mem_nil,or_false] at hx
  rcases hx with rfl | rfl
  ·simpa [lD,ME] using hl
  ·simpa [lD,ME] using hp) (λx hx=>by cases hx) (λx hx=>by cases hx)
 have hr:=Yu (List.all_eq_true.1 uY l.length (List.mem_range.2 (by omega)));refine Calls.mono (W4 (M:=M) (w:=w) (vs:=[vc,vl,vd,vp]) hF (λ_ h=>by cases h) yJ hr hm0 ⟨vc,_,rfl,Gl (V:=ME l p c d) (q:=.v 0) hvc hc,vl,_,rfl,Hp (V:=ME l p c d) (e:=.v 0) hvl,vd,_,rfl,Gl (V:=ME l p c d) (q:=.v 1) hvd hd,vp,_,rfl,Hp (V:=ME l p c d) (e:=.v 1) hvp,rfl⟩) λe w' ⟨u,e1,e2,e3⟩=>⟨u,e1,?_,e3⟩
 have e2:=Ff (ρ:=B4) (M:=M) e2;have e:lD (ME l p c d) (F6 ((List.range l.length).map mR))=R5 c l d p:=by
  rw [Hx];unfold R5;rw [List.map_map];refine List.map_congr_left λi _=>?_
  show qD _ (mR i)=_;simp [mR,NC,qD,lD,zD,ME]
 rw [e] at e2;exact e2
def Er(c:Rat)(l p:List Rat)(col:Nat):Rat × List Rat:=if l.getD col 0=0 then (c,l) else
 let f:=l.getD col 0 / p.getD col 0
 let r:=R5 ((f.den:Int):Rat) l (f.num:Rat) p
 (c / ((f.den:Int):Rat)*DX r,Ck r)
def Du(s:Nat)(l:List Rat):Prop:=∀ x∈l,∃ z:Int,x=(z:Rat)∧Sm z s
theorem Du.at_{s:Nat}{l:List Rat}(h:Du s l)(k:Nat):∃ z:Int,l.getD k 0=(z:Rat)∧Sm z s:=by
 by_cases hk:k<l.length
 ·rw [List.getD_eq_getElem?_getD,List.getElem?_eq_getElem hk]
  exact h _ (List.getElem_mem hk)
 ·rw [List.getD_eq_getElem?_getD,List.getElem?_eq_none (by omega)]
  exact ⟨0,rfl,by unfold Sm; simp; exact Nat.pow_pos (by decide)⟩
theorem Du.rsm{s:Nat}{l:List Rat}(h:Du s l)(hs:1≤s){x:Rat}(hx:x∈l):A7 x s:=by
 obtain ⟨z,rfl,h2⟩:=h x hx;exact E0 h2 hs
theorem Du.mono{s t:Nat}{l:List Rat}(h:Du s l)(hs:s≤t):Du t l:=λx hx=>by
 obtain ⟨z,h1,h2⟩:=h x hx;exact ⟨z,h1,h2.mono hs⟩
theorem Jy{x y:Int}{s:Nat}(hx:Sm x s)(hy:Sm y s)(hy0:y≠0):Sm ((((x:Rat) / (y:Rat)).den:Nat):Int) s∧Sm ((x:Rat) / (y:Rat)).num s:=by
 have hyr:(y:Rat)≠0:=λe=>hy0 (Rat.intCast_inj.1 (by simpa using e))
 generalize hq:(x:Rat) / (y:Rat)=q;have h1:q*(y:Rat)=(x:Rat):=by
  rw [← hq]
  grind
 obtain ⟨G,hG⟩:=V7 h1;have g0:G≠0:=λe=>by rw [e,Int.mul_zero] at hG; exact hy0 hG
 refine ⟨OP (c:=G) hG.symm g0 hy,OP (c:=G) (b:=x) (Rat.intCast_inj.1 ?_) g0 hx⟩;rw [Rat.intCast_mul,← Kt q,← h1,hG,Rat.intCast_mul]
 grind
theorem Ld{s:Nat}{l p:List Rat}{d n:Int}(hl:Du s l)(hp:Du s p)(hd:Sm d s)(hn:Sm n s):Du (2*s+1) (R5 (d:Rat) l (n:Rat) p):=λx hx=>by
 obtain ⟨i,_,rfl⟩:=List.mem_map.1 hx;obtain ⟨a,ha,sa⟩:=hl.at_ i;obtain ⟨b,hb,sb⟩:=hp.at_ i;refine ⟨d*a - n*b,by rw [ha,hb,Rat.intCast_sub,Rat.intCast_mul,Rat.intCast_mul],?_⟩;have:=(hd.mul sa).sub (hn.mul sb);refine this.mono ?_;omega
theorem Du.frac{s:Nat}{l:List Rat}(h:Du s l)(hs:1≤s):Fk 1 s l:=⟨by decide,by
 unfold Sm;exact Nat.one_lt_pow (by omega) (by decide),λx hx=>by
 obtain ⟨z,h1,h2⟩:=h x hx;exact ⟨z,by rw [h1]; simp,h2⟩⟩
theorem Fk.whole{D:Int}{s:Nat}{l:List Rat}(h:Fk D s l):Du s (Ck l):=λ_ hx=>Xs h hx
theorem Ow{c d:Rat}{l p:List Rat}:(R5 c l d p).length=l.length:=by simp [R5]
theorem Mu{l:List Rat}:(Ck l).length=l.length:=by simp [Ck]
section
variable {c : Rat} {l p : List Rat} {col s : Nat}
theorem dP:(Er c l p col).2.length=l.length:=by
 unfold Er;split
 ·rfl
 ·show (Ck _).length=_
  rw [Mu,Ow]
theorem YP(hl:Du s l)(hp:Du s p)(hs:1≤s)(hz:p.getD col 0≠0):Du (2*s+1) (Er c l p col).2:=by
 unfold Er;split
 ·exact hl.mono (by omega)
 ·obtain ⟨x,hx,sx⟩:=hl.at_ col
  obtain ⟨y,hy,sy⟩:=hp.at_ col;have hy0:y≠0:=λe=>hz (by rw [hy,e]; rfl)
  obtain ⟨h1,h2⟩:=Jy sx sy hy0;rw [← hx,← hy] at h1 h2;exact ((Ld hl hp h1 h2).frac (by omega)).whole
theorem Ri{i:Nat}(hl:Du s l)(hp:Du s p)(hs:1≤s)(hz:p.getD col 0≠0)(hc:A7 c i):A7 (Er c l p col).1 (i+s+(2*s+1)):=by
 unfold Er;split
 ·exact hc.mono (by omega)
 ·obtain ⟨x,hx,sx⟩:=hl.at_ col
  obtain ⟨y,hy,sy⟩:=hp.at_ col;have hy0:y≠0:=λe=>hz (by rw [hy,e]; rfl)
  obtain ⟨h1,h2⟩:=Jy sx sy hy0;rw [← hx,← hy] at h1 h2;exact (hc.div (E0 h1 hs)).mul (FN ((Ld hl hp h1 h2).frac (by omega)) _)
end
def nU(col:Nat):CE:=.ap 46 (NC 0 col) (NC 1 col)
def Pw(col:Nat):CE:=.ap 48 (nU col) (.lit 0)
def xM(col:Nat):CE:=.ap 47 (nU col) (.lit 0)
def XN(a:AV)(q:CE):Bool:=match Hf a with
 | some p=>CE.beq p.1 q
 | none=>false
noncomputable def pDf(col:Nat):PE:=⟨73,λxs=>match xs with
 | [a,.ext 1 false (.ap 51 (.v 0) _),b,.ext 1 false (.ap 51 (.v 1) _)]=>if XN a (Pw col) && XN b (xM col) then some (aL (.v 2)) else none
 | _=>none⟩
noncomputable def pLw(col:Nat):PE:=⟨67,λxs=>match xs with
 | [a,.ext 1 false (.ap 51 (.v 2) _)]=>if XN a (.ap 46 (.v 0) (Pw col)) then some (.agg [aQ (.v 2) 50080001,aL (.v 3)]) else none
 | _=>none⟩
def qU(col:Nat):Bool→List (CE × Bool)
 | true=>[(NC 0 col,true)]
 | false=>[(NC 0 col,false),(NC 1 col,false),(Pw col,false)]
def dH(n col:Nat)(z:Bool):Fa:=⟨[],[(.v 0,0,(n:Int)),(.v 1,0,(n:Int))],[(.v 0,20001),(.v 1,20001)],qU col z,[],[],[]⟩
def tB(col:Nat):List AV:=[.agg [aQ (.v 0) 40000000,aL (.v 0)],.agg [aQ (.v 1) 40000000,aL (.v 1)],.val (.int .i64 (col:Int))]
noncomputable def Adl(n col:Nat)(z:Bool):Option (List AV):=kdA [.leaf,.leaf] (Cz AO (EA (V8 (dH n col z) [pDf col,pLw col,Rb (dH n col z)]) AO 200) 70 (tB col) [] 16 0)
def AdZ:Bool→List AV
 | true=>[aQ (.v 0) 40000000,aL (.v 0)]
 | false=>[aQ (.v 2) 50080001,aL (.v 3)]
def isR(rs:List AV)(o:Option (List AV)):Bool:=match o with
 | some l=>J8 l rs
 | none=>false
noncomputable def AaX(m:Nat):Bool:=(List.range m).all λcol=>(List.range 7).all λn=>Nat.ble n col || (isR (AdZ true) (Adl n col true) && isR (AdZ false) (Adl n col false))
theorem Aaa:AaX 6=true:=by kernel_rfl
def BI(l p:List Rat)(c cp:Rat)(col:Nat):VL:=⟨λ_=>0,λk=>match k with
 | 0=>l
 | 1=>p
 | 2=>R5 (((l.getD col 0 / p.getD col 0).den:Int):Rat) l ((l.getD col 0 / p.getD col 0).num:Rat) p
 | 3=>Ck (R5 (((l.getD col 0 / p.getD col 0).den:Int):Rat) l ((l.getD col 0 / p.getD col 0).num:Rat) p)
 | _=>[],λk=>match k with
 | 0=>c
 | 1=>cp
 | 2=>c / (((l.getD col 0 / p.getD col 0).den:Int):Rat)*DX (R5 (((l.getD col 0 / p.getD col 0).den:Int):Rat) l ((l.getD col 0 / p.getD col 0).num:Rat) p)
 | _=>0,λ_=>[]⟩
theorem Nl{rs:List AV}{o:Option (List AV)}(h:isR rs o=true):o=some rs:=by
 unfold isR at h;split at h
 ·rw [Fl h]
 ·cases h
theorem FV{a:AV}{q:CE}(h:XN a q=true):∃ n,Hf a=some (q,n):=by
 unfold XN at h;split at h
 ·rename_i p hp
  exact ⟨p.2,by rw [hp,← CE.beq_eq h]⟩
 ·cases h
section
variable {l p : List Rat} {c cp : Rat} {col s : Nat}
theorem VS(k:Nat)(hk:k<2)(i:Nat):qD (BI l p c cp col) (NC k i)=(if k=0 then l else p).getD i 0:=by
 match k,hk with
 | 0,_=>simp [NC,qD,lD,zD,BI]
 | 1,_=>simp [NC,qD,lD,zD,BI]
theorem tN:qD (BI l p c cp col) (nU col)=l.getD col 0 / p.getD col 0:=by
 unfold nU;simp only [qD];rw [← show qD (BI l p c cp col) (NC 0 col)=l.getD col 0 from VS 0 (by decide) col,← show qD (BI l p c cp col) (NC 1 col)=p.getD col 0 from VS 1 (by decide) col]
theorem cM:qD (BI l p c cp col) (Pw col)=(((l.getD col 0 / p.getD col 0).den:Int):Rat):=by
 unfold Pw;simp only [qD];rw [tN]
theorem AdH:qD (BI l p c cp col) (xM col)=((l.getD col 0 / p.getD col 0).num:Rat):=by
 unfold xM;simp only [qD];rw [tN]
theorem QP:qD (BI l p c cp col) (.v 0)=c:=by simp only [qD,BI]
theorem Mh(hl:Du s l)(hp:Du s p)(hz:p.getD col 0≠0):Sm (((l.getD col 0 / p.getD col 0).den:Nat):Int) s∧Sm (l.getD col 0 / p.getD col 0).num s:=by
 obtain ⟨x,hx,sx⟩:=hl.at_ col;obtain ⟨y,hy,sy⟩:=hp.at_ col;have hy0:y≠0:=λe=>hz (by rw [hy,e]; rfl)
 rw [hx,hy];exact Jy sx sy hy0
theorem ZP(hl:Du s l)(hp:Du s p)(hs:1≤s)(h2:s≤20000)(hz:p.getD col 0≠0)(hn:l.length≤6)(he:p.length=l.length):@PE.ok (Ae (BI l p c cp col)) (pDf col):=by
 intro xs r e;refine ⟨λ_ _=>by simp [pDf,go_sem],λρ M w vs hm0 hv=>?_⟩;unfold pDf at e;dsimp only at e;split at e
 ·rename_i a _ b _
  split at e
  ·rename_i hc
   rw [Bool.and_eq_true] at hc
   cases e
   obtain ⟨n1,e1⟩:=FV hc.1;obtain ⟨n2,e2⟩:=FV hc.2;obtain ⟨va,_,rfl,k1,vb,_,rfl,k2,vc,_,rfl,k3,vd,_,rfl,k4,k5⟩:=hv;have k5:_=[]:=k5;subst k5;have q1:=(BD e1 (@Bz.rv (Ae (BI l p c cp col)) ρ M w _ _ k1)).1;have q3:=(BD e2 (@Bz.rv (Ae (BI l p c cp col)) ρ M w _ _ k3)).1;have q2:=Ff k2;have q4:=Ff k4;rw [cM] at q1;rw [AdH] at q3;rw [show lD (BI l p c cp col) (.v 0)=l by simp [lD,BI]] at q2;rw [show lD (BI l p c cp col) (.v 1)=p by simp [lD,BI]] at q4;obtain ⟨s1,s2⟩:=Mh hl hp hz;refine Calls.mono (Aev (λx hx=>(hl.rsm hs hx).mono (by omega)) (λx hx=>(hp.rsm hs hx).mono (by omega)) ((E0 s1 hs).mono (by omega)) ((E0 s2 hs).mono (by omega)) hn he hm0 q1 q2 q3 q4) λe w' ⟨v,e1,e2,e3⟩=>⟨v,e1,@Bz.rv (Ae (BI l p c cp col)) ρ M w' _ _ (Hp (e:=.v 2) ?_),e3⟩
   rw [show lD (BI l p c cp col) (.v 2)=R5 (((l.getD col 0 / p.getD col 0).den:Int):Rat) l ((l.getD col 0 / p.getD col 0).num:Rat) p by simp [lD,BI]];exact e2
  ·cases e
 ·cases e
theorem dW(hl:Du s l)(hp:Du s p)(hs:1≤s)(h2:s≤20000)(hz:p.getD col 0≠0)(hn:l.length≤6)(hc:A7 c 40000000):@PE.ok (Ae (BI l p c cp col)) (pLw col):=by
 intro xs r e;refine ⟨λ_ _=>by simp [pLw,go_sem],λρ M w vs hm0 hv=>?_⟩;unfold pLw at e;dsimp only at e;split at e
 ·rename_i a _
  split at e
  ·rename_i hca
   cases e
   obtain ⟨n1,e1⟩:=FV hca;obtain ⟨va,_,rfl,k1,vb,_,rfl,k2,k5⟩:=hv;have k5:_=[]:=k5;subst k5;have q1:=(BD e1 (@Bz.rv (Ae (BI l p c cp col)) ρ M w _ _ k1)).1;have q2:=Ff k2;obtain ⟨s1,s2⟩:=Mh hl hp hz;have hq:qD (BI l p c cp col) (.ap 46 (.v 0) (Pw col))=c / (((l.getD col 0 / p.getD col 0).den:Int):Rat):=by
    have:qD (BI l p c cp col) (.ap 46 (.v 0) (Pw col))=qD (BI l p c cp col) (.v 0) / qD (BI l p c cp col) (Pw col):=by simp only [qD]
    rw [this,QP,cM]
   rw [hq] at q1;rw [show lD (BI l p c cp col) (.v 2)=R5 (((l.getD col 0 / p.getD col 0).den:Int):Rat) l ((l.getD col 0 / p.getD col 0).num:Rat) p by simp [lD,BI]] at q2;have hfr:=(Ld hl hp s1 s2).frac (by omega);refine Calls.mono (Aex hfr (by omega) (by omega) ((hc.div (E0 s1 hs)).mono (by omega)) (by rw [Ow]; exact hn) (V:=BI l p c cp col) (q:=.v 2) (e:=.v 3) (by simp only [qD,BI]) (by simp [lD,BI]) hm0 q1 q2) λe w' ⟨v,e1,e2,e3⟩=>⟨v,e1,?_,e3⟩
   obtain ⟨cs,rfl,hcs⟩:=e2;refine ⟨cs,rfl,?_⟩;unfold AU at hcs ⊢;obtain ⟨x,y,e3,r1,r2⟩:=hcs;unfold AU at r2 ⊢;obtain ⟨x2,y2,e4,r3,r4⟩:=r2;exact ⟨x,y,e3,AcA rfl B4 ρ M w' x r1,x2,y2,e4,L6 rfl B4 ρ M w' x2 r3,by unfold AU at r4 ⊢; exact r4⟩
  ·cases e
 ·cases e
theorem Mo{V V':VL}:YT (Ae V) (Ae V') [] []:=λρ ρ' M w cs r=>by
 unfold AU at r ⊢;exact r
theorem DM{V V':VL}{a a':AV}{l l':List AV}(h:Le V V' (a,a'))(h':YT (Ae V) (Ae V') l l'):YT (Ae V) (Ae V') (a :: l) (a' :: l'):=λρ ρ' M w cs r=>by
 unfold AU at r ⊢;obtain ⟨x,y,e,h1,h2⟩:=r;exact ⟨x,y,e,h ρ ρ' M w x h1,h' ρ ρ' M w y h2⟩
theorem GW{V V':VL}{q q' e e':CE}{n m:Nat}(h:qD V q=qD V' q')(hs:A7 (qD V' q') m)(hl:lD V e=lD V' e'){ρ ρ':Bg}{M:Nat→Prop}{w:World}{v:Value}(hv:@RV (Ae V) ρ M w (.agg [aQ q n,aL e]) v):@RV (Ae V') ρ' M w (.agg [aQ q' m,aL e']) v:=by
 obtain ⟨cs,rfl,hc⟩:=hv;exact ⟨cs,rfl,DM (Dw h hs) (DM (L6 hl) Mo) ρ ρ' M w _ hc⟩
theorem bJ(hl:Du s l)(hp:Du s p)(hs:1≤s)(h2:s≤20000)(hz:p.getD col 0≠0)(hn:l.length≤6)(he:p.length=l.length)(hcol:col<l.length)(hc:A7 c 40000000)(hcp:A7 cp 40000000){V:VL}{q e:CE}(hq:qD V q=(Er c l p col).1)(hle:lD V e=(Er c l p col).2){ρ:Bg}{M:Nat→Prop}{w:World}{vl vp vc:Value}(hm0:∀ b,M b→b<w.heap.size)
  (hvl:@Bz (Ae (BI l p c cp col)) ρ M w (.agg [aQ (.v 0) 40000000,aL (.v 0)]) vl) (hvp:@Bz (Ae (BI l p c cp col)) ρ M w (.agg [aQ (.v 1) 40000000,aL (.v 1)]) vp) (hvc:vc = .int .i64 (col:Int)) :
  Calls Tryz.prog 70 #[vl,vp,vc] w λen w'=>∃ u,en = .returned u ∧ @RV (Ae V) ρ M w' (.agg [aQ q 50080001,aL e]) u∧Below w.heap.size w w':=by
 have hrl:∀ x∈l,A7 x 20001:=λx hx=>(hl.rsm hs hx).mono (by omega)
 have hrp:∀ x∈p,A7 x 20001:=λx hx=>(hp.rsm hs hx).mono (by omega)
 have hF:∀ z,(∀ x∈qU col z,decide (qD (BI l p c cp col) x.1=0)=x.2)→Bu (BI l p c cp col) (dH l.length col z):=λz hz=>I7 (λ_=>rfl) (λx hx=>by
  simp only [dH,List.mem_cons,List.not_mem_nil,or_false] at hx
  rcases hx with rfl | rfl
  ·simp [lD,BI]
  ·simp [lD,BI,he]) (λx hx=>by
  simp only [dH,List.mem_cons,List.not_mem_nil,or_false] at hx
  rcases hx with rfl | rfl
  ·simpa [lD,BI] using hrl
  ·simpa [lD,BI] using hrp) hz (λx hx=>by cases hx)
 have hrun:=List.all_eq_true.1 (List.all_eq_true.1 Aaa col (List.mem_range.2 (by omega))) l.length (List.mem_range.2 (by omega));rw [Bool.or_eq_true] at hrun;have hrun:=hrun.resolve_left λh=>by
  have:=Nat.le_of_ble_eq_true h;omega
 rw [Bool.and_eq_true] at hrun;have hv:@CH (Ae (BI l p c cp col)) B4 M w (tB col) [vl,vp,vc]:=⟨vl,_,rfl,GW rfl (by rw [QP]; exact hc) rfl hvl,vp,_,rfl,GW rfl (by simp only [qD,BI]; exact hcp) rfl hvp,vc,_,rfl,hvc,rfl⟩;have e0:qD (BI l p c cp col) (NC 0 col)=l.getD col 0:=VS 0 (by decide) col;have e1:qD (BI l p c cp col) (NC 1 col)=p.getD col 0:=VS 1 (by decide) col;have hsz:=Ri hl hp hs hz hc
 by_cases hx:l.getD col 0=0
 ·have hF:=hF true λx hx'=>by
   simp only [qU,List.mem_singleton] at hx';subst hx';rw [e0];exact decide_eq_true hx
  have hw:Er c l p col=(c,l):=by
   unfold Er;rw [if_pos hx]
  rw [hw] at hq hle hsz;refine Calls.mono (Xd hF (by
   intro e he';simp only [List.mem_cons,List.not_mem_nil,or_false] at he'
   rcases he' with rfl | rfl | rfl
   ·exact ZP hl hp hs h2 hz hn he
   ·exact dW hl hp hs h2 hz hn hc
   ·exact LH hF) (Nl hrun.1) hm0 hv) λen w' ⟨u,e1,e2,e3⟩=>⟨u,e1,GW (by rw [hq,QP]) (by rw [hq]; exact hc.mono (by omega)) (by rw [hle]; simp [lD,BI]) e2,e3⟩
 ·have hd:decide (qD (BI l p c cp col) (Pw col)=0)=false:=by
   rw [cM];exact decide_eq_false (JM _)
  have hF:=hF false λx hx'=>by
   simp only [qU,List.mem_cons,List.not_mem_nil,or_false] at hx'
   rcases hx' with rfl | rfl | rfl
   ·rw [e0]
    exact decide_eq_false hx
   ·rw [e1]
    exact decide_eq_false hz
   ·exact hd
  have hw:Er c l p col=(qD (BI l p c cp col) (.v 2),lD (BI l p c cp col) (.v 3)):=by
   unfold Er;rw [if_neg hx];simp [qD,lD,BI]
  rw [hw] at hq hle hsz;refine Calls.mono (Xd hF (by
   intro e he';simp only [List.mem_cons,List.not_mem_nil,or_false] at he'
   rcases he' with rfl | rfl | rfl
   ·exact ZP hl hp hs h2 hz hn he
   ·exact dW hl hp hs h2 hz hn hc
   ·exact LH hF) (Nl hrun.2) hm0 hv) λen w' ⟨u,e1,e2,e3⟩=>⟨u,e1,GW (by rw [hq]) (by rw [hq]; exact hsz.mono (by omega)) (by rw [hle]) e2,e3⟩
end
noncomputable def fK(T:Tb)(c:Code)(n0:Nat)(s:Fm)(Lf:Fm→List (Nat × Nat))(B:List Nat)(d:Rd)(s':Fm):Bool:=match EA T AO 300 c s with
 | some (.fall s1)=>Nu n0 Lf B d s1 s'
 | _=>false
section
variable {A : Nat → Prop} {W0 : World} {ρ0 : Bg} {M0 : Nat → Prop} {H0 : HP} {n0 : Nat} {s s' : Fm} {ρ : Bg} {M : Nat → Prop} {a : Act} {w : World} {Q : Exit → Act → World → Prop} {V V' : VL} {d : Rd} {B : List Nat} {Lf : Fm → List (Nat × Nat)}
theorem jQ{F:Fa}{l:List PE}{C:Bx}{c:Code}(hA:∀ b,W0.heap.size≤b→A b)(hB:HB H0 ρ0 W0)(hF:Bu V F)(hl:∀ e∈l,@PE.ok (Ae V) e)(hC:@Ch (Ae V) C)(hd:Kr (Ae V) (Ae V') d)(ho:d.out=[])(hr0:∀ o p,ρ0 o=some p→o<n0)
  (h:fK (Yw F l C) c n0 s Lf B d s'=true) (hS:@FS (Ae V) A W0 ρ0 M0 H0 n0 s ρ M a w) (hQ:∀ ρ M a w,@FS (Ae V') A W0 ρ0 M0 H0 n0 s' ρ M a w→Q .normal a w):c.wp Tryz.prog Q a w:=by
 unfold fK at h;split at h
 ·rename_i s1 hr
  refine (@Fu (Ae V) _ _ _ _).1 ((@FQ (Ae V) _ _ (@Fj.mk (Ae V) _ (FB hF hl) (GC hF) hC) Bv 300).1 false Qk c s (.fall s1) hr Jk none (λ_=>rfl) (@Eb (Ae V)) (@cN (Ae V) _) A W0 ρ0 M0 H0 n0 ρ M a w Q hA hB trivial hS λρ1 M1 a1 w1 hS1=>?_);obtain ⟨ρ2,M2,hS2⟩:=I1 hd ho hr0 h hS1;exact hQ ρ2 M2 a1 w1 hS2
 ·cases h
end
abbrev Ln:=Rat × List Rat
def Ca(L:List Ln)(k:Nat):Ln:=L.getD k (0,[])
def Kg(L:List Ln)(col:Nat):Nat→Nat→Nat
 | 0,i=>i
 | n+1,i=>if (Ca L i).2.getD col 0=0 then Kg L col n (i+1) else i
def B_(L:List Ln)(t col:Nat):Nat:=Kg L col (L.length - t) t
def Fg(L:List Ln)(t at_ col:Nat):List Ln:=(List.range L.length).map λk=>if k=t then Ca L at_ else if k=at_ then (-(Ca L t).1,(Ca L t).2) else if at_<k then Er (Ca L k).1 (Ca L k).2 (Ca L at_).2 col else Ca L k
def Bm(L:List Ln):Nat→List Nat × List Ln
 | 0=>([],L)
 | n+1=>let g:=Bm L n
  if B_ g.2 g.1.length n<g.2.length then (g.1 ++ [n],Fg g.2 g.1.length (B_ g.2 g.1.length n) n) else g
noncomputable def Zc:Func:=Tryz.f42
noncomputable def jW:=C8 Zc
noncomputable def kV:=lpB jW []
noncomputable def Aah:List Rx:=lpK jW []
def qL(k:Nat):AV:=aQ (.v k) 40000000
def lnC(k:Nat):List AV:=[qL k,aL (.v k)]
def Bs(L0:List Ln)(g:List Nat × List Ln)(col C:Nat):VL:=⟨λk=>if k=20 then (col:Int) else if k=21 then (C:Int) else if 1≤k∧k≤6 then ((g.1.getD (k - 1) 0:Nat):Int) else 0,
 λk=>if 100≤k then (Ca L0 (k - 100)).2 else if 10≤k then (Er (Ca g.2 (k - 10)).1 (Ca g.2 (k - 10)).2 (Ca g.2 (B_ g.2 g.1.length col)).2 col).2 else (Ca g.2 k).2,
 λk=>if 100≤k then (Ca L0 (k - 100)).1 else if 10≤k then (Er (Ca g.2 (k - 10)).1 (Ca g.2 (k - 10)).2 (Ca g.2 (B_ g.2 g.1.length col)).2 col).1 else (Ca g.2 k).1,λ_=>[]⟩
def elD(k:Nat):CE:=.ap 30 (.v k) (.i 20 0)
def AeN(R t a:Nat):List (CE × Bool):=((List.range (a - t)).map λi=>(elD (t+i),true)) ++ (if a<R then [(elD a,false)] else [])
def vB(R:Nat):List (CE × Nat × Int):=(List.range R).map λk=>(.v k,21,0)
def xG(R:Nat):List (CE × Nat):=(List.range R).map λk=>(.v k,20000)
def wX(R t a:Nat):Fa:=⟨[(20,21,-1),(0,20,0)],vB R,xG R,AeN R t a,[],[],[]⟩
def Xk(R:Nat):Fa:=⟨[(21,20,0),(0,20,0)],vB R,xG R,[],[],[],[]⟩
noncomputable def yF(R a:Nat):PE:=⟨70,λxs=>match xs with
 | [.agg [x,.ext 1 false (.ap 51 (.v k) _)],.agg [y,.ext 1 false (.ap 51 (.v k2) _)],.ext 1 false (.ap 50 (.ap 1 (.v 20) (.lit 0)) _)]=>if EV x (qL k) && EV y (qL a) && Nat.beq k2 a && Nat.blt k R && Nat.blt a R then some (.agg [aQ (.v (10+k)) 50080001,aL (.v (10+k))]) else none
 | _=>none⟩
def Rl(R:Nat):List AV:=[.sl 16 0 R none,aI 21 0]
def M9(cs:List AV):Option OB:=some ⟨78,5,cs,true,none⟩
def El(R:Nat):HP:=[(16,M9 ((List.range R).flatMap λk=>lnC (100+k)))]
noncomputable def lI(F:Fa)(R a:Nat):Tb:=Yw F [yF R a] Qk
def Aer(t:Nat):AV:=if t=0 then .val (.slice none 0 0) else .sl 17 0 t none
def Xh(t:Nat):Option OB:=some ⟨3,1,(List.range t).map λi=>aI (1+i) 0,true,none⟩
def AeO(R t:Nat):Fm:=YV 63 [(0,.sl 16 0 R none),(5,Aer t),(10,aI 21 0),(11,aI 20 0)]
 ((16,M9 ((List.range R).flatMap lnC)) :: (if t=0 then [] else [(17,Xh t)])) 100
def Sd(R t:Nat):Fm:={ AeO R t with wr:=[16] }
def uN:Fa:=⟨[],[],[],[],[],[],[]⟩
noncomputable def ZQ(R:Nat):=CP (lI uN R R) AO 300 300 (.run jW) [] ⟨Rl R ++ List.replicate 61 (.val undef),El R,17,[16]⟩
noncomputable def tI(R t:Nat):=CP (lI (Xk R) R R) AO 300 300 (.run kV) [] (Sd R t)
def sU(s:Fm):List (Nat × Nat):=match (s.tm[5]? : Option AV) with
 | some (.sl d _ _ _)=>[(d,17)]
 | _=>[]
def XS:AV:=.val (.slice none 0 0)
def Vi(k:Nat):List (AV × AV):=[(qL k,qL k),(aL (.v k),aL (.v k))]
def rM(R:Nat):List (AV × AV):=((List.range R).flatMap λk=>[(qL (100+k),qL k),(aL (.v (100+k)),aL (.v k))]) ++ [(aI 21 0,aI 21 0),(iv 0,aI 20 0),(XS,XS)]
def Acy(t:Nat):List (AV × AV):=(List.range t).map λi=>(aI (1+i) 0,aI (1+i) 0)
def sF(t a k:Nat):List (AV × AV):=if k=t then [(qL a,qL t),(aL (.v a),aL (.v t))] else if k=a then [(aQ (.ap 34 (.v t) (.lit 0)) 40000000,qL k),(aL (.v t),aL (.v k))] else if a<k then [(aQ (.v (10+k)) 50080001,qL k),(aL (.v (10+k)),aL (.v k))] else Vi k
def fQ(R t a:Nat):List (AV × AV):=(if a<R then ((List.range R).flatMap (sF t a)) ++ [(aI 20 0,aI (1+t) 0)] else (List.range R).flatMap Vi) ++ Acy t ++ [(aI 21 0,aI 21 0),(aI 20 1,aI 20 0),(XS,XS)]
def AbS(R:Nat):Rd:=⟨rM R,[],[],[],[],100⟩
def AdG(R t a:Nat):Rd:=⟨fQ R t a,[],[],[],[],100⟩
noncomputable def AcG(R:Nat):Bool:=Nu 17 sU [16] (AbS R) (F0 (ZQ R)) (Sd R 0)
def Zn(R t a:Nat):Nat:=if a<R then t+1 else t
noncomputable def aW(R t a:Nat):Bool:=fK (lI (wX R t a) R a) kV 17 (Sd R t) sU [16] (AdG R t a) (Sd R (Zn R t a))
noncomputable def uJ(R t:Nat):=CP (lI (Xk R) R R) AO 300 300 (.at_ (.ext 0)) Aah (F0 (tI R t))
def vI(t:Nat):AV:=if t=0 then XS else .sl 0 0 t none
def Kf(R:Nat):List AV:=(List.range R).flatMap lnC
def yY(R t:Nat):HP:=if t=0 then [(16,M9 (Kf R))] else [(0,Xh t),(16,M9 (Kf R))]
def mL(R:Nat)(b:Option OB):Bool:=match b with
 | some ⟨T,5,cs,true,none⟩=>Nat.beq T 78 && J8 cs (Kf R)
 | _=>false
def wM(t:Nat)(b:Option OB):Bool:=match b with
 | some ⟨T,1,cs,true,none⟩=>Nat.beq T 3 && J8 cs ((List.range t).map λi=>aI (1+i) 0)
 | _=>false
noncomputable def fT(R t:Nat)(p:Option (AV × HP)):Bool:=match t with
 | 0=>(match p with
  | some (.val (.slice none 0 0),[(16,b)])=>mL R b
  | _=>false)
 | t+1=>(match p with
  | some (.sl 0 0 n none,[(0,b),(16,c)])=>Nat.beq n (t+1) && wM (t+1) b && mL R c
  | _=>false)
noncomputable def tM(R t:Nat):Bool:=match tI R t,uJ R t with
 | some (.done (.ext 0) _),some (.done .ret s)=>fT R t (Ue (El R) 17 0 Zc s)
 | _,_=>false
noncomputable def gX(R:Nat):Bool:=AcG R && (List.range (R+1)).all λt=>tM R t && (List.range (R+1)).all λa=>Nat.blt a t || aW R t a
theorem Aeu:∀ R,R<7→1≤R→gX R=true
 | 0,_,h=>absurd h (by decide)
 | 1,_,_=>by kernel_rfl
 | 2,_,_=>by kernel_rfl
 | 3,_,_=>by kernel_rfl
 | 4,_,_=>by kernel_rfl
 | 5,_,_=>by kernel_rfl
 | 6,_,_=>by kernel_rfl
theorem AbK:∀ R,R<7→1≤R→ZQ R=some (.loop kV Aah (F0 (ZQ R)))
 | 0,_,h=>absurd h (by decide)
 | 1,_,_=>by kernel_rfl
 | 2,_,_=>by kernel_rfl
 | 3,_,_=>by kernel_rfl
 | 4,_,_=>by kernel_rfl
 | 5,_,_=>by kernel_rfl
 | 6,_,_=>by kernel_rfl
theorem Abq:Zc.body=some jW:=by kernel_rfl
theorem Ac1:Zc.ntmps=63:=by kernel_rfl
theorem LR(L:List Ln)(col:Nat):∀ n i,i≤Kg L col n i∧Kg L col n i≤i+n∧(∀ j,i≤j→j<Kg L col n i→(Ca L j).2.getD col 0=0)∧(Kg L col n i<i+n→(Ca L (Kg L col n i)).2.getD col 0≠0)
 | 0,i=>⟨Nat.le_refl _,Nat.le_refl _,λj h1 h2=>absurd (Nat.lt_of_le_of_lt h1 h2) (Nat.lt_irrefl _),λh=>absurd h (Nat.lt_irrefl _)⟩
 | n+1,i=>by
  unfold Kg;split
  ·rename_i h
   obtain ⟨h1,h2,h3,h4⟩:=LR L col n (i+1);refine ⟨by omega,by omega,λj a b=>?_,λa=>h4 (by omega)⟩
   by_cases e:j=i
   ·rw [e]; exact h
   ·exact h3 j (by omega) b
  ·rename_i h
   exact ⟨Nat.le_refl _,by omega,λj a b=>absurd (Nat.lt_of_le_of_lt a b) (Nat.lt_irrefl _),λ_=>h⟩
theorem DJ{L:List Ln}{t col:Nat}(ht:t≤L.length):t≤B_ L t col∧B_ L t col≤L.length∧(∀ j,t≤j→j<B_ L t col→(Ca L j).2.getD col 0=0)∧(B_ L t col<L.length→(Ca L (B_ L t col)).2.getD col 0≠0):=by
 obtain ⟨h1,h2,h3,h4⟩:=LR L col (L.length - t) t;exact ⟨h1,by unfold B_; omega,h3,λh=>h4 (by unfold B_ at h; omega)⟩
theorem Tc{L:List Ln}{t a col:Nat}:(Fg L t a col).length=L.length:=by simp [Fg]
theorem Js{L:List Ln}{t a col k:Nat}(hk:k<L.length):Ca (Fg L t a col) k=if k=t then Ca L a else if k=a then (-(Ca L t).1,(Ca L t).2) else if a<k then Er (Ca L k).1 (Ca L k).2 (Ca L a).2 col else Ca L k:=by
 unfold Ca Fg;rw [List.getD_eq_getElem?_getD,List.getElem?_map,List.getElem?_range hk];rfl
def QI(s:Nat):Nat→Nat
 | 0=>s
 | n+1=>2*QI s n+1
structure IY (C s B:Nat) (x:Ln):Prop where
 len:x.2.length=C
 ints:Du s x.2
 rsm:A7 x.1 B
theorem IY.mono{C s s' B B':Nat}{x:Ln}(h:IY C s B x)(hs:s≤s')(hb:B≤B'):IY C s' B' x:=⟨h.len,h.ints.mono hs,h.rsm.mono hb⟩
structure Nd (R C s B:Nat) (n:Nat) (g:List Nat × List Ln):Prop where
 tn:g.1.length≤n
 tR:g.1.length≤R
 lt:∀ x∈g.1,x<n
 len:g.2.length=R
 ln:∀ k,k<R→IY C (QI s n) (B+n*60001) (Ca g.2 k)
theorem Tg{s:Nat}(hs:s≤300):∀ n,n≤6→QI s n≤20000
 | 0,_=>by unfold QI; omega
 | 1,_=>by simp only [QI]; omega
 | 2,_=>by simp only [QI]; omega
 | 3,_=>by simp only [QI]; omega
 | 4,_=>by simp only [QI]; omega
 | 5,_=>by simp only [QI]; omega
 | 6,_=>by simp only [QI]; omega
theorem VT{s:Nat}(hs:1≤s):∀ n,1≤QI s n
 | 0=>hs
 | n+1=>by unfold QI; omega
theorem IW{L0:List Ln}{C s B:Nat}(hs:s≤300)(hs1:1≤s)(hL:∀ k,k<L0.length→IY C s B (Ca L0 k)):∀ n,n≤6→Nd L0.length C s B n (Bm L0 n)
 | 0,_=>⟨Nat.le_refl _,Nat.zero_le _,λx hx=>(by cases hx),rfl,λk hk=>by
  have:=hL k hk;simpa [QI,Bm] using this⟩
 | n+1,hn=>by
  have ih:=IW hs hs1 hL n (by omega);have hsz:=Tg hs n (by omega);have hs2:=VT hs1 n;have up:∀ x,IY C (QI s n) (B+n*60001) x→IY C (QI s (n+1)) (B+(n+1)*60001) x:=λx h=>h.mono (by show QI s n≤2*QI s n+1; omega) (by omega)
  unfold Bm;generalize hg:Bm L0 n=g at ih;dsimp only;split
  ·rename_i ha
   obtain ⟨p1,p2,p3,p4⟩:=DJ (L:=g.2) (t:=g.1.length) (col:=n) (by rw [ih.len]; exact ih.tR);have hz:=p4 ha;have hlA:=ih.ln _ (by rw [← ih.len]; exact ha);have htR:g.1.length<L0.length:=by have:=ih.len; omega
   refine ⟨by simp; exact ih.tn,by simp; omega,λx hx=>?_,by rw [Tc]; exact ih.len,λk hk=>?_⟩
   ·rcases List.mem_append.1 hx with hx | hx
    ·exact Nat.lt_succ_of_lt (ih.lt x hx)
    ·rw [List.mem_singleton] at hx
     omega
   ·show IY _ _ _ (Ca (Fg g.2 _ _ _) k)
    rw [Js (by rw [ih.len]; exact hk)];split
    ·exact up _ hlA
    ·split
     ·have:=ih.ln _ htR
      exact up _ ⟨this.len,this.ints,this.rsm.neg⟩
     ·split
      ·have hk':=ih.ln k hk
       exact ⟨by rw [dP]; exact hk'.len,YP hk'.ints hlA.ints hs2 hz,(Ri hk'.ints hlA.ints hs2 hz hk'.rsm).mono (by omega)⟩
      ·exact up _ (ih.ln k hk)
  ·exact ⟨Nat.le_succ_of_le ih.tn,ih.tR,λx hx=>Nat.lt_succ_of_lt (ih.lt x hx),ih.len,λk hk=>up _ (ih.ln k hk)⟩
section
variable {L0 : List Ln} {g : List Nat × List Ln} {n C : Nat}
theorem DV{k:Nat}(hk:k<10):qD (Bs L0 g n C) (.v k)=(Ca g.2 k).1:=by
 simp only [qD,Bs];rw [if_neg (by omega),if_neg (by omega)]
theorem EY{k:Nat}(hk:k<10):lD (Bs L0 g n C) (.v k)=(Ca g.2 k).2:=by
 simp only [lD,Bs];rw [if_neg (by omega),if_neg (by omega)]
theorem dC{k:Nat}(hk:k<90):qD (Bs L0 g n C) (.v (10+k))=(Er (Ca g.2 k).1 (Ca g.2 k).2 (Ca g.2 (B_ g.2 g.1.length n)).2 n).1:=by
 simp only [qD,Bs];rw [if_neg (by omega),if_pos (by omega),show 10+k - 10=k by omega]
theorem ZT{k:Nat}(hk:k<90):lD (Bs L0 g n C) (.v (10+k))=(Er (Ca g.2 k).1 (Ca g.2 k).2 (Ca g.2 (B_ g.2 g.1.length n)).2 n).2:=by
 simp only [lD,Bs];rw [if_neg (by omega),if_pos (by omega),show 10+k - 10=k by omega]
theorem fB{k:Nat}:qD (Bs L0 g n C) (.v (100+k))=(Ca L0 k).1:=by
 simp only [qD,Bs];rw [if_pos (by omega),show 100+k - 100=k by omega]
theorem dA{k:Nat}:lD (Bs L0 g n C) (.v (100+k))=(Ca L0 k).2:=by
 simp only [lD,Bs];rw [if_pos (by omega),show 100+k - 100=k by omega]
theorem bF{k:Nat}(hk:k<10):qD (Bs L0 g n C) (elD k)=(Ca g.2 k).2.getD n 0:=by
 unfold elD;simp only [qD];rw [EY hk];simp [zD,Bs]
theorem WE{i:Nat}(hi:i<6):(Bs L0 g n C).z (1+i)=((g.1.getD i 0:Nat):Int):=by
 simp only [Bs];rw [if_neg (by omega),if_neg (by omega),if_pos (by omega),show 1+i - 1=i by omega]
variable {R s B : Nat}
theorem WL(h:Nd R C s B n g)(hn:n≤6)(hC:C≤6)(k:Nat) : -1152921504606846976≤(Bs L0 g n C).z k∧(Bs L0 g n C).z k≤1152921504606846976:=by
 simp only [Bs];split
 ·omega
 ·split
  ·omega
  ·split
   ·have:g.1.getD (k - 1) 0≤6:=by
     by_cases hk:k - 1<g.1.length
     ·rw [List.getD_eq_getElem?_getD,List.getElem?_eq_getElem hk]
      have:=h.lt _ (List.getElem_mem hk);simp only [Option.getD_some];omega
     ·rw [List.getD_eq_getElem?_getD,List.getElem?_eq_none (by omega)]
      simp
    omega
   ·omega
theorem cO(h:Nd R C s B n g)(hR:R≤6):∀ x∈vB R,((lD (Bs L0 g n C) x.1).length:Int)=(Bs L0 g n C).z x.2.1+x.2.2:=λx hx=>by
 obtain ⟨k,hk,rfl⟩:=List.mem_map.1 hx;have hk:=List.mem_range.1 hk;show ((lD _ (.v k)).length:Int)=(Bs L0 g n C).z 21+0;rw [EY (by omega),(h.ln k hk).len];simp [Bs]
theorem uM(h:Nd R C s B n g)(hs:s≤300)(hs1:1≤s)(hR:R≤6)(hn:n≤6):∀ x∈xG R,∀ y∈lD (Bs L0 g n C) x.1,A7 y x.2:=λx hx y hy=>by
 obtain ⟨k,hk,rfl⟩:=List.mem_map.1 hx;have hk:=List.mem_range.1 hk;have hy:y∈lD (Bs L0 g n C) (.v k):=hy;rw [EY (by omega)] at hy;exact ((h.ln k hk).ints.rsm (VT hs1 n) hy).mono (Tg hs n hn)
theorem AdM(h:Nd R C s B n g)(hs:s≤300)(hs1:1≤s)(hR:R≤6)(hC:C≤6)(hn:n<C):Bu (Bs L0 g n C) (wX R g.1.length (B_ g.2 g.1.length n)):=by
 obtain ⟨p1,p2,p3,p4⟩:=DJ (L:=g.2) (t:=g.1.length) (col:=n) (by rw [h.len]; exact h.tR);have hl:=h.len;refine ⟨rfl,WL h (by omega) hC,λx hx=>?_,cO h hR,uM h hs hs1 hR (by omega),λx hx=>?_,λx hx=>(by cases hx),λx hx=>(by cases hx),λx hx=>(by cases hx)⟩
 ·simp only [wX,List.mem_cons,List.not_mem_nil,or_false] at hx
  rcases hx with rfl | rfl
  ·simp [Bs]; omega
  ·simp [Bs]
 ·rcases List.mem_append.1 hx with hx | hx
  ·obtain ⟨i,hi,rfl⟩:=List.mem_map.1 hx
   have hi:=List.mem_range.1 hi;show decide (qD _ (elD (g.1.length+i))=0)=true;rw [bF (by omega)];exact decide_eq_true (p3 _ (by omega) (by omega))
  ·split at hx
   ·rename_i ha
    rw [List.mem_singleton] at hx;subst hx;show decide (qD _ (elD _)=0)=false;rw [bF (by omega)];exact decide_eq_false (p4 (by omega))
   ·cases hx
theorem AdO(h:Nd R C s B n g)(hs:s≤300)(hs1:1≤s)(hR:R≤6)(hC:C≤6)(hn:n≤C)(hx:C≤n):Bu (Bs L0 g n C) (Xk R):=by
 refine ⟨rfl,WL h (by omega) hC,λx hx=>?_,cO h hR,uM h hs hs1 hR (by omega),λx hx=>(by cases hx),λx hx=>(by cases hx),λx hx=>(by cases hx),λx hx=>(by cases hx)⟩;simp only [Xk,List.mem_cons,List.not_mem_nil,or_false] at hx
 rcases hx with rfl | rfl
 ·simp [Bs]; omega
 ·simp [Bs]
end
theorem FS.wr'[B5]{A:Nat→Prop}{W0:World}{ρ0:Bg}{M0:Nat→Prop}{H0:HP}{n0:Nat}{s:Fm}{ρ:Bg}{M:Nat→Prop}{a:Act}{w:World}(l:List Nat)(hl:∀ x∈s.wr,x∈l)(h:FS A W0 ρ0 M0 H0 n0 s ρ M a w):FS A W0 ρ0 M0 H0 n0 { s with wr:=l } ρ M a w:=
 ⟨h.size,h.defers,h.slots,h.heap,h.dom,h.nx,h.bnd,h.fr,h.tr,h.sup,h.mon,h.old,λo ho hw=>h.kp o ho λx hx=>hw x (hl x hx)⟩
section
variable {L0 : List Ln} {g : List Nat × List Ln} {n C R s B : Nat}
theorem Aab(h:Nd R C s B n g)(hs:s≤300)(hs1:1≤s)(hB:B≤39000000)(hR:R≤6)(hC:C≤6)(hn:n<C):@PE.ok (Ae (Bs L0 g n C)) (yF R (B_ g.2 g.1.length n)):=by
 intro xs r e;refine ⟨λ_ _=>by simp [yF,go_sem],λρ M w vs hm0 hv=>?_⟩;unfold yF at e;dsimp only at e;split at e
 ·rename_i x k d1 y k2 d2 d3
  split at e
  ·rename_i hc
   simp only [Bool.and_eq_true] at hc;obtain ⟨⟨⟨⟨c1,c2⟩,c3⟩,c4⟩,c5⟩:=hc
   cases e
   have c1:=Ft c1;have c2:=Ft c2;have c3:=Nat.eq_of_beq_eq_true c3;have c4:k<R:=Nat.le_of_ble_eq_true c4;have c5:B_ g.2 g.1.length n<R:=Nat.le_of_ble_eq_true c5;subst c1;subst c2;subst c3;obtain ⟨va,_,rfl,k1,vb,_,rfl,k2,vc,_,rfl,k3,k5⟩:=hv;have k5:_=[]:=k5;subst k5;obtain ⟨p1,p2,p3,p4⟩:=DJ (L:=g.2) (t:=g.1.length) (col:=n) (by rw [h.len]; exact h.tR);have hz:=p4 (by rw [h.len]; exact c5);have hk:=h.ln k c4;have ha:=h.ln _ c5;have hb:B+n*60001≤40000000:=by
     omega
   have hvc:vc = .int .i64 (n:Int):=by
    have:=BJ (V:=Bs L0 g n C) (F:=⟨[],[],[],[],[],[],[]⟩) ⟨rfl,WL h (by omega) hC,λ_ h=>(by cases h),λ_ h=>(by cases h),λ_ h=>(by cases h),λ_ h=>(by cases h),λ_ h=>(by cases h),λ_ h=>(by cases h),λ_ h=>(by cases h)⟩ (a:=.ext 1 false (.ap 50 (.ap 1 (.v 20) (.lit 0)) d3)) rfl k3;rw [this];simp [iD,Bs]
   refine bJ (c:=(Ca g.2 k).1) (cp:=(Ca g.2 (B_ g.2 g.1.length n)).1) (s:=QI s n) hk.ints ha.ints (VT hs1 n) (Tg hs n (by omega)) hz (by rw [hk.len]; omega) (by rw [hk.len,ha.len]) (by rw [hk.len]; exact hn) (hk.rsm.mono hb) (ha.rsm.mono hb) (dC (by omega)) (ZT (by omega)) hm0 ?_ ?_ hvc
   ·exact GW (V:=Bs L0 g n C) (q:=.v k) (e:=.v k) (by rw [DV (by omega),QP]) (by rw [QP]; exact hk.rsm.mono hb) (by rw [EY (by omega)]; simp [lD,BI]) k1
   ·exact GW (V:=Bs L0 g n C) (q:=.v (B_ g.2 g.1.length n)) (e:=.v (B_ g.2 g.1.length n)) (by rw [DV (by omega)]; simp only [qD,BI]) (by simp only [qD,BI]; exact ha.rsm.mono hb) (by rw [EY (by omega)]; simp [lD,BI]) k2
  ·cases e
 ·cases e
theorem Jw(L:List Ln)(n:Nat):Bm L (n+1)=if B_ (Bm L n).2 (Bm L n).1.length n<(Bm L n).2.length then ((Bm L n).1 ++ [n],Fg (Bm L n).2 (Bm L n).1.length (B_ (Bm L n).2 (Bm L n).1.length n) n) else Bm L n:=by
 rw [Bm]
theorem vM(hL:∀ k,k<R→IY C s B (Ca L0 k))(hB:B≤39000000)(hR:R≤6):∀ x∈rM R,Le (Bs L0 ([],L0) 0 C) (Bs L0 ([],L0) 0 C) x:=λx hx=>by
 rcases List.mem_append.1 hx with hx | hx
 ·obtain ⟨k,hk,hx⟩:=List.mem_flatMap.1 hx
  have hk:=List.mem_range.1 hk;simp only [List.mem_cons,List.not_mem_nil,or_false] at hx
  rcases hx with rfl | rfl
  ·refine Dw ?_ ?_
   ·rw [fB,DV (by omega)]
   ·rw [DV (by omega)]
    exact (hL k hk).rsm.mono (by omega)
  ·refine L6 ?_
   rw [dA,EY (by omega)]
 ·simp only [List.mem_cons,List.not_mem_nil,or_false] at hx
  rcases hx with rfl | rfl | rfl
  ·exact Yr rfl
  ·exact Ab1 (by simp [iD,Bs])
  ·exact IH _ trivial
theorem gV{g':List Nat × List Ln}{n' b:Nat}{k:Nat}(hk:k<10)(he:Ca g'.2 k=Ca g.2 k)(hb:b≤40000000)(hr:A7 (Ca g.2 k).1 b):∀ x∈Vi k,Le (Bs L0 g n C) (Bs L0 g' n' C) x:=λx hx=>by
 simp only [Vi,List.mem_cons,List.not_mem_nil,or_false] at hx
 rcases hx with rfl | rfl
 ·refine Dw ?_ ?_
  ·rw [DV hk,DV hk,he]
  ·rw [DV hk,he]
   exact hr.mono hb
 ·refine L6 ?_
  rw [EY hk,EY hk,he]
theorem xJ(h:Nd R C s B n g)(h':Nd R C s B (n+1) (Bm L0 (n+1)))(hg:g=Bm L0 n)(hB:B≤39000000)(hR:R≤6)(hn:n<6):∀ x∈fQ R g.1.length (B_ g.2 g.1.length n),Le (Bs L0 g n C) (Bs L0 (Bm L0 (n+1)) (n+1) C) x:=λx hx=>by
 have hb:B+n*60001≤40000000:=by
  clear hx;omega
 have hb':B+(n+1)*60001≤40000000:=Nat.le_trans (Nat.add_le_add hB (Nat.mul_le_mul_right 60001 (show n+1≤6 from hn))) (by decide);have hlen:=h.len;have hd:Bm L0 (n+1)=if B_ g.2 g.1.length n<g.2.length then (g.1 ++ [n],Fg g.2 g.1.length (B_ g.2 g.1.length n) n) else g:=by
  rw [hg];exact Jw L0 n
 have pre:∀ i,i<g.1.length→(Bm L0 (n+1)).1.getD i 0=g.1.getD i 0:=λi hi=>by
  rw [hd];split
  ·show (g.1 ++ [n]).getD i 0=_
   rw [List.getD_eq_getElem?_getD,List.getElem?_append_left hi,← List.getD_eq_getElem?_getD]
  ·rfl
 unfold fQ at hx
 rcases List.mem_append.1 hx with hx | hx
 ·rcases List.mem_append.1 hx with hx | hx
  ·split at hx
   ·rename_i ha
    rw [if_pos (by omega)] at hd
    rcases List.mem_append.1 hx with hx | hx
    ·obtain ⟨k,hk,hx⟩:=List.mem_flatMap.1 hx
     have hk:=List.mem_range.1 hk;have hs2:Ca (Bm L0 (n+1)).2 k=if k=g.1.length then Ca g.2 (B_ g.2 g.1.length n) else if k=B_ g.2 g.1.length n then (-(Ca g.2 g.1.length).1,(Ca g.2 g.1.length).2) else if B_ g.2 g.1.length n<k then Er (Ca g.2 k).1 (Ca g.2 k).2 (Ca g.2 (B_ g.2 g.1.length n)).2 n else Ca g.2 k:=by
      rw [hd];exact Js (by omega)
     have hr:=(h'.ln k hk).rsm.mono hb';unfold sF at hx;split at hx
     ·rename_i e
      rw [if_pos e] at hs2;simp only [List.mem_cons,List.not_mem_nil,or_false] at hx;subst e
      rcases hx with rfl | rfl
      ·exact Dw (by rw [DV (by omega),DV (by omega),hs2]) (by rw [DV (by omega)]; exact hr)
      ·exact L6 (by rw [EY (by omega),EY (by omega),hs2])
     ·rename_i e
      rw [if_neg e] at hs2;split at hx
      ·rename_i e2
       rw [if_pos e2] at hs2;simp only [List.mem_cons,List.not_mem_nil,or_false] at hx;have ht:g.1.length<10:=by have:=h.tR; omega
       rcases hx with rfl | rfl
       ·refine Dw ?_ (by rw [DV (by omega)]; exact hr)
        have:qD (Bs L0 g n C) (.ap 34 (.v g.1.length) (.lit 0)) = -qD (Bs L0 g n C) (.v g.1.length):=by simp only [qD]
        rw [this,DV ht,DV (by omega),hs2]
       ·exact L6 (by rw [EY ht,EY (by omega),hs2])
      ·rename_i e2
       rw [if_neg e2] at hs2;split at hx
       ·rename_i e3
        rw [if_pos e3] at hs2;simp only [List.mem_cons,List.not_mem_nil,or_false] at hx
        rcases hx with rfl | rfl
        ·exact Dw (by rw [dC (by omega),DV (by omega),hs2]) (by rw [DV (by omega)]; exact hr)
        ·exact L6 (by rw [ZT (by omega),EY (by omega),hs2])
       ·rename_i e3
        rw [if_neg e3] at hs2;exact gV (by omega) hs2 hb (h.ln k hk).rsm x hx
    ·rw [List.mem_singleton] at hx
     subst hx;have htR:g.1.length<6:=by
      obtain ⟨p1,_⟩:=DJ (L:=g.2) (t:=g.1.length) (col:=n) (by rw [h.len]; exact h.tR);omega
     refine Yr ?_;unfold iD;rw [WE htR,hd];simp [Bs]
   ·rename_i ha
    rw [if_neg (by omega)] at hd;obtain ⟨k,hk,hx⟩:=List.mem_flatMap.1 hx;have hk:=List.mem_range.1 hk;exact gV (by omega) (by rw [hd]) hb (h.ln k hk).rsm x hx
  ·obtain ⟨i,hi,rfl⟩:=List.mem_map.1 hx
   have hi:=List.mem_range.1 hi;have:g.1.length≤6:=by have:=h.tR; omega
   refine Yr ?_;unfold iD;rw [WE (by omega),WE (by omega),pre i hi]
 ·simp only [List.mem_cons,List.not_mem_nil,or_false] at hx
  rcases hx with rfl | rfl | rfl
  ·exact Yr (by simp [iD,Bs])
  ·exact Yr (by simp [iD,Bs])
  ·exact IH _ trivial
end
theorem Ma{R:Nat}{b:Option OB}(h:mL R b=true):b=M9 (Kf R):=by
 unfold mL at h;split at h
 ·rw [Bool.and_eq_true] at h
  rw [Nat.eq_of_beq_eq_true h.1,Fl h.2];rfl
 ·cases h
theorem UO{t:Nat}{b:Option OB}(h:wM t b=true):b=Xh t:=by
 unfold wM at h;split at h
 ·rw [Bool.and_eq_true] at h
  rw [Nat.eq_of_beq_eq_true h.1,Fl h.2];rfl
 ·cases h
theorem QX{R t:Nat}{p:Option (AV × HP)}(h:fT R t p=true):p=some (vI t,yY R t):=by
 unfold fT at h;split at h
 ·split at h
  ·rw [Ma h]
   rfl
  ·cases h
 ·split at h
  ·simp only [Bool.and_eq_true] at h
   obtain ⟨⟨h1,h2⟩,h3⟩:=h;rw [Nat.eq_of_beq_eq_true h1,UO h2,Ma h3];rfl
  ·cases h
theorem yM{V:VL}{R:Nat}:@PE.ok (Ae V) (yF R R):=λxs r e=>by
 unfold yF at e;dsimp only at e;split at e
 ·split at e
  ·rename_i hc
   simp only [Bool.and_eq_true] at hc;have h:Nat.blt R R=true:=hc.2;have:=Nat.le_of_ble_eq_true h;omega
  ·cases e
 ·cases e
section
variable {L0 : List Ln} {C s B : Nat}
theorem Ad5(hR:L0.length≤6)(hR1:1≤L0.length)(hC:C≤6)(hs:s≤300)(hs1:1≤s)(hB:B≤39000000)(hL:∀ k,k<L0.length→IY C s B (Ca L0 k)){ρ0:Bg}{M:Nat→Prop}{w:World}{vs:List Value}
  (h1:@CI (Ae (Bs L0 ([],L0) 0 C)) ρ0 M (@Dl ρ0 w (lk (El L0.length))) w 0 (lk (El L0.length))) (h2:@CI (Ae (Bs L0 (Bm L0 C) C C)) ρ0 M (@Dl ρ0 w (lk (El L0.length))) w 0 (lk (El L0.length))) (hd:∀ o p,ρ0 o=some p→o<17) (hv:@CH (Ae (Bs L0 ([],L0) 0 C)) ρ0 M w (Rl L0.length) vs) :
  Calls Tryz.prog 42 vs.toArray w λe w'=>∃ v,e = .returned v ∧ @BF (Ae (Bs L0 (Bm L0 C) C C)) ρ0 M (@Dl ρ0 w (lk (El L0.length))) w 0 (lk (El L0.length)) (yY L0.length (Bm L0 C).1.length) (vI (Bm L0 C).1.length) v w':=by
 have hok:=IW hs hs1 hL;have hall:=Aeu L0.length (by omega) hR1;unfold gX at hall;rw [Bool.and_eq_true] at hall;have hA:∀ b,w.heap.size≤b → @Dl ρ0 w (lk (El L0.length)) b:=λb hb=>.inl hb
 have hHB:HB (El L0.length) ρ0 w:=λx b g c e1 e2=>by
  obtain ⟨⟨hobj,_⟩,_⟩:=id h1;obtain ⟨g',c',arr,cs,k1,_,_,k4,_⟩:=hobj x b e1;rw [e2] at k1;have:g=g':=congrArg Prod.fst (Option.some.inj k1);rw [this];exact AI k4
 refine ZK (n0:=17) (r:=vI (Bm L0 C).1.length) (U:=yY L0.length (Bm L0 C).1.length) Tryz.func42 Abq h1 h2 hd hv λa hS=>?_
 have hS:=@FS.wr' (Ae _) _ _ _ _ _ _ _ _ _ _ _ [16] (λx hx=>(by cases hx)) hS;have hF0:Bu (Bs L0 ([],L0) 0 C) uN:=⟨rfl,WL (hok 0 (by decide)) (by decide) hC,λ_ h=>(by cases h),λ_ h=>(by cases h),λ_ h=>(by cases h),λ_ h=>(by cases h),λ_ h=>(by cases h),λ_ h=>(by cases h),λ_ h=>(by cases h)⟩;have hE:∀(V:VL),∀ e∈[yF L0.length L0.length],@PE.ok (Ae V) e:=λV e he=>by
  rw [List.mem_singleton] at he;subst he;exact yM
 have e63:Zc.ntmps - (Rl L0.length).length=61:=by
  rw [Ac1];rfl
 have hS:@FS (Ae (Bs L0 ([],L0) 0 C)) (@Dl ρ0 w (lk (El L0.length))) w ρ0 M (El L0.length) 17 ⟨Rl L0.length ++ List.replicate 61 (.val undef),El L0.length,17,[16]⟩ ρ0 M a w:=by
  rw [← e63];exact hS
 show holds _ [] a w (.run jW);refine Hz hA hF0 (hE _) (@DU (Ae _)) _ (AbK L0.length (by omega) hR1) hS λρ M' a w' hS=>?_
 obtain ⟨ρ,M',hS⟩:=I1 (V':=Bs L0 ([],L0) 0 C) (V6 (vM hL hB hR) rfl rfl rfl) rfl hd hall.1 hS;refine Rc (λn:Nat=>C - n) (λn=>Bs L0 (Bm L0 n) n C) (λn=>n≤C) (λn=>Sd L0.length (Bm L0 n).1.length) ?_ 0 (Nat.zero_le _) hS;intro n hn ρ M' a w' hS;have hn:n≤C:=hn;have hg:=hok n (by omega);have htR:(Bm L0 n).1.length≤L0.length:=hg.tR;have hrow:=List.all_eq_true.1 hall.2 (Bm L0 n).1.length (List.mem_range.2 (by omega));rw [Bool.and_eq_true] at hrow
 by_cases hnC:n<C
 ·-- a round
  obtain ⟨p1,p2,p3,p4⟩:=DJ (L:=(Bm L0 n).2) (t:=(Bm L0 n).1.length) (col:=n) (by rw [hg.len]; exact htR);rw [hg.len] at p2;have hF:=AdM (L0:=L0) hg hs hs1 hR hC hnC;have hb:=List.all_eq_true.1 hrow.2 (B_ (Bm L0 n).2 (Bm L0 n).1.length n) (List.mem_range.2 (by omega));rw [Bool.or_eq_true] at hb;have hb:aW L0.length (Bm L0 n).1.length (B_ (Bm L0 n).2 (Bm L0 n).1.length n)=true:=hb.resolve_left λh=>by
   have:=Nat.le_of_ble_eq_true h;omega
  have ht':Zn L0.length (Bm L0 n).1.length (B_ (Bm L0 n).2 (Bm L0 n).1.length n)=(Bm L0 (n+1)).1.length:=by
   unfold Zn;rw [Jw,hg.len];split
   ·simp
   ·rfl
  unfold aW at hb;rw [ht'] at hb;refine jQ (V':=Bs L0 (Bm L0 (n+1)) (n+1) C) hA hHB hF (λe he=>by
   rw [List.mem_singleton] at he;subst he;exact Aab hg hs hs1 hB hR hC hnC) (@DU (Ae _)) (V6 (xJ hg (hok (n+1) (by omega)) rfl hB hR (by omega)) rfl rfl rfl) rfl hd hb hS λρ M' a w' hS=>?_
  exact ⟨n+1,ρ,M',hnC,by show C - (n+1)<C - n; omega,hS⟩
 ·-- the end
  obtain rfl:n=C:=by omega
  have hF:=AdO (L0:=L0) hg hs hs1 hR hC (Nat.le_refl _) (Nat.le_refl _);have hbx:=hrow.1;unfold tM at hbx;split at hbx
  ·rename_i s1 s2 e1 e2
   show holds _ [] a w' (.run kV);refine Hz hA hF (hE _) (@DU (Ae _)) _ e1 hS λρ M' a w' hS=>?_
   show holds _ Aah a w' (.at_ (.ext 0));unfold uJ at e2;rw [e1] at e2;refine Hz hA hF (hE _) (@DU (Ae _)) _ e2 hS λρ M' a w' hS=>?_
   exact ⟨.inr rfl,_,ρ,M',hS,QX hbx⟩
  ·cases hbx
end
def lnB:List (CE × CE)→List AV→Bool
 | [],cs=>cs.isEmpty
 | p :: l,cs=>match cs with
  | .ext 4 true (.ap 52 q (.lit n)) :: .ext 1 false (.ap 51 e (.lit 0)) :: r=>CE.beq q p.1 && CE.beq e p.2 && Nat.ble n.toNat 40000000 && lnB l r
  | _=>false
def lnO(p:CE × CE):List AV:=[aQ p.1 40000000,aL p.2]
def isI(c:AV)(C:Nat):Bool:=match Fe c with
 | some p=>Nat.beq p.1 0 && decide (p.2=(C:Int))
 | none=>false
def deC(R C:Nat)(ins outs:List (CE × CE))(pcs:List AV):Bx:=λf xs H _ t0=>match xs,H with
 | [.sl o 0 n none,c],[(o',some ⟨T,5,cs,true,none⟩)]=>if Nat.beq f 42 && Nat.beq n R && Nat.beq o o' && isI c C && Nat.beq T 78 && lnB ins cs then
   some (match pcs with
    | []=>(XS,[(o,M9 (outs.flatMap lnO))])
    | _ :: _=>(.sl t0 0 pcs.length none,[(t0,some ⟨3,1,pcs,true,none⟩),(o,M9 (outs.flatMap lnO))])) else none
 | _,_=>none
section
variable {V V' : VL}
theorem tF:∀{ins:List (CE × CE)}{cs:List AV}{k0:Nat},lnB ins cs=true→(∀(j:Nat)(p:CE × CE),ins[j]? = some p→qD V p.1=qD V' (.v (100+(k0+j)))∧A7 (qD V' (.v (100+(k0+j)))) 40000000∧lD V p.2=lD V' (.v (100+(k0+j))))→YT (Ae V) (Ae V') cs ((List.range' k0 ins.length).flatMap λk=>lnC (100+k))
 | [],cs,k0,h,_=>by
  unfold lnB at h;have:=List.isEmpty_iff.1 h;subst this;exact Mo
 | p :: l,cs,k0,h,hp=>by
  unfold lnB at h;split at h
  ·rename_i q n e r
   simp only [Bool.and_eq_true] at h;obtain ⟨⟨⟨h1,h2⟩,h3⟩,h4⟩:=h;have h1:=CE.beq_eq h1;have h2:=CE.beq_eq h2;subst h1;subst h2;obtain ⟨e1,e2,e3⟩:=hp 0 p rfl;rw [List.length_cons,List.range'_succ,List.flatMap_cons];refine DM (Og (m:=40000000) (by rw [e1,Nat.add_zero]) (Nat.le_of_ble_eq_true h3)) (DM (L6 (by rw [e3,Nat.add_zero])) ?_);refine tF h4 λj p hj=>?_
   have:=hp (j+1) p (by simpa using hj);rw [show k0+(j+1)=k0+1+j by omega] at this;exact this
  ·cases h
theorem sH:∀{outs:List (CE × CE)}{k0:Nat},(∀(j:Nat)(p:CE × CE),outs[j]? = some p→qD V' (.v (k0+j))=qD V p.1∧lD V' (.v (k0+j))=lD V p.2)→YT (Ae V') (Ae V) ((List.range' k0 outs.length).flatMap lnC) (outs.flatMap lnO)
 | [],k0,_=>Mo
 | p :: l,k0,hp=>by
  obtain ⟨e1,e2⟩:=hp 0 p rfl;rw [List.length_cons,List.range'_succ,List.flatMap_cons,List.flatMap_cons];refine DM (AcA (by rw [← e1,Nat.add_zero])) (DM (L6 (by rw [← e2,Nat.add_zero])) ?_);refine sH λj p hj=>?_
  have:=hp (j+1) p (by simpa using hj);rw [show k0+(j+1)=k0+1+j by omega] at this;exact this
end
theorem Xr{V:VL}(hz:V.z 0=0){c:AV}{C:Nat}(h:isI c C=true){ρ:Bg}{M:Nat→Prop}{w:World}{v:Value}(hv:@Bz (Ae V) ρ M w c v):v = .int .i64 (C:Int):=by
 unfold isI at h;split at h
 ·rename_i p hp
  rw [Bool.and_eq_true] at h;have h1:=Nat.eq_of_beq_eq_true h.1;have h2:=of_decide_eq_true h.2;unfold Fe at hp;split at hp
  ·cases hp
   have h2:_=(C:Int):=h2;have hv:v = .int .i64 _:=hv;rw [hv];exact congrArg (Value.int .i64) h2
  ·cases hp
   have hv:@Rp (Ae V) ρ M w _ [v]:=hv;unfold Rp at hv;have:=(List.cons.inj hv.2).1;rw [this];dsimp only at h1 h2;show Value.int .i64 (V.z _+_)=_;rw [h1,h2,hz,Int.zero_add]
  ·cases hp
 ·cases h
theorem zZ{V:VL}{L0:List Ln}{C s B:Nat}{ins outs:List (CE × CE)}{pcs:List AV}(hz:V.z 0=0)(hR:L0.length≤6)(hR1:1≤L0.length)(hC:C≤6)(hs:s≤300)(hs1:1≤s)(hB:B≤39000000)(hL:∀ k,k<L0.length→IY C s B (Ca L0 k))
  (hi:ins.length=L0.length) (hin:∀(j:Nat)(p:CE × CE),ins[j]? = some p→qD V p.1=(Ca L0 j).1∧lD V p.2=(Ca L0 j).2) (ho:outs.length=L0.length) (hout:∀(j:Nat)(p:CE × CE),outs[j]? = some p→qD V p.1=(Ca (Bm L0 C).2 j).1∧lD V p.2=(Ca (Bm L0 C).2 j).2)
  (hp:pcs.length=(Bm L0 C).1.length) (hpc:YT (Ae (Bs L0 (Bm L0 C) C C)) (Ae V) ((List.range pcs.length).map λi=>aI (1+i) 0) pcs):@Ch (Ae V) (deC L0.length C ins outs pcs):=by
 intro f xs H n0 t0 r U h;unfold deC at h;split at h
 ·rename_i o n c o' T cs
  split at h
  ·rename_i hcond
   simp only [Bool.and_eq_true] at hcond;obtain ⟨⟨⟨⟨⟨c1,c2⟩,c3⟩,c4⟩,c5⟩,c6⟩:=hcond;have c1:=Nat.eq_of_beq_eq_true c1;have c2:=Nat.eq_of_beq_eq_true c2;have c3:=Nat.eq_of_beq_eq_true c3;have c5:=Nat.eq_of_beq_eq_true c5;subst c1;subst c2;subst c3;subst c5;refine ⟨λ_ _=>by simp [go_sem],λρ M w vs hs' hdom htn hv=>?_⟩
   let σ:Nat→Option Nat:=λk=>if k=16 then some o else none
   have hlk:lk [(o,some (⟨78,5,cs,true,none⟩:OB))] o=some ⟨78,5,cs,true,none⟩:=by
    unfold lk;rw [if_pos (by simp)]
   have hlk':∀ x b,lk [(o,some (⟨78,5,cs,true,none⟩:OB))] x=some b→x=o∧b=⟨78,5,cs,true,none⟩:=λx b e=>by
    unfold lk at e;split at e
    ·rename_i hx
     cases e
     exact ⟨(Nat.eq_of_beq_eq_true hx).symm,rfl⟩
    ·cases e
   have hcan:∀(g:List Nat × List Ln)(n:Nat),Nt (Ae V) (Ae (Bs L0 g n C)) [(o,some ⟨78,5,cs,true,none⟩)] (El L0.length) σ:=λg n=>by
    refine ⟨λx y o' h1 h2=>?_,λx o' h1=>?_,λx b' e=>?_,λo' b e=>?_⟩
    ·dsimp only [σ] at h1 h2
     split at h1 <;> split at h2 <;> simp_all
    ·dsimp only [σ] at h1
     split at h1
     ·omega
     ·cases h1
    ·unfold El lk at e
     split at e
     ·rename_i hx
      have hx:=Nat.eq_of_beq_eq_true hx;subst hx
      cases e
      refine ⟨o,_,_,rfl,hlk,rfl,rfl,?_⟩;have:=tF (V:=V) (V':=Bs L0 g n C) (k0:=0) c6 λj p hj=>by
       obtain ⟨a1,a2⟩:=hin j p hj;have hjl:j<L0.length:=by
        rw [← hi];exact (List.getElem?_eq_some_iff.1 hj).1
       rw [Nat.zero_add,fB,dA];exact ⟨a1,(hL j hjl).rsm.mono (by omega),a2⟩
      rw [hi,← List.range_eq_range'] at this;exact this
     ·cases e
    ·obtain ⟨rfl,rfl⟩:=hlk' o' b e
     exact ⟨16,_,rfl,rfl⟩
   have s1:=(hcan ([],L0) 0).st0 hs';have s2:=(hcan (Bm L0 C) C).st0 hs';obtain ⟨va,_,rfl,k1,vb,_,rfl,k2,k5⟩:=hv;have k5:_=[]:=k5;subst k5;have hvb:=Xr hz c4 k2;have hv':@CH (Ae (Bs L0 ([],L0) 0 C)) (Eg σ ρ) M w (Rl L0.length) [va,vb]:=by
    refine ⟨va,_,rfl,?_,vb,_,rfl,LT ?_,rfl⟩
    ·have k1:@Rp (Ae V) ρ M w (.sl o 0 L0.length none) [va]:=k1
     show @Rp (Ae (Bs L0 ([],L0) 0 C)) (Eg σ ρ) M w (.sl 16 0 L0.length none) [va];unfold Rp at k1 ⊢;exact k1
    ·rw [hvb]
     simp [Bs]
   have hd':∀ x p,Eg σ ρ x=some p→x<17:=λx p e=>by
    unfold Eg at e;obtain ⟨o',ho',_⟩:=Option.bind_eq_some_iff.1 e;dsimp only [σ] at ho';split at ho'
    ·omega
    ·cases ho'
   have hno:∀ j,j<16→t0+j≠o:=λj hj e=>by
    obtain ⟨⟨hobj,_⟩,_,hnew,_⟩:=id hs';obtain ⟨g,c',arr,cs',q1,_⟩:=hobj o _ hlk;rw [hnew o (by omega) (by omega)] at q1
    cases q1
   have hlo:YT (Ae (Bs L0 (Bm L0 C) C C)) (Ae V) (Kf L0.length) (outs.flatMap lnO):=by
    have:=sH (V:=V) (V':=Bs L0 (Bm L0 C) C C) (outs:=outs) (k0:=0) λj p hj=>by
     obtain ⟨a1,a2⟩:=hout j p hj;have hjl:j<L0.length:=by
      rw [← ho];exact (List.getElem?_eq_some_iff.1 hj).1
     rw [Nat.zero_add,DV (by omega),EY (by omega)];exact ⟨a1.symm,a2.symm⟩
    rw [ho,← List.range_eq_range'] at this;exact this
   refine Calls.mono (Ad5 hR hR1 hC hs hs1 hB hL s1 s2 hd' hv') λe w' ⟨v,e1,hpost⟩=>⟨v,e1,?_⟩
   cases pcs with
   | nil =>
    cases h
    have ht0:(Bm L0 C).1.length=0:=hp.symm;rw [ht0] at hpost;refine (hcan (Bm L0 C) C).back hs' hpost (λρ' ρ2 M' _ hr=>?_) (λo' b e=>?_) (λx b' e hy=>?_)
    ·have hr:v = .slice none 0 0:=hr
     rw [hr];exact rfl
    ·simp only [CT] at e
     split at e
     ·rename_i hx
      cases e
      have hx:=Nat.eq_of_beq_eq_true hx;subst hx;exact ⟨16,_,_,rfl,rfl,rfl,rfl,hlo⟩
     ·rename_i hx
      obtain ⟨rfl,_⟩:=hlk' o' b e;simp at hx
    ·obtain ⟨y,hy,rfl⟩:=hy
     have:y=(16,M9 (Kf L0.length)):=by
      have hy:y∈[(16,M9 (Kf L0.length))]:=hy;simpa using hy
     subst this;exact ⟨o,rfl,_,List.mem_cons_self ..,rfl⟩
   | cons pc pr =>
    cases h
    obtain ⟨t,ht⟩:∃ t,(Bm L0 C).1.length=t+1:=⟨pr.length,hp.symm⟩;rw [ht] at hpost;have hp:(pc :: pr).length=t+1:=hp.trans ht;rw [hp] at hpc;refine (hcan (Bm L0 C) C).back hs' hpost (λρ' ρ2 M' hτ hr=>?_) (λo' b e=>?_) (λx b' e hy=>?_)
    ·rw [hp]
     have hr:@Rp (Ae (Bs L0 (Bm L0 C) C C)) ρ' M' w' (.sl 0 0 (t+1) none) [v]:=hr;show @Rp (Ae V) ρ2 M' w' (.sl t0 0 (t+1) none) [v];unfold Rp at hr ⊢;obtain ⟨g,c',k,q1,q2⟩:=hr;exact ⟨g,c',k,hτ 0 t0 _ rfl q1,q2⟩
    ·simp only [CT] at e
     split at e
     ·rename_i hx
      cases e
      have hx:=Nat.eq_of_beq_eq_true hx;subst hx;exact ⟨0,_,_,rfl,rfl,rfl,rfl,hpc⟩
     ·split at e
      ·rename_i hx
       cases e
       have hx:=Nat.eq_of_beq_eq_true hx;subst hx;exact ⟨16,_,_,rfl,rfl,rfl,rfl,hlo⟩
      ·rename_i hx
       obtain ⟨rfl,_⟩:=hlk' o' b e;simp at hx
    ·obtain ⟨y,hy,rfl⟩:=hy
     have hy:y∈[(0,Xh (t+1)),(16,M9 (Kf L0.length))]:=hy;simp only [List.mem_cons,List.not_mem_nil,or_false] at hy
     rcases hy with rfl | rfl
     ·cases e
     ·exact ⟨o,rfl,_,List.mem_cons_of_mem _ (List.mem_cons_self ..),rfl⟩
  ·cases h
 ·cases h
def loC(tab:List (CE × (CE × CE))):Bx:=λf xs H _ _=>match xs with
 | [x,.sl o 0 n c]=>match jZ H .L (.sl o 0 n c) with
  | some (.ext 1 false (.ap 51 e (.lit 0)))=>match Ke tab e with
   | some p=>if Nat.beq f 67 && XN x (.ap 36 (.lit 1) (.lit 1)) then some (.agg [aQ p.1 80001,aL p.2],[]) else none
   | none=>none
  | _=>none
 | _=>none
theorem nA:A7 1 50000000:=by
 have:A7 ((1:Int):Rat) 1:=E0 (by unfold Sm; decide) (by decide);exact this.mono (by decide)
section
variable {V : VL}
theorem wA{tab:List (CE × (CE × CE))}{F:Fa}(hF:Bu V F)(ht:∀ x∈tab,(∃ D s,Fk D s (lD V x.1)∧s≤80000∧1≤s)∧(lD V x.1).length≤6∧qD V x.2.1=DX (lD V x.1)∧lD V x.2.2=Ck (lD V x.1)):@Ch (Ae V) (loC tab):=by
 intro f xs H n0 t0 r U h;unfold loC at h;split at h
 ·rename_i x o n c
  split at h
  ·rename_i e hk
   split at h
   ·rename_i p hp
    split at h
    ·rename_i hc
     rw [Bool.and_eq_true] at hc
     cases h
     have hf:=Nat.eq_of_beq_eq_true hc.1;subst hf;obtain ⟨⟨D,s,hfr,hs,hs1⟩,hl6,hq,hl⟩:=ht _ (BA hp);dsimp only at hfr hl6 hq hl;refine ⟨λ_ _=>by simp [go_sem],λρ M w vs hs' hdom htn hv=>?_⟩;obtain ⟨va,_,rfl,k1,vb,_,rfl,k2,k5⟩:=hv;have k5:_=[]:=k5;subst k5;obtain ⟨m,hm⟩:=FV hc.2;have q1:=(BD hm (@Bz.rv (Ae V) ρ M w _ _ k1)).1;rw [show qD V (.ap 36 (.lit 1) (.lit 1))=1 by simp only [qD]; decide] at q1;have hrow:(XP.rats (lD V e)).p (λ_=>False) w [vb]:=by
      obtain ⟨⟨hobj,hinj⟩,_⟩:=id hs';have hR:@RH (Ae V) ρ M (Dl B4 { w with heap:=#[] } (lk [])) w (CT (lk []) H):=by
       have e:CT (lk []) H=lk H:=funext λo=>by
        letI:=Ae V
        rw [← CN,List.append_nil]
       rw [e];exact @RH.mk (Ae V) _ _ _ _ _ (λo b q=>by
        obtain ⟨g,c,arr,cs,k1,k2,k3,k4,k5,k6,k7,k8⟩:=hobj o b q;exact ⟨g,c,arr,cs,@Ij.mk (Ae V) _ _ _ _ _ _ _ _ _ _ k1 k2 (.inl (Nat.zero_le _)) k4 k5 k6 k7 k8⟩) hinj
      exact Ff (Ed (M:=λ_=>False) (w0:={ w with heap:=#[] }) hF (λb hb=>hb.elim) (λb hb=>hb.elim) hR hk k2)
     obtain ⟨_,hbnd,_⟩:=id hs';refine Calls.mono (sJ (V:=V) (q:=p.1) (e:=p.2) hfr hs hs1 (c:=1) nA hl6 (by rw [hq,Rat.one_mul]) hl (λb hb=>hb.elim) q1 hrow) λen w' ⟨u,e1,e2,e3⟩=>⟨u,e1,@NR (Ae V) _ _ _ _ _ _ _ _ _ hs' e3 ?_⟩
     obtain ⟨cs,rfl,hcs⟩:=e2;refine ⟨cs,rfl,?_⟩;unfold AU at hcs ⊢;obtain ⟨x,y,e3,r1,r2⟩:=hcs;unfold AU at r2 ⊢;obtain ⟨x2,y2,e4,r3,r4⟩:=r2;refine ⟨x,y,e3,Abd (Dw rfl (by rw [hq]; exact (FN hfr _).mono (by omega)) ρ ρ M w' x (Abd r1)),x2,y2,e4,?_,by unfold AU at r4 ⊢; exact r4⟩;exact @DD (Ae V) (λo=>some o) B4 ρ (λb=>b<w.heap.size) M w' (λ_ _ _ _ e=>by cases e) (λb hb=>hbnd b hb) _ _ _ rfl r3
    ·cases h
   ·cases h
  ·cases h
 ·cases h
end
def QZ:Nat→Nat→CE
 | _,0=>.lit 0
 | k,n+1=>.ap 81 (.v k) (QZ (k+1) n)
def AaW(k C:Nat):CE:=F6 ((List.range C).map (NC k))
def cS(R C:Nat):List (CE × (CE × CE)):=(List.range R).map λk=>(AaW k C,(.v k,.v (10+k)))
def XG(C k:Nat):Nat:=if C=0 then 0 else k
def N3(R C:Nat):List (CE × CE):=(List.range R).map λk=>(.v (XG C k),.v (10+XG C k))
def Nz(R:Nat):List (CE × CE):=(List.range R).map λk=>(.v (20+k),.v (20+k))
def Ll(t:Nat):List AV:=(List.range t).map λi=>aI (1+i) 0
def oW(R C:Nat):Fa:=⟨[],(List.range R).map λk=>(.v k,0,(C:Int)),(List.range R).map λk=>(.v k,300),[],[],[],[]⟩
def Aen(R C t:Nat):Bx:=orC (loC (cS R C)) (deC R C (N3 R C) (Nz R) (Ll t))
noncomputable def Aea(R C t:Nat):=Cz AO (EA (Yw (oW R C) [] (Aen R C t)) AO 200) 21 [aM (QZ 0 R)] [] 16 0
noncomputable def Aee(R C t:Nat):Option AV:=kC [.leaf] (Aea R C t)
def isT(t:Nat)(o:Option AV):Bool:=match o with
 | some (.val (.int .i64 z))=>decide (z=(t:Int))
 | _=>false
noncomputable def UD(R C:Nat):Bool:=(List.range (R+1)).all λt=>isT t (Aee R C t)
noncomputable def Ru(R c n:Nat):Bool:=(List.range n).all λC=>UD R (c+C)
theorem Ael:Ru 1 0 6=true:=by kernel_rfl
theorem AeI:Ru 2 0 6=true:=by kernel_rfl
theorem Aeb:Ru 3 0 6=true:=by kernel_rfl
theorem AeQ:Ru 4 0 4=true:=by kernel_rfl
theorem Acw:Ru 4 4 2=true:=by kernel_rfl
theorem AeK:Ru 5 0 3=true:=by kernel_rfl
theorem AdN:Ru 5 3 2=true:=by kernel_rfl
def rT(l:List Rat):Ln:=(DX l,Ck l)
def BP(m:List (List Rat)):List Ln:=m.map rT
def Cd(m:List (List Rat))(C:Nat):Nat:=(Bm (BP m) C).1.length
structure Eo (C:Nat) (m:List (List Rat)):Prop where
 len:∀ l∈m,l.length=C
 fr:∀ l∈m,∃ D s,Fk D s l∧s≤300∧1≤s
def EC(m:List (List Rat))(C:Nat):VL:=⟨λk=>if 1≤k∧k≤6 then (((Bm (BP m) C).1.getD (k - 1) 0:Nat):Int) else 0,
 λk=>if k<10 then m.getD k [] else if k<20 then Ck (m.getD (k - 10) []) else (Ca (Bm (BP m) C).2 (k - 20)).2,
 λk=>if k<10 then DX (m.getD k []) else if k<20 then 0 else (Ca (Bm (BP m) C).2 (k - 20)).1,λ_=>[]⟩
theorem R_(V:VL):∀ n k,mD V (QZ k n)=(List.range' k n).map V.l
 | 0,k=>by simp [QZ,mD]
 | n+1,k=>by
  unfold QZ;rw [List.range'_succ,List.map_cons,← R_ V n (k+1)];simp only [mD,lD]
section
variable {m : List (List Rat)} {C : Nat}
theorem Jh{k:Nat}(hk:k<m.length):Ca (BP m) k=rT (m.getD k []):=by
 unfold Ca BP;rw [List.getD_eq_getElem?_getD,List.getElem?_map,List.getD_eq_getElem?_getD,List.getElem?_eq_getElem hk];rfl
theorem Eo.row(h:Eo C m){k:Nat}(hk:k<m.length):(m.getD k []).length=C∧∃ D s,Fk D s (m.getD k [])∧s≤300∧1≤s:=by
 rw [List.getD_eq_getElem?_getD,List.getElem?_eq_getElem hk];exact ⟨h.len _ (List.getElem_mem hk),h.fr _ (List.getElem_mem hk)⟩
theorem Eo.ln(h:Eo C m){k:Nat}(hk:k<m.length):IY C 300 300 (Ca (BP m) k):=by
 obtain ⟨h1,D,s,h2,h3,h4⟩:=h.row hk;rw [Jh hk];exact ⟨by show (Ck _).length=C; rw [Mu]; exact h1,h2.whole.mono h3,(FN h2 _).mono h3⟩
theorem pK{k:Nat}(hk:k<10):(EC m C).l k=m.getD k []:=by
 show (if k<10 then _ else _)=_;rw [if_pos hk]
theorem vP{k:Nat}(hk:k<10)(hl:(m.getD k []).length=C):lD (EC m C) (AaW k C)=m.getD k []:=by
 have e:∀ i,qD (EC m C) (NC k i)=(m.getD k []).getD i 0:=λi=>by
  simp only [NC,qD,lD];rw [pK hk];simp only [zD,EC]
  congr 1
  simp
 unfold AaW;rw [Hx,List.map_map];generalize m.getD k []=r at e hl;apply List.ext_getElem
 ·simp [hl]
 ·intro i h1 h2
  simp only [List.getElem_map,List.getElem_range,Function.comp];rw [e,List.getD_eq_getElem?_getD,List.getElem?_eq_getElem h2];rfl
theorem iQ{V V':VL}{f g:Nat→AV}:∀{l:List Nat},(∀ i∈l,Le V V' (f i,g i))→YT (Ae V) (Ae V') (l.map f) (l.map g)
 | [],_=>Mo
 | i :: l,h=>DM (h i (List.mem_cons_self ..)) (iQ λj hj=>h j (List.mem_cons_of_mem _ hj))
theorem XH{t:Nat}{o:Option AV}(h:isT t o=true):o=some (.val (.int .i64 (t:Int))):=by
 unfold isT at h;split at h
 ·rw [of_decide_eq_true h]
 ·cases h
theorem NZ{V:VL}{e:CE}{ρ:Bg}{M:Nat→Prop}{w:World}{v:Value}(h:(XP.mat (mD V e)).p M w [v]):@Bz (Ae V) ρ M w (aM e) v:=by
 show @Rp (Ae V) ρ M w (aM e) [v];unfold Rp;exact ⟨rfl,h⟩
theorem Aey(hR:m.length≤9):mD (EC m C) (QZ 0 m.length)=m:=by
 rw [R_];apply List.ext_getElem
 ·simp
 ·intro i h1 h2
  simp only [List.getElem_map,List.getElem_range',Nat.zero_add,Nat.one_mul];rw [pK (by omega),List.getD_eq_getElem?_getD,List.getElem?_eq_getElem h2];rfl
theorem Yp(hR:m.length≤5)(hR1:1≤m.length)(hC:C≤5)(hx:m.length=5→C≤4):UD m.length C=true:=by
 have pick:∀{R c n:Nat},Ru R c n=true→c≤C→C<c+n→UD R C=true:=fun {R c n} h h1 h2=>by
  have:=List.all_eq_true.1 h (C - c) (List.mem_range.2 (by omega));rwa [show c+(C - c)=C by omega] at this
 generalize m.length=R at hR hR1 hx
 match R,hR,hR1 with
 | 1,_,_=>exact pick Ael (by omega) (by omega)
 | 2,_,_=>exact pick AeI (by omega) (by omega)
 | 3,_,_=>exact pick Aeb (by omega) (by omega)
 | 4,_,_ =>
  by_cases h:C<4
  ·exact pick AeQ (by omega) (by omega)
  ·exact pick Acw (by omega) (by omega)
 | 5,_,_ =>
  have:=hx rfl
  by_cases h:C<3
  ·exact pick AeK (by omega) (by omega)
  ·exact pick AdN (by omega) (by omega)
theorem Abv(h:Eo C m)(hR:m.length≤5)(hR1:1≤m.length)(hC:C≤5)(hx:m.length=5→C≤4){M:Nat→Prop}{w:World}{v:Value}(hm0:∀ b,M b→b<w.heap.size)(hv:(XP.mat m).p M w [v]) :
  Calls Tryz.prog 21 #[v] w λe w'=>e = .returned (.int .i64 (Cd m C:Int))∧Below w.heap.size w w':=by
 have hlen:(BP m).length=m.length:=by simp [BP]
 have hok:=IW (L0:=BP m) (C:=C) (s:=300) (B:=300) (by decide) (by decide) (λk hk=>h.ln (by rw [← hlen]; exact hk)) C (by omega);rw [hlen] at hok;have hF:Bu (EC m C) (oW m.length C):=by
  refine ⟨rfl,λk=>?_,λx hx=>(by cases hx),λx hx=>?_,λx hx=>?_,λx hx=>(by cases hx),λx hx=>(by cases hx),λx hx=>(by cases hx),λx hx=>(by cases hx)⟩
  ·simp only [EC]
   split
   ·have:(Bm (BP m) C).1.getD (k - 1) 0≤6:=by
     by_cases hk:k - 1<(Bm (BP m) C).1.length
     ·rw [List.getD_eq_getElem?_getD,List.getElem?_eq_getElem hk]
      have:=hok.lt _ (List.getElem_mem hk);simp only [Option.getD_some];omega
     ·rw [List.getD_eq_getElem?_getD,List.getElem?_eq_none (by omega)]
      simp
    omega
   ·omega
  ·obtain ⟨k,hk,rfl⟩:=List.mem_map.1 hx
   have hk:=List.mem_range.1 hk;show ((lD _ (.v k)).length:Int)=(EC m C).z 0+C;rw [show lD (EC m C) (.v k)=m.getD k [] by simp only [lD]; exact pK (by omega),(h.row hk).1];simp [EC]
  ·obtain ⟨k,hk,rfl⟩:=List.mem_map.1 hx
   have hk:=List.mem_range.1 hk;intro y hy;have hy:y∈lD (EC m C) (.v k):=hy;rw [show lD (EC m C) (.v k)=m.getD k [] by simp only [lD]; exact pK (by omega)] at hy;obtain ⟨_,D,s,h2,h3,_⟩:=h.row hk;exact (h2.rsm hy).mono h3
 have htR:Cd m C≤m.length:=hok.tR;have hr:=XH (List.all_eq_true.1 (Yp hR hR1 hC hx) (Cd m C) (List.mem_range.2 (by omega)));have hq1:∀ k,k<10→qD (EC m C) (.v k)=DX (m.getD k []):=λk hk=>by
  simp only [qD,EC];rw [if_pos hk]
 have hl1:∀ k,k<10→lD (EC m C) (.v (10+k))=Ck (m.getD k []):=λk hk=>by
  simp only [lD,EC];rw [if_neg (by omega),if_pos (by omega),show 10+k - 10=k by omega]
 have hC1:@Ch (Ae (EC m C)) (loC (cS m.length C)):=wA hF λx hx=>by
  obtain ⟨k,hk,rfl⟩:=List.mem_map.1 hx;have hk:=List.mem_range.1 hk;obtain ⟨r1,D,s,r2,r3,r4⟩:=h.row hk;dsimp only;rw [vP (by omega) r1];exact ⟨⟨D,s,r2,by omega,r4⟩,by omega,hq1 k (by omega),hl1 k (by omega)⟩
 have hC2:@Ch (Ae (EC m C)) (deC m.length C (N3 m.length C) (Nz m.length) (Ll (Cd m C))):=by
  have:=zZ (V:=EC m C) (L0:=BP m) (C:=C) (s:=300) (B:=300) (ins:=N3 m.length C) (outs:=Nz m.length) (pcs:=Ll (Cd m C)) rfl (by omega) (by omega) (by omega) (by decide) (by decide) (by decide) (λk hk=>h.ln (by rw [← hlen]; exact hk)) (by simp [N3,hlen]) (λj p hj=>?_) (by simp [Nz,hlen]) (λj p hj=>?_) (by simp [Ll,Cd]) ?_
  ·rw [hlen] at this
   exact this
  ·have hjl:j<m.length:=by
    have:=(List.getElem?_eq_some_iff.1 hj).1;simpa [N3] using this
   unfold N3 at hj;rw [List.getElem?_map,List.getElem?_range hjl] at hj
   cases hj
   dsimp only;rw [Jh hjl]
   by_cases c0:C=0
   ·have e0:m.getD 0 []=m.getD j []:=by
     have h0:=(h.row (k:=0) (by omega)).1;have h1:=(h.row hjl).1;rw [List.length_eq_zero_iff.1 (h0.trans c0),List.length_eq_zero_iff.1 (h1.trans c0)]
    have:XG C j=0:=by
     unfold XG;rw [if_pos c0]
    rw [this,hq1 0 (by omega),hl1 0 (by omega),e0];exact ⟨rfl,rfl⟩
   ·have:XG C j=j:=by
     unfold XG;rw [if_neg c0]
    rw [this,hq1 j (by omega),hl1 j (by omega)];exact ⟨rfl,rfl⟩
  ·have hjl:j<m.length:=by
    have:=(List.getElem?_eq_some_iff.1 hj).1;simpa [Nz] using this
   unfold Nz at hj;rw [List.getElem?_map,List.getElem?_range hjl] at hj
   cases hj
   dsimp only;simp only [qD,lD,EC];rw [if_neg (by omega),if_neg (by omega),if_neg (by omega),if_neg (by omega),show 20+j - 20=j by omega];exact ⟨rfl,rfl⟩
  ·have hpl:(Ll (Cd m C)).length=Cd m C:=by simp [Ll]
   rw [hpl];unfold Ll;refine iQ λi hi=>Yr ?_
   have hi:=List.mem_range.1 hi;unfold iD;rw [WE (by omega)];simp only [EC];rw [if_pos (by omega),show 1+i - 1=i by omega]
 refine Calls.mono (W4 (M:=M) (w:=w) (vs:=[v]) hF (λ_ h=>by cases h) (@eZ (Ae (EC m C)) _ _ hC1 hC2) hr hm0 ⟨v,_,rfl,NZ (by rw [Aey (by omega)]; exact hv),rfl⟩) λe w' ⟨u,e1,e2,e3⟩=>⟨?_,e3⟩
 have e2:u = .int .i64 (Cd m C:Int):=e2;rw [e1,e2]
end
end Go.Proofs.YtdopbgnkneeceaaGreat
