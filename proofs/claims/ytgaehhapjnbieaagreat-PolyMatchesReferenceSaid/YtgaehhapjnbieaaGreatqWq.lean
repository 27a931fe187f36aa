/- The laws' number. -/
import Derived.Test.YtgaehhapjnbieaaGreatqVv
set_option linter.unusedSectionVars false
set_option linter.unusedVariables false
set_option linter.unusedSimpArgs false
set_option maxRecDepth 100000
namespace Go.Proofs.YtgaehhapjnbieaaGreat
open Go.RowKit
theorem Yt(z:Int):Rat.divInt z 1=(z:Rat):=by
 rw [Rat.divInt_eq_div]
 grind
noncomputable def PW:PE:=⟨50,λxs=>match xs with
 | [.ext 1 false (.ap 57 i _),.ext 1 false (.ap 57 j _)]=>some (aQ (.ap 39 i j) 1)
 | _=>none⟩
theorem Wu{V:VL}{ρ:B6}{M:Nat→Prop}{w:World}{i d:CE}{v:Value}(h:@Co (Ae V) ρ M w (.ext 1 false (.ap 57 i d)) v):v = .int .i64 (zD V i) ∧ -128≤zD V i∧zD V i≤127:=by
 have h:@Rp (Ae V) ρ M w _ [v]:=h;unfold Rp at h;exact ⟨(List.cons.inj h.2.1).1,h.2.2⟩
theorem Aag{V:VL}{i j:CE}(h1 : -128≤zD V i∧zD V i≤127)(h2 : -128≤zD V j∧zD V j≤127):At (qD V (.ap 39 i j)) 1:=by
 simp only [qD];have s:∀ z:Int,-128≤z∧z≤127→Sm z 1:=λz h=>by unfold Sm; omega
 split
 ·exact At.whole (i:=0) (s _ h1)
 ·rename_i h0
  exact At.of (s _ h1) (s _ h2) h0
theorem Q4{V:VL}:@PE.ok (Ae V) PW:=by
 intro xs r e;refine ⟨λ_ _=>by simp [PW,go_sem],λρ M w vs hm0 hv=>?_⟩;simp only [PW] at e;split at e
 ·rename_i i d j d'
  cases e
  obtain ⟨va,_,rfl,h1,vb,_,rfl,h2,h3⟩:=hv;have h3:_=[]:=h3;subst h3;obtain ⟨rfl,b1⟩:=Wu h1;obtain ⟨rfl,b2⟩:=Wu h2
  by_cases h0:zD V j=0
  ·rw [h0]
   refine Calls.mono (aC (x:=zD V i) w (by omega) (by omega)) λe w' ⟨v,e1,e2,e3⟩=>⟨v,e1,@Co.rv (Ae V) ρ M w' _ _ (Cp ?_ (Aag b1 b2)),e3⟩
   have hq:qD V (.ap 39 i j)=Rat.divInt (zD V i) 1:=by
    simp only [qD];rw [if_pos h0]; exact (Yt _).symm
   rw [hq];exact e2
  ·refine Calls.mono (Q_ w (x:=zD V i) (y:=zD V j) (by omega) (by omega) (by omega) (by omega) h0) λe w' ⟨v,e1,e2,e3⟩=>⟨v,e1,@Co.rv (Ae V) ρ M w' _ _ (Cp ?_ (Aag b1 b2)),e3⟩
   have hq:qD V (.ap 39 i j)=Rat.divInt (zD V i) (zD V j):=by
    simp only [qD];rw [if_neg h0]
   rw [hq];exact e2
 ·cases e
noncomputable def AfB:Func:=Tryz.f12
noncomputable def AnY:=Bw AfB
noncomputable def Ai3:=AQ (BT Il [PW]) Am 100 100 (.run AnY) [] (B5 10 [.agg Agi])
theorem Atc:Ai3=some (.done .ret (Af Ai3)):=by kernel_rfl
theorem Ath:Dz AfB (Af Ai3)=some (aQ (.ap 39 (.i 6 0) (.i 7 0)) 1):=by kernel_rfl
theorem Atk:AfB.body=some AnY:=by kernel_rfl
theorem AsH:AfB.ntmps=10:=by kernel_rfl
def O1(x0 x1:Int):Rat:=if x1=0 then (x0:Rat) else Rat.divInt x0 x1
theorem U6{x0 x1:Int}(h1 : -128≤x0∧x0≤127)(h2 : -128≤x1∧x1≤127):At (O1 x0 x1) 1:=by
 have s:∀ z:Int,-128≤z∧z≤127→Sm z 1:=λz h=>by unfold Sm; omega
 unfold O1;split
 ·exact At.whole (i:=0) (s _ h1)
 ·rename_i h0
  exact At.of (s _ h1) (s _ h2) h0
theorem AbF{V:VL}:∀ p∈pU,Le V V p:=by
 intro p hp ρ ρ' M w cs r;simp only [pU,P7,List.map_cons,List.map_nil,List.mem_cons,List.not_mem_nil,or_false] at hp
 rcases hp with rfl | rfl | rfl | rfl | rfl <;> (unfold Rp at r ⊢; exact r)
section
variable {V V' : VL}
theorem kN{q q':CE}{n n':Nat}(h:qD V q=qD V' q')(s:At (qD V' q') n'):Le V V' (aQ q n,aQ q' n'):=λρ ρ' M w cs r=>by
 unfold Rp at r ⊢;refine ⟨r.1,?_⟩;obtain ⟨_,h2⟩:=r.2;show (XP.num (qD V' q') _).p M w cs;exact ⟨by simpa using s,by rw [← h]; exact h2⟩
theorem OS{q:Rat}{q':CE}{n':Nat}(h:qD V' q'=q)(s:At q n'):Le V V' (.rat q,aQ q' n'):=λρ ρ' M w cs r=>by
 unfold Rp at r ⊢;obtain ⟨a,b,c,d,rfl,h1,h2⟩:=r;refine ⟨rfl,?_⟩;show (XP.num (qD V' q') _).p M w _;rw [h];exact ⟨by simpa using s,a,b,c,d,rfl,h1,h2⟩
theorem Alp{v:Value}:Le V V' (.val v,.val v):=λρ ρ' M w cs r=>by
 unfold Rp at r ⊢;exact r
end
noncomputable def XG:Func:=Tryz.f33
noncomputable def mU:=Bw XG
noncomputable def Ael:=Xo mU []
noncomputable def AiT:List JX:=Xp mU []
def FW(a:List Rat)(x:Rat)(i:Nat):VL:=⟨λk=>match k with | 1=>(a.length:Int) | 2=>(i:Int) - 1 | _=>0,λk=>match k with | 0=>a | _=>[],λk=>match k with | 0=>x | 1=>GE (a.drop i) x | _=>0,λ_=>[]⟩
def fC:List AV:=[aL (.v 0),aQ (.v 0) 40000000]
def rB:List (CE × Nat × Int):=[(.v 0,1,0)]
def MJ:Fa:=⟨[],rB,[],[],[],[],[]⟩
def Mm:Fa:=⟨[(0,2,0),(2,1,-1)],rB,[(.v 0,90000000)],[],[],[],[]⟩
def Mn:Fa:=⟨[(2,0,-1)],rB,[],[],[],[],[]⟩
def Ao5:CE:=.ap 31 (.ap 33 (.v 1) (.v 0)) (.ap 30 (.v 0) (.i 2 0))
def As6:List AV:=[.val (.bool false),.val (.slice none 0 0),.val (.bool false),.val (.slice none 0 0)]
noncomputable def Asp:HP:=[(16,some ⟨36,1,[aQ (.v 0) 40000000],false,none⟩),(32,some ⟨36,1,As6,false,none⟩),(64,some ⟨36,1,[aQ (.v 1) 50000000],false,none⟩)]
noncomputable def Yh:Fm:=LS XG.ntmps [(0,aL (.v 0)),(3,.ptr 16 0),(4,.ptr 32 0),(5,.ptr 64 0),(6,aI 2 0)] Asp 400
noncomputable def cB:=AQ (BT MJ []) Am 100 100 (.run mU) [] (B5 XG.ntmps fC)
noncomputable def eC:=AQ (BT Mm []) Am 100 100 (.run Ael) [] Yh
noncomputable def sV:=AQ (BT Mn []) Am 100 100 (.run Ael) [] Yh
noncomputable def Aix:=AQ (BT Il []) Am 100 100 (.at_ (.ext 0)) AiT (Af sV)
def AcQ:List (AV × AV):=[(aL (.v 0),aL (.v 0)),(aQ (.v 0) 40000000,aQ (.v 0) 40000000),(.val (.bool false),.val (.bool false))]
def Agj:Rd:=⟨(aI 1 (-1),aI 2 0) :: (.rat 0,aQ (.v 1) 50000000) :: AcQ,[],[],[],[],400⟩
def AhO:Rd:=⟨(aI 2 (-1),aI 2 0) :: (aQ Ao5 180000001,aQ (.v 1) 50000000) :: AcQ,[],[],[],[],400⟩
theorem AmU:cB=some (.loop Ael AiT (Af cB)):=by kernel_rfl
theorem Ao0:eC=some (.done .nor (Af eC)):=by kernel_rfl
theorem Anm:sV=some (.done (.ext 0) (Af sV)):=by kernel_rfl
theorem Aol:Aix=some (.done .ret (Af Aix)):=by kernel_rfl
theorem AqO:Fs Agj 16 (Af cB) Yh=true:=by kernel_rfl
theorem Amr:Fs AhO 16 (Af eC) Yh=true:=by kernel_rfl
theorem Ap0:below 16 Yh.H=below 16 (Af cB).H:=by kernel_rfl
theorem Ar7:below 16 Yh.H=below 16 (Af eC).H:=by kernel_rfl
theorem Aki:Ew (Af Aix) XG.results.toList=some [aQ (.v 1) 50000000]:=by kernel_rfl
theorem Amk:XG.body=some mU:=by kernel_rfl
theorem Aox:Nat.ble 2 XG.ntmps=true:=by kernel_rfl
section
variable {a : List Rat} {x : Rat}
theorem AhJ{i j:Nat}:∀ p∈AcQ,Le (FW a x i) (FW a x j) p:=by
 intro p hp;simp only [AcQ,List.mem_cons,List.not_mem_nil,or_false] at hp
 rcases hp with rfl | rfl | rfl
 ·exact BR rfl
 ·exact M8 rfl
 ·exact Alp
theorem XK{i:Nat}(h:i<a.length):GE (a.drop i) x=GE (a.drop (i+1)) x*x+a.getD i 0:=by
 rw [List.drop_eq_getElem_cons h,List.getD_eq_getElem?_getD,List.getElem?_eq_getElem h];rfl
theorem AjS(sa:∀ y∈a,At y 90000000)(sx:At x 40000000)(ha:a.length≤1000000)(sy:∀ i,i≤a.length→At (GE (a.drop i) x) 50000000){M:Nat→Prop}{w:World}{va vx:Value}(hm0:∀ b,M b→b<w.heap.size)(hva:(XP.rats a).p M w [va])(hvx:(As x).p vx w) :
  Calls Tryz.prog 33 #[va,vx] w (Ak (As (GE a x)) w):=by
 have hv:@Cz (Ae (FW a x a.length)) B4 M w fC [va,vx]:=⟨va,_,rfl,Bb (V:=FW a x a.length) (e:=.v 0) hva,vx,_,rfl,Cp (V:=FW a x a.length) (q:=.v 0) hvx sx,rfl⟩;have sm:∀{i},i≤a.length→∀ k,-1152921504606846976≤(FW a x i).z k∧(FW a x i).z k≤1152921504606846976:=fun {i} hi k=>by
  show -1152921504606846976≤(match k with | 1=>(a.length:Int) | 2=>(i:Int) - 1 | _=>0)∧(match k with | 1=>(a.length:Int) | 2=>(i:Int) - 1 | _=>0)≤(1152921504606846976:Int);split <;> omega
 have hlen:∀{i},∀ y∈rB,((lD (FW a x i) y.1).length:Int)=(FW a x i).z y.2.1+y.2.2:=fun {i}=>by simp [rB,FW,lD]
 refine Calls.mono (@B8 (Ae (FW a x a.length)) _ XG mU fC fC (λu w'=>(As (GE a x)).p u w') B4 M w [va,vx] Tryz.func33 Amk (by rfl) (Nat.le_of_ble_eq_true Aox) hm0 hv λa' hS=>?_) λe w' h=>h
 have F0:AP (FW a x a.length) MJ:=⟨rfl,sm (Nat.le_refl _),by simp [MJ],hlen,by simp [MJ],by simp [MJ],by simp [MJ],by simp [MJ],by simp [MJ]⟩;show holds _ [] a' w (.run mU);refine AN F0 (λ_ h=>by cases h) _ AmU hS λρ M' a' w' hS=>?_
 obtain ⟨ρ,M',hS⟩:=A7 (E':=Ae (FW a x a.length)) Agj (CU (λp hp=>by
  rcases List.mem_cons.1 hp with rfl | hp
  ·exact Cv (by show (a.length:Int) + -1=(a.length:Int) - 1+0; omega)
  rcases List.mem_cons.1 hp with rfl | hp
  ·refine OS ?_ (Ih.mono (by decide))
   show GE (a.drop a.length) x=0;rw [List.drop_length];rfl
  ·exact AhJ p hp) rfl rfl rfl) hm0 AqO Ap0 hS
 refine CH (λi=>i) (FW a x) (λi=>i≤a.length) Yh ?_ a.length (Nat.le_refl _) hS;intro i hi ρ M' a' w' hS;show holds _ [] a' w' (.run Ael)
 cases i with
 | zero =>
  have FX:AP (FW a x 0) Mn:=⟨rfl,sm (Nat.zero_le _),by simp [Mn,FW],hlen,by simp [Mn],by simp [Mn],by simp [Mn],by simp [Mn],by simp [Mn]⟩;refine AN FX (λ_ h=>by cases h) _ Anm hS λρ M' a' w' hS=>?_
  show holds _ AiT a' w' (.at_ (.ext 0));refine AN (CS rfl (sm (Nat.zero_le _))) (λ_ h=>by cases h) _ Aol hS λρ M' a' w' hS=>?_
  exact ⟨.inr rfl,Ae (FW a x 0),_,ρ,M',_,aQ (.v 1) 50000000,hS,Aki,rfl,λv hv=>(BN (V:=FW a x 0) (q:=.v 1) (ρ:=ρ) hv).1⟩
 | succ i =>
  have FR:AP (FW a x (i+1)) Mm:=⟨rfl,sm hi,by simp [Mm,FW]; omega,hlen,by simpa [Mm,FW,lD] using sa,by simp [Mm],by simp [Mm],by simp [Mm],by simp [Mm]⟩;refine AN FR (λ_ h=>by cases h) _ Ao0 hS λρ M' a' w' hS=>?_
  obtain ⟨ρ,M',hS⟩:=A7 (E':=Ae (FW a x i)) AhO (CU (λp hp=>by
   rcases List.mem_cons.1 hp with rfl | hp
   ·exact Cv (by show ((i+1:Nat):Int) - 1 + -1=(i:Int) - 1+0; omega)
   rcases List.mem_cons.1 hp with rfl | hp
   ·refine kN ?_ (sy i (by omega))
    have hz:(zD (FW a x (i+1)) (.i 2 0)).toNat=i:=by show (((i+1:Nat):Int) - 1+0).toNat=i; omega
    simp only [Ao5,qD,lD,hz];exact (XK (by omega)).symm
   ·exact AhJ p hp) rfl rfl rfl) hm0 Amr Ar7 hS
  exact ⟨i,ρ,M',by omega,by omega,hS⟩
end
def Up:Nat→List AV→Option (List (CE × Nat))
 | 0,_=>some []
 | k+1,.ext 4 true (.ap 52 q (.lit n)) :: l=>(Up k l).map ((q,n.toNat) :: ·)
 | k+1,.rat q :: l=>(Up k l).map ((.ap 36 (.lit q.num) (.lit (q.den:Int)),0) :: ·)
 | _+1,_=>none
theorem OP:∀{k:Nat}{l:List AV}{qs:List (CE × Nat)},Up k l=some qs→qs.length=k
 | 0,_,_,h=>by unfold Up at h; cases h; rfl
 | k+1,l,qs,h=>by
  unfold Up at h;split at h
  ·rename_i h1; omega
  ·obtain ⟨qs',h1,rfl⟩:=Option.map_eq_some_iff.1 h
   rw [List.length_cons,OP h1];omega
  ·obtain ⟨qs',h1,rfl⟩:=Option.map_eq_some_iff.1 h
   rw [List.length_cons,OP h1];omega
  ·cases h
theorem JZ{V:VL}{ρ:B6}{M:Nat→Prop}{w:World}:∀{k:Nat}{l:List AV}{qs:List (CE × Nat)}{cs:List Value},Up k l=some qs → @BC (Ae V) ρ M w l cs→∃ xs ys,cs=xs ++ ys∧AX w (qs.map λp=>qD V p.1) xs
 | 0,_,_,cs,h,_=>by
  unfold Up at h
  cases h
  exact ⟨[],cs,rfl,rfl⟩
 | k+1,l,qs,cs,h,r=>by
  unfold Up at h;split at h
  ·rename_i h1; omega
  ·rename_i k' q n l' he
   have hk:k'=k:=by omega
   subst hk;obtain ⟨qs',h1,rfl⟩:=Option.map_eq_some_iff.1 h;unfold BC at r;obtain ⟨x,y,rfl,r1,r2⟩:=r;unfold Rp at r1;obtain ⟨_,s,a,b,c,d,rfl,i1,i2⟩:=r1;obtain ⟨xs,ys,rfl,h2⟩:=JZ h1 r2;exact ⟨a :: b :: c :: d :: xs,ys,rfl,a,b,c,d,xs,rfl,i1,i2,h2⟩
  ·rename_i k' q l' he
   have hk:k'=k:=by omega
   subst hk;obtain ⟨qs',h1,rfl⟩:=Option.map_eq_some_iff.1 h;unfold BC at r;obtain ⟨x,y,rfl,r1,r2⟩:=r;unfold Rp at r1;obtain ⟨a,b,c,d,rfl,i1,i2⟩:=r1;obtain ⟨xs,ys,rfl,h2⟩:=JZ h1 r2;have e:qD V (.ap 36 (.lit q.num) (.lit (q.den:Int)))=q:=by
    show mkRat q.num ((q.den:Int)).toNat=q;rw [Int.toNat_natCast];exact Rat.mkRat_self q
   refine ⟨a :: b :: c :: d :: xs,ys,rfl,a,b,c,d,xs,rfl,?_,?_,h2⟩
   ·show Aw w _ (qD V (.ap 36 (.lit q.num) (.lit (q.den:Int)))).num
    rw [e];exact i1
   ·show Aw w _ ((qD V (.ap 36 (.lit q.num) (.lit (q.den:Int)))).den:Int)
    rw [e];exact i2
  ·cases h
def uB(k:Nat):Option (AV × HP)→Option (List (CE × Nat))
 | some (.sl o 0 n _,[(o',some b)])=>if Nat.beq o o' && Nat.beq n k && b.bl.isNone then Up n b.cs else none
 | _=>none
theorem Oz{V:VL}{F:Fa}{L:List PE}{f m k:Nat}{xs:List AV}{qs:List (CE × Nat)}(hF:AP V F)(hL:∀ e∈L,@PE.ok (Ae V) e)(h:uB k (EQ Am (DW (BT F L) Am m) f xs [] 16 0)=some qs)
  {M:Nat→Prop} {w:World} {vs:List Value} (hm0:∀ b,M b→b<w.heap.size) (hv:@Cz (Ae V) B4 M w xs vs) :
  Calls Tryz.prog f vs.toArray w λe w'=>∃ u,e = .returned u∧(XP.rats (qs.map λp=>qD V p.1)).p M w' [u]∧Below w.heap.size w w':=by
 letI:=Ae V
 generalize hr:EQ Am (DW (BT F L) Am m) f xs [] 16 0=r at h;unfold uB at h;split at h
 ·rename_i o n cap o' b
  split at h
  ·rename_i hc
   simp only [Bool.and_eq_true] at hc;obtain ⟨⟨c1,c2⟩,c3⟩:=hc;have c1:=Nat.eq_of_beq_eq_true c1;have c2:=Nat.eq_of_beq_eq_true c2;subst c1;subst c2;obtain ⟨_,hcall⟩:=Hk CV (P5 (Lx hF hL) CV m).1 f xs [] 16 0 _ _ hr;have hs:Fr B4 M (pB B4 w (lk [])) w 0 (lk []):=⟨⟨λo b e=>(by cases e),λo o' b b' g c c' e=>(by cases e)⟩,hm0,λ_ _ _=>rfl,λb hb=>.inl hb⟩;refine Calls.mono (hcall B4 M w vs hs (λo p e=>(by cases e)) (by decide) hv) λe w' ⟨v,e1,ρ',M',ht,hv',hR,_,_,_,_,hfr,_⟩=>⟨v,e1,?_,⟨hfr.os,hfr.tape,hfr.output,hfr.size,λb hb=>hfr.keep b hb ?_⟩⟩
   ·have hv':Rp ρ' M' w' (.sl o 0 n cap) [v]:=hv'
    unfold Rp at hv';obtain ⟨g,c,kk,q1,q2,q3,_⟩:=hv';obtain ⟨g2,c2,arr,cs,ok⟩:=hR.obj o b (by simp [FQ]);have q4:=ok.at_;rw [q1] at q4;simp only [Option.some.injEq,Prod.mk.injEq] at q4;obtain ⟨rfl,rfl⟩:=q4;have hge:w.heap.size≤g:=by
     rcases ok.own with h1 | ⟨_,_,_,h1,_⟩
     ·exact h1
     ·cases h1
    obtain ⟨ys,zs,rfl,k1⟩:=JZ h (ok.cells.rps (Option.isNone_iff_eq_none.1 c3));obtain ⟨tl,he,_⟩:=ok.pre;have hra:=Ha ok.blk he;have hl:(qs.map λp=>qD V p.1).length=n:=by rw [List.length_map,OP h]
    refine ⟨some ⟨g,0,none⟩,kk,by rw [hl]; exact q2,by rw [hl]; exact q3,λ_=>⟨g,0,ys,rfl,λhm=>?_,Bu ok.blk,λj x hj=>hra j x ?_,k1⟩⟩
    ·have:=hm0 g hm
     omega
    ·have hlt:j<ys.length:=(List.getElem?_eq_some_iff.1 hj).1
     rw [List.getElem?_append_left hlt];exact hj
   ·rintro (h1 | ⟨_,_,_,h1,_⟩)
    ·omega
    ·cases h1
  ·cases h
 ·cases h
def H8(l:List Rat)(m:Nat):List Rat:=(List.range m).map λi=>O1 (l.getD (2*i) 0).num (l.getD (2*i+1) 0).num
def Fo(l:List Rat)(n:Nat):List Rat:=Cd (H8 l (min (l.length / 2) n))
def Ql(i:Nat):CE:=.ap 39 (.ap 2 (.v 3) (.lit ((2*i:Nat):Int))) (.ap 2 (.v 3) (.lit ((2*i+1:Nat):Int)))
def nG(lo:Nat)(ex:Bool)(m k:Nat):Fa:=⟨if ex then [(0,20,-(lo:Int)),(20,0,(lo:Int))] else [(0,20,-(lo:Int) - 1)],[(.ap 77 (.v 3) (.lit 0),20,0)],[],((List.range (m - k)).map λi=>(Ql (k+i),true)) ++ (if k=0 then [] else [(Ql (k - 1),false)]),[],[],[]⟩
def AgC(n:Nat):List AV:=[.ext 1 false (.ap 56 (.v 3) (.lit 0)),.val (.int .i64 (n:Int))]
noncomputable def Ast(n lo:Nat)(ex:Bool)(m k:Nat):=uB k (EQ Am (DW (BT (nG lo ex m k) [PW]) Am 300) 53 (AgC n) [] 16 0)
def QB:List (CE × Nat)→List (CE × Nat)→Bool
 | [],[]=>true
 | a :: l,b :: m=>CE.beq a.1 b.1 && Nat.beq a.2 b.2 && QB l m
 | _,_=>false
theorem WJ:∀{l m:List (CE × Nat)},QB l m=true→l=m
 | [],[],_=>rfl
 | a :: l,b :: m,h=>by
  unfold QB at h;rw [Bool.and_eq_true,Bool.and_eq_true] at h;rw [WJ h.2,show a=b from Prod.ext (CE.beq_eq h.1.1) (Nat.eq_of_beq_eq_true h.1.2)]
 | [],_ :: _,h=>by unfold QB at h; cases h
 | _ :: _,[],h=>by unfold QB at h; cases h
noncomputable def Afl(n lo:Nat)(ex:Bool)(m k:Nat):Bool:=match Ast n lo ex m k with
 | some l=>QB l ((List.range k).map λi=>(Ql i,1))
 | none=>false
noncomputable def Xi(n:Nat):Bool:=(List.range (n+1)).all λm=>(List.range (m+1)).all λk=>Afl n m true m k && (if Nat.beq m n then Afl n n false n k else true)
theorem AkO:Xi 3=true:=by kernel_rfl
theorem Abu:Xi 5=true:=by kernel_rfl
end Go.Proofs.YtgaehhapjnbieaaGreat
