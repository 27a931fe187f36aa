/- MatrixNull: the vectors of Null solve the homogeneous system, one for each free column, with 1 there and 0 in the other free columns. No condition. -/
import Derived.Test.YtegaedfdddapnaaGreatqN24
set_option linter.unusedSectionVars false
set_option linter.unusedVariables false
set_option linter.unusedSimpArgs false
set_option maxRecDepth 100000
namespace Go.Proofs.YtegaedfdddapnaaGreat
open Go.RowKit
def dtC(k:Nat):Nat→CE
 | 0=>q0C
 | n+1=>.ap 31 (dtC k n) (.ap 33 (GU k n) (GU 9 n))
def AfK(R C:Nat):Fa:=⟨[],((List.range R).map λk=>(.v k,0,(C:Int))) ++ [(.v 9,0,(C:Int))],((List.range R).map λk=>(.v k,300)) ++ [(.v 9,2000000)],[],[],[],[]⟩
noncomputable def AiA(R C:Nat):Option AV:=Z7 [.L] (BW AK (DC (Yx (AfK R C) []) AK 300) 27 [aM (Mp 0 R),aL (.v 9)] [] 16 0)
noncomputable def AdC:Bool:=(List.range 5).all λR=>(List.range 6).all λC=>isL ((List.range R).map λk=>dtC k C) (AiA R C)
theorem Aby:AdC=true:=by kernel_rfl
def QA(m:List (List Rat))(C:Nat)(x:List Rat):List Rat:=(List.range m.length).map λi=>NH C (fM m i) (λj=>x.getD j 0)
def H_(m:List (List Rat))(x:List Rat):VL:=⟨λ_=>0,λk=>if k=9 then x else m.getD k [],λ_=>0,λ_=>[]⟩
section
variable {m : List (List Rat)} {C : Nat} {x : List Rat}
theorem vK{k:Nat}(hk:k<9):lD (H_ m x) (.v k)=m.getD k []:=by
 simp only [lD,H_];rw [if_neg (by omega)]
theorem tT:lD (H_ m x) (.v 9)=x:=by simp [lD,H_]
theorem xT{k i:Nat}:qD (H_ m x) (GU k i)=(lD (H_ m x) (.v k)).getD i 0:=by
 have:zD (H_ m x) (.i 0 (i:Int))=(i:Int):=by
  show (0:Int)+(i:Int)=_;omega
 simp only [GU,qD];rw [this];rfl
theorem eW{k:Nat}(hk:k<9):∀ n,qD (H_ m x) (dtC k n)=sg n λj=>fM m k j*x.getD j 0
 | 0=>by
  simp only [dtC,q0C,qD,sg];decide
 | n+1=>by
  have e:qD (H_ m x) (dtC k (n+1))=qD (H_ m x) (dtC k n)+qD (H_ m x) (GU k n)*qD (H_ m x) (GU 9 n):=by simp only [dtC,qD]
  rw [e,eW hk n,xT,xT,vK hk,tT];rfl
theorem Ag7(h:BU C m)(hR:m.length≤4)(hx:x.length=C)(hb:∀ y∈x,AQ y 2000000):Bq (H_ m x) (AfK m.length C):=by
 refine Ej (λ_=>rfl) (λy hy=>?_) (λy hy=>?_) (λy hy=>(by cases hy)) (λy hy=>(by cases hy))
 ·rcases List.mem_append.1 hy with hy | hy
  ·obtain ⟨k,hk,rfl⟩:=List.mem_map.1 hy
   have hk:=List.mem_range.1 hk;dsimp only;rw [vK (by omega),(h.row hk).1]
  ·rw [List.mem_singleton] at hy
   subst hy;dsimp only;rw [tT,hx]
 ·rcases List.mem_append.1 hy with hy | hy
  ·obtain ⟨k,hk,rfl⟩:=List.mem_map.1 hy
   have hk:=List.mem_range.1 hk;intro z hz;dsimp only at hz;rw [vK (by omega)] at hz;obtain ⟨_,D,s,h2,h3,_⟩:=h.row hk;exact (h2.rsm hz).mono h3
  ·rw [List.mem_singleton] at hy
   subst hy;intro z hz;dsimp only at hz;rw [tT] at hz;exact hb z hz
theorem AeJ(hR:m.length≤8):mD (H_ m x) (Mp 0 m.length)=m:=by
 rw [OI];apply List.ext_getElem
 ·simp
 ·intro i h1 h2
  simp only [List.getElem_map,List.getElem_range',Nat.zero_add,Nat.one_mul];have:=vK (m:=m) (x:=x) (k:=i) (by omega);simp only [lD] at this;rw [this,List.getD_eq_getElem?_getD,List.getElem?_eq_getElem h2];rfl
theorem Abd(h:BU C m)(hR:m.length≤4)(hC:C≤5)(hx:x.length=C)(hb:∀ y∈x,AQ y 2000000){M:Nat→Prop}{w:World}{v vx:Value}(hm0:∀ b,M b→b<w.heap.size)(hv:(XP.mat m).p M w [v])(hvx:(XP.rats x).p M w [vx]) :
  Calls Tryz.prog 27 #[v,vx] w λe w'=>∃ u,e = .returned u∧(XP.rats (QA m C x)).p M w' [u]∧Below w.heap.size w w':=by
 have hr:=List.all_eq_true.1 (List.all_eq_true.1 Aby m.length (List.mem_range.2 (by omega))) C (List.mem_range.2 (by omega));refine Calls.mono (NC (M:=M) (w:=w) (vs:=[v,vx]) (Ag7 h hR hx hb) (λ_ h=>by cases h) (G8 hr) hm0 ⟨v,_,rfl,KJ (by rw [AeJ (by omega)]; exact hv),vx,_,rfl,Eh (V:=H_ m x) (e:=.v 9) (by rw [tT]; exact hvx),rfl⟩) λe w' ⟨u,e1,e2,e3⟩=>⟨u,e1,?_,e3⟩
 have e2:=CK (ρ:=BP) (M:=M) e2;have e:lD (H_ m x) (Fw ((List.range m.length).map λk=>dtC k C))=QA m C x:=by
  rw [F0,List.map_map];refine List.map_congr_left λk hk=>?_
  exact eW (by have:=List.mem_range.1 hk; omega) C
 rw [e] at e2;exact e2
end
noncomputable def Q4(F:Fa):PE:=⟨24,λxs=>match xs with
 | [x,y]=>(match FM x,FM y with
  | some p,some q=>if Nat.ble p.2 300000000 && Nat.ble q.2 300000000 then (JG F.zr (.ap 32 p.1 q.1)).map λb=>.val (.bool b) else none
  | _,_=>none)
 | _=>none⟩
theorem ZA{V:VL}{F:Fa}(hF:Bq V F):@PE.ok (Ab V) (Q4 F):=by
 intro xs r e;refine ⟨λ_ _=>by simp [Q4,go_sem],λρ M w vs hm0 hv=>?_⟩;unfold Q4 at e;dsimp only at e;split at e
 ·rename_i x y
  split at e
  ·rename_i p q hp hq
   split at e
   ·rename_i hc
    rw [Bool.and_eq_true] at hc;obtain ⟨b,hb,rfl⟩:=Option.map_eq_some_iff.1 e;obtain ⟨va,_,rfl,h1,vb,_,rfl,h2,h3⟩:=hv;have h3:_=[]:=h3;subst h3;obtain ⟨a1,a2⟩:=Bj hp (@BA.rv (Ab V) ρ M w _ _ h1);obtain ⟨b1,b2⟩:=Bj hq (@BA.rv (Ab V) ρ M w _ _ h2);refine Calls.mono (Aeb a1 b1 a2 b2 (Nat.le_of_ble_eq_true hc.1) (Nat.le_of_ble_eq_true hc.2)) λe w' ⟨v,e1,e2,e3⟩=>⟨v,e1,?_,e3⟩
    have hz:=hF.zr _ (BB hb);dsimp only at hz;have e2:v = .bool (decide (qD V p.1=qD V q.1)):=e2;rw [e2,← hz];show Value.bool _=Value.bool _
    congr 1
    rw [decide_eq_decide];have:qD V (.ap 32 p.1 q.1)=qD V p.1 - qD V q.1:=by simp only [qD]
    rw [this]
    constructor
    ·intro h; rw [h]; grind
    ·intro h; grind
   ·cases e
  ·cases e
 ·cases e
theorem YF{V:VL}{zr zc:Int}{l:List Rat}{m:List (List Rat)}{C:Nat}(v1:V.z 1=zr)(v2:V.z 2=zc)(v3:lD V (.v 50)=l)(v4:mD V (Mp 0 m.length)=m)(h1:0≤zr∧zr≤255)(h2:0≤zc∧zc≤255)(hl:∀ q∈l,-32768≤q.num∧q.num≤32767)(hlen:l.length≤1000000000000000)(hm:m=LZ zr zc l)(hC:C=zc.toNat % 6):@PE.ok (Ab V) (WC m.length C):=by
 intro xs r e;refine ⟨λ_ _=>by simp [WC,go_sem],λρ M w vs hm0 hv=>?_⟩;unfold WC at e;dsimp only at e;split at e
 ·split at e
  ·rename_i hs
   cases e
   have hs:=DF hs;subst hs;obtain ⟨va,_,rfl,k1,k5⟩:=hv;have k5:_=[]:=k5;subst k5;obtain ⟨cs,rfl,hc⟩:=k1;have hlf:Rc (Ab V) (Ab (Dm zr zc l)) qM [.ext 1 false (.ap 66 (.i 1 0) (.lit 0)),.ext 1 false (.ap 66 (.i 2 0) (.lit 0)),.ext 1 false (.ap 68 (.v 0) (.lit 0))]:=by
    refine CS ?_ (CS ?_ (CS ?_ IE))
    ·intro ρ ρ' M w cs r
     unfold Rp at r ⊢;refine ⟨r.1,?_⟩;have r2:(XP.ik .u8 (V.z 1+0)).p M w cs:=r.2;show (XP.ik .u8 ((Dm zr zc l).z 1+0)).p M w cs;rw [v1] at r2;exact r2
    ·intro ρ ρ' M w cs r
     unfold Rp at r ⊢;refine ⟨r.1,?_⟩;have r2:(XP.ik .u8 (V.z 2+0)).p M w cs:=r.2;show (XP.ik .u8 ((Dm zr zc l).z 2+0)).p M w cs;rw [v2] at r2;exact r2
    ·intro ρ ρ' M w cs r
     unfold Rp at r ⊢;refine ⟨r.1,?_⟩;have r2:(XP.i16s (lD V (.v 50))).p M w cs:=r.2;have e2:lD (Dm zr zc l) (.v 0)=l:=by simp [lD,Dm]
     show (XP.i16s (lD (Dm zr zc l) (.v 0))).p M w cs;rw [e2,← v3];exact r2
   refine Calls.mono (AbC h1 h2 hl hlen hm0 ⟨_,_,rfl,⟨cs,rfl,hlf ρ BP M w _ hc⟩,rfl⟩) λe w' ⟨u,e1,e2,e3⟩=>⟨_,e1,?_,e3⟩
   refine ⟨_,rfl,u,_,rfl,KJ ?_,_,_,rfl,?_,rfl⟩
   ·rw [v4,hm]
    exact e2
   ·rw [hC]
    exact rfl
  ·cases e
 ·cases e
def mNu(R C n:Nat):PE:=⟨22,λxs=>match xs with
 | [.ext 1 false (.ap 64 m (.lit 0)),.val (.int .i64 c)]=>if CE.beq m (Mp 0 R) && decide (c=(C:Int)) then some (aM (Mp 70 n)) else none
 | _=>none⟩
def mRg(R n:Nat):PE:=⟨27,λxs=>match xs with
 | [.ext 1 false (.ap 64 m (.lit 0)),.ext 1 false (.ap 51 (.v k) _)]=>if CE.beq m (Mp 0 R) && Nat.ble 70 k && Nat.blt k (70+n) then some (aL (.v 80)) else none
 | _=>none⟩
def Ab1(R C:Nat)(fr:List Nat):Fa:=⟨[],((List.range fr.length).map λk=>(.v (70+k),0,(C:Int))) ++ [(.v 80,0,(R:Int))],((List.range fr.length).map λk=>(.v (70+k),1920001)) ++ [(.v 80,1)],
 ((List.range R).map λi=>(GU 80 i,true)) ++ ((List.range fr.length).flatMap λa=>(List.range fr.length).map λi=>(.ap 32 (GU (70+a) (fr.getD i 0)) (if i=a then q1C else q0C),true)),[],[],[]⟩
noncomputable def Afk(R C:Nat)(ps:List Nat):List PE:=[sR,WC R C,So R ps,mNu R C (Cb C ps).length,mRg R (Cb C ps).length,Q4 (Ab1 R C (Cb C ps))]
noncomputable def Ad6(R C:Nat)(ps:List Nat):Option AV:=Z7 [.leaf] (BW AK (DC (Yx (Ab1 R C (Cb C ps)) (Afk R C ps)) AK 400) 4 [.agg qM] [] 16 0)
def Mc(o:Option AV):Bool:=match o with
 | some (.val (.bool b))=>b
 | _=>false
noncomputable def Ft(R C a n:Nat):Bool:=(((LQ C (min R 4) 0).drop a).take n).all λps=>Mc (Ad6 R C ps)
noncomputable def Bz(R C a:Nat):Bool:=((LQ C (min R 4) 0).drop a).all λps=>Mc (Ad6 R C ps)
theorem FP{R C a n b:Nat}(e:a+n=b)(h1:Ft R C a n=true)(h2:Bz R C b=true):Bz R C a=true:=J3 h1 (by rw [List.drop_drop,e]; exact h2)
theorem oX:Bz 0 0 0=true:=by kernel_rfl
theorem wY:Bz 0 1 0=true:=by kernel_rfl
theorem oJ:Bz 0 2 0=true:=by kernel_rfl
theorem xB:Bz 0 3 0=true:=by kernel_rfl
theorem pA:Bz 0 4 0=true:=by kernel_rfl
theorem uT:Bz 0 5 0=true:=by kernel_rfl
theorem tW:Bz 1 0 0=true:=by kernel_rfl
theorem xE:Bz 1 1 0=true:=by kernel_rfl
theorem vX:Bz 1 2 0=true:=by kernel_rfl
theorem tG:Bz 1 3 0=true:=by kernel_rfl
theorem rX:Bz 1 4 0=true:=by kernel_rfl
theorem qX:Ft 1 5 0 5=true:=by kernel_rfl
theorem uD:Bz 1 5 5=true:=by kernel_rfl
theorem uM:Bz 2 0 0=true:=by kernel_rfl
theorem sJ:Bz 2 1 0=true:=by kernel_rfl
theorem wR:Bz 2 2 0=true:=by kernel_rfl
theorem rF:Bz 2 3 0=true:=by kernel_rfl
theorem sX:Ft 2 4 0 7=true:=by kernel_rfl
theorem vO:Bz 2 4 7=true:=by kernel_rfl
theorem vA:Ft 2 5 0 5=true:=by kernel_rfl
theorem wB:Ft 2 5 5 5=true:=by kernel_rfl
theorem gX:Ft 2 5 10 5=true:=by kernel_rfl
theorem xI:Bz 2 5 15=true:=by kernel_rfl
theorem qH:Bz 3 0 0=true:=by kernel_rfl
theorem xL:Bz 3 1 0=true:=by kernel_rfl
theorem uK:Bz 3 2 0=true:=by kernel_rfl
theorem rH:Bz 3 3 0=true:=by kernel_rfl
theorem pX:Ft 3 4 0 7=true:=by kernel_rfl
theorem qQ:Ft 3 4 7 7=true:=by kernel_rfl
theorem wM:Bz 3 4 14=true:=by kernel_rfl
theorem uY:Bz 4 0 0=true:=by kernel_rfl
theorem pJ:Bz 4 1 0=true:=by kernel_rfl
theorem tV:Bz 4 2 0=true:=by kernel_rfl
theorem sS:Bz 4 3 0=true:=by kernel_rfl
theorem pG:Ft 4 4 0 7=true:=by kernel_rfl
theorem uU:Ft 4 4 7 7=true:=by kernel_rfl
theorem rN:Bz 4 4 14=true:=by kernel_rfl
theorem vV:Ft 4 5 0 5=true:=by kernel_rfl
theorem tP:Ft 4 5 5 5=true:=by kernel_rfl
theorem dK:Ft 4 5 10 5=true:=by kernel_rfl
theorem mX:Ft 4 5 15 5=true:=by kernel_rfl
theorem dQ:Ft 4 5 20 5=true:=by kernel_rfl
theorem cI:Ft 4 5 25 5=true:=by kernel_rfl
theorem rM:Bz 4 5 30=true:=by kernel_rfl
theorem wZ:Ft 3 5 0 5=true:=by kernel_rfl
theorem tC:Ft 3 5 5 5=true:=by kernel_rfl
theorem bR:Ft 3 5 10 5=true:=by kernel_rfl
theorem mS:Ft 3 5 15 5=true:=by kernel_rfl
theorem cP:Ft 3 5 20 5=true:=by kernel_rfl
theorem xA:Bz 3 5 25=true:=by kernel_rfl
theorem Af5:Bz 0 0 0=true:=oX
theorem AgM:Bz 0 1 0=true:=wY
theorem Ae0:Bz 0 2 0=true:=oJ
theorem AgO:Bz 0 3 0=true:=xB
theorem AgR:Bz 0 4 0=true:=pA
theorem AhK:Bz 0 5 0=true:=uT
theorem Agm:Bz 1 0 0=true:=tW
theorem Afg:Bz 1 1 0=true:=xE
theorem AgP:Bz 1 2 0=true:=vX
theorem Afh:Bz 1 3 0=true:=tG
theorem Agq:Bz 1 4 0=true:=rX
theorem Ahq:Bz 1 5 0=true:=FP (n:=5) (b:=5) rfl qX (uD)
theorem Ag1:Bz 2 0 0=true:=uM
theorem AgL:Bz 2 1 0=true:=sJ
theorem AfA:Bz 2 2 0=true:=wR
theorem AhX:Bz 2 3 0=true:=rF
theorem Afz:Bz 2 4 0=true:=FP (n:=7) (b:=7) rfl sX (vO)
theorem AgF:Bz 2 5 0=true:=FP (n:=5) (b:=5) rfl vA (FP (n:=5) (b:=10) rfl wB (FP (n:=5) (b:=15) rfl gX (xI)))
theorem AeG:Bz 3 0 0=true:=qH
theorem AeN:Bz 3 1 0=true:=xL
theorem AhO:Bz 3 2 0=true:=uK
theorem AeD:Bz 3 3 0=true:=rH
theorem AeB:Bz 3 4 0=true:=FP (n:=7) (b:=7) rfl pX (FP (n:=7) (b:=14) rfl qQ (wM))
theorem AfP:Bz 3 5 0=true:=FP (n:=5) (b:=5) rfl wZ (FP (n:=5) (b:=10) rfl tC (FP (n:=5) (b:=15) rfl bR (FP (n:=5) (b:=20) rfl mS (FP (n:=5) (b:=25) rfl cP (xA)))))
theorem Afn:Bz 4 0 0=true:=uY
theorem AhE:Bz 4 1 0=true:=pJ
theorem AhC:Bz 4 2 0=true:=tV
theorem AgG:Bz 4 3 0=true:=sS
theorem Ag6:Bz 4 4 0=true:=FP (n:=7) (b:=7) rfl pG (FP (n:=7) (b:=14) rfl uU (rN))
theorem AgD:Bz 4 5 0=true:=FP (n:=5) (b:=5) rfl vV (FP (n:=5) (b:=10) rfl tP (FP (n:=5) (b:=15) rfl dK (FP (n:=5) (b:=20) rfl mX (FP (n:=5) (b:=25) rfl dQ (FP (n:=5) (b:=30) rfl cI (rM))))))
theorem Qg{o:Option AV}(h:Mc o=true):o=some (.val (.bool true)):=by
 unfold Mc at h;split at h
 ·rename_i b
  have:b=true:=h;rw [this]
 ·cases h
theorem AbK{R C:Nat}{ps:List Nat}(hR:R≤4)(hC:C≤5)(hm:ps∈LQ C (min R 4) 0):Mc (Ad6 R C ps)=true:=by
 have hall:Bz R C 0=true:=by
  match R,C,hR,hC with
  | 0,0,_,_=>exact Af5
  | 0,1,_,_=>exact AgM
  | 0,2,_,_=>exact Ae0
  | 0,3,_,_=>exact AgO
  | 0,4,_,_=>exact AgR
  | 0,5,_,_=>exact AhK
  | 1,0,_,_=>exact Agm
  | 1,1,_,_=>exact Afg
  | 1,2,_,_=>exact AgP
  | 1,3,_,_=>exact Afh
  | 1,4,_,_=>exact Agq
  | 1,5,_,_=>exact Ahq
  | 2,0,_,_=>exact Ag1
  | 2,1,_,_=>exact AgL
  | 2,2,_,_=>exact AfA
  | 2,3,_,_=>exact AhX
  | 2,4,_,_=>exact Afz
  | 2,5,_,_=>exact AgF
  | 3,0,_,_=>exact AeG
  | 3,1,_,_=>exact AeN
  | 3,2,_,_=>exact AhO
  | 3,3,_,_=>exact AeD
  | 3,4,_,_=>exact AeB
  | 3,5,_,_=>exact AfP
  | 4,0,_,_=>exact Afn
  | 4,1,_,_=>exact AhE
  | 4,2,_,_=>exact AhC
  | 4,3,_,_=>exact AgG
  | 4,4,_,_=>exact Ag6
  | 4,5,_,_=>exact AgD
 unfold Bz at hall;rw [List.drop_zero] at hall;exact List.all_eq_true.1 hall _ hm
def B7(zr zc:Int)(l:List Rat)(m:List (List Rat))(N:List (List Rat))(C:Nat):VL:=⟨λk=>if k=1 then zr else if k=2 then zc else 0,
 λk=>if k<10 then m.getD k [] else if k<60 then l else if k<70 then (BV m C).getD (k - 60) [] else if k<80 then N.getD (k - 70) [] else List.replicate m.length 0,λ_=>0,λ_=>[]⟩
section
variable {zr zc : Int} {l : List Rat} {m N : List (List Rat)} {C : Nat}
theorem AfN{k:Nat}(hk:k<10):lD (B7 zr zc l m N C) (.v k)=m.getD k []:=by
 simp only [lD,B7];rw [if_pos hk]
theorem yQ:lD (B7 zr zc l m N C) (.v 50)=l:=by simp [lD,B7]
theorem Agw{k:Nat}(hk:k<10):lD (B7 zr zc l m N C) (.v (60+k))=(BV m C).getD k []:=by
 simp only [lD,B7];rw [if_neg (by omega),if_neg (by omega),if_pos (by omega),show 60+k - 60=k by omega]
theorem Tc{k:Nat}(hk:k<10):lD (B7 zr zc l m N C) (.v (70+k))=N.getD k []:=by
 simp only [lD,B7];rw [if_neg (by omega),if_neg (by omega),if_neg (by omega),if_pos (by omega),show 70+k - 70=k by omega]
theorem Xx:lD (B7 zr zc l m N C) (.v 80)=List.replicate m.length 0:=by simp [lD,B7]
theorem Xz(hR:m.length≤9):mD (B7 zr zc l m N C) (Mp 0 m.length)=m:=by
 rw [OI];apply List.ext_getElem
 ·simp
 ·intro i h1 h2
  simp only [List.getElem_map,List.getElem_range',Nat.zero_add,Nat.one_mul];have:=AfN (zr:=zr) (zc:=zc) (l:=l) (m:=m) (N:=N) (C:=C) (k:=i) (by omega);simp only [lD] at this;rw [this,List.getD_eq_getElem?_getD,List.getElem?_eq_getElem h2];rfl
theorem Ahs(hN:N.length≤9):mD (B7 zr zc l m N C) (Mp 70 N.length)=N:=by
 rw [OI];apply List.ext_getElem
 ·simp
 ·intro i h1 h2
  simp only [List.getElem_map,List.getElem_range',Nat.one_mul];have:=Tc (zr:=zr) (zc:=zc) (l:=l) (m:=m) (N:=N) (C:=C) (k:=i) (by omega);simp only [lD] at this;rw [this,List.getD_eq_getElem?_getD,List.getElem?_eq_getElem h2];rfl
theorem xQ{k i:Nat}:qD (B7 zr zc l m N C) (GU k i)=(lD (B7 zr zc l m N C) (.v k)).getD i 0:=by
 have:zD (B7 zr zc l m N C) (.i 0 (i:Int))=(i:Int):=by
  show (B7 zr zc l m N C).z 0+(i:Int)=_;simp [B7]
 simp only [GU,qD];rw [this];rfl
theorem SJ:(Gl m C).length=(Cb C (GH m C)).length:=by simp [Gl]
theorem I0{k:Nat}(hk:k<(Cb C (GH m C)).length):(Gl m C).getD k []=(List.range C).map (Gk (A8 m C) (fM (BV m C)) (NJ m C) ((Cb C (GH m C)).getD k 0)):=by
 unfold Gl;rw [List.getD_eq_getElem?_getD,List.getElem?_map,List.getElem?_eq_getElem hk,List.getD_eq_getElem?_getD,List.getElem?_eq_getElem hk];rfl
theorem Hs{k:Nat}(hk:k<(Cb C (GH m C)).length):(Cb C (GH m C)).getD k 0<C∧∀ i,i<A8 m C→NJ m C i≠(Cb C (GH m C)).getD k 0:=by
 rw [List.getD_eq_getElem?_getD,List.getElem?_eq_getElem hk];obtain ⟨h1,h2⟩:=nV (List.getElem_mem hk);exact ⟨h1,λi hi e=>h2 (List.mem_map.2 ⟨i,List.mem_range.2 hi,e⟩)⟩
theorem Ab4{C:Nat}{ps:List Nat}{i k:Nat}(hi:i<(Cb C ps).length)(hk:k<(Cb C ps).length)(e:(Cb C ps).getD i 0=(Cb C ps).getD k 0):i=k:=by
 have hn:(Cb C ps).Nodup:=List.Pairwise.filter _ List.nodup_range;rw [List.getD_eq_getElem?_getD,List.getElem?_eq_getElem hi,List.getD_eq_getElem?_getD,List.getElem?_eq_getElem hk] at e;exact (List.getElem_inj hn).1 e
theorem SU{C j:Nat}{f:Nat→Rat}(hj:j<C):((List.range C).map f).getD j 0=f j:=by
 rw [List.getD_eq_getElem?_getD,List.getElem?_map,List.getElem?_range hj];rfl
theorem R4(h:BU C m)(hR:m.length≤5)(hC:C≤6)(ht4:A8 m C≤4){f:Nat}(hf:∀ i,i<A8 m C→NJ m C i≠f)(j:Nat):AQ (Gk (A8 m C) (fM (BV m C)) (NJ m C) f j) 1920001:=by
 obtain ⟨hr,_⟩:=Gw h hC
 by_cases hj:∃ i,i<A8 m C∧NJ m C i=j
 ·obtain ⟨i,hi,rfl⟩:=hj
  rw [O7 hr hf hi];refine AQ.neg ?_;unfold fM;rw [GL hi];exact Gc (by omega) (λx hx=>(XN h hR hC ht4 hi x hx).mono (by omega)) _
 ·rw [Ix hf λi hi e=>hj ⟨i,hi,e⟩]
  split
  ·exact (DL (w:=1) (s:=1) (by unfold Sm; decide) (by decide):AQ ((1:Int):Rat) 1).mono (by decide)
  ·exact jG (by decide)
theorem VJ(h:BU C m)(hC:C≤6){k:Nat}(hk:k<(Cb C (GH m C)).length):QA m C ((Gl m C).getD k [])=List.replicate m.length 0:=by
 obtain ⟨hr,s1,_,hp⟩:=Gw h hC;obtain ⟨f1,f2⟩:=Hs hk;rw [I0 hk];unfold QA;apply List.ext_getElem
 ·simp
 ·intro i h1 h2
  simp only [List.getElem_map,List.getElem_range,List.getElem_replicate];have hi:i<m.length:=by simpa using h2
  have e:NH C (fM m i) (λj=>((List.range C).map (Gk (A8 m C) (fM (BV m C)) (NJ m C) ((Cb C (GH m C)).getD k 0))).getD j 0)=NH C (fM m i) (Gk (A8 m C) (fM (BV m C)) (NJ m C) ((Cb C (GH m C)).getD k 0)):=CA λj hj=>by
   dsimp only;rw [SU hj]
  rw [e];exact (s1 i hi).dot λi hi=>Zr hr f1 hp hi
theorem Acx(h:BU C m)(hR:m.length≤4)(hC:C≤5)(hN:N=Gl m C)(hN9:N.length≤9):@PE.ok (Ab (B7 zr zc l m N C)) (mNu m.length C N.length):=by
 intro xs r e;refine ⟨λ_ _=>by simp [mNu,go_sem],λρ M w vs hm0 hv=>?_⟩;unfold mNu at e;dsimp only at e;split at e
 ·split at e
  ·rename_i hs
   rw [Bool.and_eq_true] at hs
   cases e
   have e1:=CE.beq_eq hs.1;have e2:=of_decide_eq_true hs.2;subst e1;subst e2;obtain ⟨va,_,rfl,k1,vb,_,rfl,k2,k5⟩:=hv;have k5:_=[]:=k5;subst k5;have k2:vb = .int .i64 (C:Int):=k2;subst k2;have k1:@Rp (Ab (B7 zr zc l m N C)) ρ M w (aM (Mp 0 m.length)) [va]:=k1;unfold Rp at k1;have k1:(XP.mat (mD (B7 zr zc l m N C) (Mp 0 m.length))).p M w [va]:=k1.2;rw [Xz (by omega)] at k1;refine Calls.mono (Ahk h hR hC hm0 k1) λe w' ⟨u,e1,e2,e3⟩=>⟨u,e1,@BA.rv (Ab (B7 zr zc l m N C)) ρ M w' _ _ (KJ ?_),e3⟩
   rw [Ahs hN9,hN];exact e2
  ·cases e
 ·cases e
theorem AdW(h:BU C m)(hR:m.length≤4)(hC:C≤5)(hN:N=Gl m C)(hN9:N.length≤9):@PE.ok (Ab (B7 zr zc l m N C)) (mRg m.length N.length):=by
 have ht4:A8 m C≤4:=by have:=(D7 h (by omega)).1; omega
 intro xs r e;refine ⟨λ_ _=>by simp [mRg,go_sem],λρ M w vs hm0 hv=>?_⟩;unfold mRg at e;dsimp only at e;split at e
 ·split at e
  ·rename_i mm k d hs
   simp only [Bool.and_eq_true] at hs
   cases e
   have e1:=CE.beq_eq hs.1.1;have e2:=Nat.le_of_ble_eq_true hs.1.2;have e3:k<70+N.length:=Nat.le_of_ble_eq_true hs.2;subst e1;obtain ⟨va,_,rfl,k1,vb,_,rfl,k2,k5⟩:=hv;have k5:_=[]:=k5;subst k5;have k1:@Rp (Ab (B7 zr zc l m N C)) ρ M w (aM (Mp 0 m.length)) [va]:=k1;unfold Rp at k1;have k1:(XP.mat (mD (B7 zr zc l m N C) (Mp 0 m.length))).p M w [va]:=k1.2;rw [Xz (by omega)] at k1;have k2:=CK k2;obtain ⟨j,rfl⟩:∃ j,k=70+j:=⟨k - 70,by omega⟩;have hj:j<(Cb C (GH m C)).length:=by rw [← SJ,← hN]; omega
   rw [Tc (by omega),hN] at k2;have hx:=I0 hj;obtain ⟨_,f2⟩:=Hs hj;refine Calls.mono (Abd h hR hC (by rw [hx]; simp) (λy hy=>?_) hm0 k1 k2) λe w' ⟨u,e1,e2,e3⟩=>⟨u,e1,@BA.rv (Ab (B7 zr zc l m N C)) ρ M w' _ _ (Eh ?_),e3⟩
   ·rw [hx] at hy
    obtain ⟨i,_,rfl⟩:=List.mem_map.1 hy;exact (R4 h (by omega) (by omega) ht4 f2 i).mono (by omega)
   ·rw [Xx,← VJ h (by omega) hj]
    exact e2
  ·cases e
 ·cases e
theorem AgV(h1:0≤zr∧zr≤255)(h2:0≤zc∧zc≤255)(h:BU C m)(hR:m.length≤4)(hC:C≤5)(hN:N=Gl m C):Bq (B7 zr zc l m N C) (Ab1 m.length C (Cb C (GH m C))):=by
 have ht4:A8 m C≤4:=by have:=(D7 h (by omega)).1; omega
 have hfl:(Cb C (GH m C)).length≤C:=by
  have:=List.length_filter_le (λf=>!memN f (GH m C)) (List.range C);simpa [Cb] using this
 refine ⟨rfl,λk=>?_,λx hx=>(by cases hx),λx hx=>?_,λx hx=>?_,λx hx=>?_,λx hx=>(by cases hx),λx hx=>(by cases hx),λx hx=>(by cases hx)⟩
 ·simp only [B7]
  split
  ·omega
  ·split
   ·omega
   ·omega
 ·rcases List.mem_append.1 hx with hx | hx
  ·obtain ⟨k,hk,rfl⟩:=List.mem_map.1 hx
   have hk:=List.mem_range.1 hk;dsimp only;rw [Tc (by omega),hN,I0 hk];simp [B7]
  ·rw [List.mem_singleton] at hx
   subst hx;dsimp only;rw [Xx];simp [B7]
 ·rcases List.mem_append.1 hx with hx | hx
  ·obtain ⟨k,hk,rfl⟩:=List.mem_map.1 hx
   have hk:=List.mem_range.1 hk;intro y hy;dsimp only at hy;rw [Tc (by omega),hN,I0 hk] at hy;obtain ⟨i,_,rfl⟩:=List.mem_map.1 hy;exact R4 h (by omega) (by omega) ht4 (Hs hk).2 i
  ·rw [List.mem_singleton] at hx
   subst hx;intro y hy;dsimp only at hy;rw [Xx] at hy;rw [(List.mem_replicate.1 hy).2];exact jG (by decide)
 ·rcases List.mem_append.1 hx with hx | hx
  ·obtain ⟨i,hi,rfl⟩:=List.mem_map.1 hx
   have hi:=List.mem_range.1 hi;dsimp only;rw [xQ,Xx];refine decide_eq_true ?_;rw [List.getD_eq_getElem?_getD,List.getElem?_replicate,if_pos hi];rfl
  ·obtain ⟨a,ha,hx⟩:=List.mem_flatMap.1 hx
   have ha:=List.mem_range.1 ha;obtain ⟨i,hi,rfl⟩:=List.mem_map.1 hx;have hi:=List.mem_range.1 hi;dsimp only;refine decide_eq_true ?_;have e:∀ p q,qD (B7 zr zc l m N C) (.ap 32 p q)=qD (B7 zr zc l m N C) p - qD (B7 zr zc l m N C) q:=λp q=>by simp only [qD]
   rw [e,xQ,Tc (by omega),hN,I0 ha,SU (Hs hi).1,Ix (Hs ha).2 (Hs hi).2];have q1:∀ V:VL,qD V q1C=1:=λV=>by simp only [q1C,qD]; decide
   have q0:∀ V:VL,qD V q0C=0:=λV=>by simp only [q0C,qD]; decide
   by_cases hia:i=a
   ·subst hia
    rw [if_pos rfl,if_pos rfl,q1]
    grind
   ·rw [if_neg λe=>hia (Ab4 hi ha e),if_neg hia,q0]
    grind
end
theorem Aa2{W:World}{v:Value}{zr zc:Int}{l:List Rat}(h:Aap W v zr zc l):Calls Tryz.prog 4 #[v] W (Aj (Am (.bool true)) W):=by
 obtain ⟨s,rfl,hs,hlen,h1,h2⟩:=h;have hl:∀ q∈l,-32768≤q.num∧q.num≤32767:=by
  obtain ⟨_,_,_,_,h,_⟩:=hs;exact h
 obtain ⟨hE,hmR⟩:=jZ (zr:=zr) (zc:=zc) hl;generalize hm:LZ zr zc l=m at hE hmR;generalize hC:zc.toNat % 6=C at hE;have hR4:m.length≤4:=by omega
 have hC5:C≤5:=by omega
 have hO:=hE.ok;have hle:=(D7 hO (by omega)).1;have hfl:(Cb C (GH m C)).length≤C:=by
  have:=List.length_filter_le (λf=>!memN f (GH m C)) (List.range C);simpa [Cb] using this
 generalize hN:Gl m C=N;have hNl:N.length=(Cb C (GH m C)).length:=by rw [← hN,SJ]
 have hF:=AgV (l:=l) h1 h2 hO hR4 hC5 hN.symm;have hrun:=Qg (AbK hR4 hC5 (Wq hO hC5 (n:=min m.length 4) (by omega)));have hv:@CH (Ab (B7 zr zc l m N C)) BP (λ_=>False) W [.agg qM] [.agg #[.int .u8 zr,.int .u8 zc,s]]:=by
  refine ⟨_,_,rfl,⟨_,rfl,?_⟩,rfl⟩
  letI:=Ab (B7 zr zc l m N C)
  refine AW.app (l:=[_]) (cs:=[_]) (AW.one ?_) (AW.app (l:=[_]) (cs:=[_]) (AW.one ?_) (AW.one ?_))
  ·unfold Rp
   refine ⟨rfl,?_⟩;show (XP.ik .u8 (zD (B7 zr zc l m N C) (.i 1 0))).p _ W _;rw [show zD (B7 zr zc l m N C) (.i 1 0)=zr by simp [zD,B7]];exact rfl
  ·unfold Rp
   refine ⟨rfl,?_⟩;show (XP.ik .u8 (zD (B7 zr zc l m N C) (.i 2 0))).p _ W _;rw [show zD (B7 zr zc l m N C) (.i 2 0)=zc by simp [zD,B7]];exact rfl
  ·unfold Rp
   refine ⟨rfl,?_⟩;show (XP.i16s (lD (B7 zr zc l m N C) (.v 50))).p _ W _;rw [yQ];exact hs
 refine Calls.mono (NC (M:=λ_=>False) (w:=W) (vs:=[.agg #[.int .u8 zr,.int .u8 zc,s]]) hF (λe he=>?_) hrun (λ_ h=>h.elim) hv) λe w' ⟨u,e1,e2,e3⟩=>⟨u,e1,e2,e3⟩
 simp only [Afk,List.mem_cons,List.not_mem_nil,or_false] at he
 rcases he with rfl | rfl | rfl | rfl | rfl | rfl
 ·exact oM
 ·exact YF (by simp [B7]) (by simp [B7]) yQ (Xz (by omega)) h1 h2 hl hlen hm.symm hC.symm
 ·exact Tp hO (by omega) hC5 (by omega) (Xz (by omega)) λi hi=>Agw (by omega)
 ·rw [← hNl]
  exact Acx hO hR4 hC5 hN.symm (by omega)
 ·rw [← hNl]
  exact AdW hO hR4 hC5 hN.symm (by omega)
 ·exact ZA hF
section
open Go.ChangeShapes Go.WideShapes Go.ChangeAt Go.RowKit Go.Joins
theorem I_(os:Os)(started:os.Started)(H:Type)(enc:TypeId × Value→H) :
  ReturnsInHanded {} Tryz.checked os 4 .any (Rows.matrixNullSpec.pre6 enc Tryz.prog Tryz.f4 [] false)
   (Rows.matrixNullSpec.post enc Tryz.prog Tryz.f4 false true false false):=by
 refine returnsInHanded_of_change_sized (C:=Tryz.checked) Ah3 started (by kernel_rfl) Tryz.func4 ?_ ?_
 ·obtain ⟨w,t,i,a1,a2,a3,a4,⟨⟨p1,_⟩,p2⟩,a6⟩:=ChangeSpec.witness_at (enc:=enc) (C:=Tryz.checked) (os:=os) (f:=4) (fn:=Tryz.f4) (s:=Rows.matrixNullSpec) (conds:=[]) (apart:=false) (X:=λ_ _=>True) false (World.holding Tryz.prog os ⟨#[],#[],[]⟩) #[.agg #[.int .u8 0,.int .u8 0,.slice none 0 0]] 8 rfl (by kernel_rfl) (by kernel_rfl) (by kernel_rfl) (by kernel_rfl) (by kernel_rfl) True.intro
  exact ⟨w,t,i,a1,a2,a3,a4,⟨p1,p2⟩,a6⟩
 intro W base args ds gs before hval0 hW _ hsz0 _;have hval:∀(j:Nat) t v,Tryz.f4.params[j]? = some t→args[j]? = some v→Value.okWide Tryz.prog W .any base t v:=hval0;have hsz:(DataW.weightsEach Tryz.prog (Tryz.f4.params.toList ++ Rows.matrixNullSpec.plain.varTypes Tryz.prog) (ds ++ gs)).all (· ≤ reachBytes)=true:=hsz0;have hW':=hW;obtain ⟨p,q,hA0,hV0,rfl,hfz,hnd⟩:=hW;have hA:DataW.TrodAll enc Tryz.prog W 0 (λ_=>true) true Tryz.f4.params.toList args.toList ds p:=hA0;have hV:DataW.TrodVars enc Tryz.prog W (λ_=>true) [] gs q:=hV0;rw [Tryz.params4] at hA hval hsz;obtain ⟨rfl,rfl⟩:=trodVars_none hV;obtain ⟨v0,d0,rfl,rfl,h0⟩:=trodAll_one hA;have h0k:=h0;have hw0:∀ n∈d0.weights Tryz.prog 24,n≤reachBytes:=λn hn =>
  of_decide_eq_true (List.all_eq_true.1 hsz _ (DataW.weights_mem_each (j:=0) (t:=24) rfl rfl n hn))
 have hlt0:∀ x∈p,x.block<W.heap.size:=λx hx=>hW'.lt x (by simp [hx])
 obtain ⟨A0,B0,C0,K0⟩:=ZR (hval 0 24 v0 rfl rfl) h0 hw0;clear hA0 hV0 hval0 hsz0;refine (Aa2 K0).mono λe W' hpost=>?_
 obtain ⟨u,he,hu,hb⟩:=hpost;have hu:u = .bool true:=hu;subst hu;subst he;have e1:Rows.matrixNullSpec.fn H ([d0] ++ []) = { results:=[.lit (.bool true)],args:=[d0] }:=by simp [Rows.matrixNullSpec]
 refine ⟨_,rfl,mY hW' hb ?_ ?_ ?_⟩
 ·rw [e1]; exact trodAll_mk1 (shut_bool Tryz.underlying4 true)
 ·rw [e1]
  have:=trodAll_mk1 (Below.trod dP (by kernel_rfl) (of_decide_eq_true (by kernel_rfl)) h0k hb hlt0);simpa using this
 ·rw [e1]; rfl
theorem matrixNull_holds:Rows.MatrixNullSaid:=
 OpenClaim.holds_of_wide 4 Tryz.f4 rfl rfl rfl rfl rfl rfl rfl ⟨rfl,rfl,rfl,rfl,rfl⟩ rfl rfl rfl rfl rfl (by kernel_rfl) Tryz.func4 (by kernel_rfl)
  (of_decide_eq_true (by kernel_rfl)) (by unfold Func.isWrapper; rw [if_neg (of_decide_eq_false (by kernel_rfl))]; exact ⟨rfl,rfl⟩)
  (λos started H enc _=>I_ os started H enc)
end
end Go.Proofs.YtegaedfdddapnaaGreat
