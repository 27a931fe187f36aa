/- MatrixRank: the rank of a matrix is that of its transpose, and at most the numbers of rows and columns. No condition. -/
import Derived.Test.YtdopbgnkneeceaaGreatqN23
import Derived.Test.YtdopbgnkneeceaaGreatqMs
set_option linter.unusedSectionVars false
set_option linter.unusedVariables false
set_option linter.unusedSimpArgs false
set_option maxRecDepth 100000
namespace Go.Proofs.YtdopbgnkneeceaaGreat
open Go.RowKit
def VE:Fa:=⟨[],[],[],[],[],[],[]⟩
noncomputable def Acc:Option AV:=kC [.leaf] (Cz AO (EA (V8 VE []) AO 200) 21 [aM (.lit 0)] [] 16 0)
noncomputable def Yz:Func:=Tryz.f8
noncomputable def AcE:=C8 Yz
def aR:List AV:=[.ext 1 false (.ap 66 (.i 1 0) (.lit 0)),.ext 1 false (.ap 66 (.i 2 0) (.lit 0)),.ext 1 false (.ap 68 (.v 50) (.lit 0))]
def pI:PE:=⟨10,λxs=>match xs with
 | []=>some (.val (.bool true))
 | _=>none⟩
def WD(R C:Nat):PE:=⟨11,λxs=>match xs with
 | [.agg l]=>if J8 l aR then some (.tup [aM (QZ 0 R),.val (.int .i64 (C:Int))]) else none
 | _=>none⟩
def mTu(R C:Nat):PE:=⟨29,λxs=>match xs with
 | [.ext 1 false (.ap 64 m (.lit 0)),.val (.int .i64 c)]=>if CE.beq m (QZ 0 R) && decide (c=(C:Int)) then some (aM (QZ 10 C)) else none
 | _=>none⟩
def mRk(R C r:Nat):PE:=⟨21,λxs=>match xs with
 | [.ext 1 false (.ap 64 m (.lit 0))]=>if CE.beq m (QZ 0 R) || CE.beq m (QZ 10 C) then some (.val (.int .i64 (r:Int))) else none
 | _=>none⟩
def AbT(R C r:Nat):List PE:=[pI,WD R C,mTu R C,mRk R C r]
noncomputable def fG(R C r:Nat):=CP (V8 VE (AbT R C r)) AO 100 100 (.run AcE) [] (TH Yz.ntmps [.agg aR])
noncomputable def Abk(R C r:Nat):Bool:=match fG R C r with
 | some (.done .ret s)=>(match XK Yz s with
  | some (.val (.bool b))=>b
  | _=>false)
 | _=>false
noncomputable def yH:Bool:=(List.range 5).all λR=>(List.range 6).all λC=>(List.range 5).all λr=>Nat.blt R r || Nat.blt C r || Abk R C r
theorem AaM:yH=true:=by kernel_rfl
theorem kK:Acc=some (.val (.int .i64 0)):=by kernel_rfl
theorem kN:Yz.body=some AcE:=by kernel_rfl
theorem Aco:Nat.ble 1 Yz.ntmps=true:=by kernel_rfl
theorem zF{M:Nat→Prop}{w:World}{v:Value}(hm0:∀ b,M b→b<w.heap.size)(hv:(XP.mat []).p M w [v]) :
  Calls Tryz.prog 21 #[v] w λe w'=>e = .returned (.int .i64 0)∧Below w.heap.size w w':=by
 let V:VL:=⟨λ_=>0,λ_=>[],λ_=>0,λ_=>[]⟩
 have hF:Bu V VE:=⟨rfl,λk=>(by simp [V]),λ_ h=>(by cases h),λ_ h=>(by cases h),λ_ h=>(by cases h),λ_ h=>(by cases h),λ_ h=>(by cases h),λ_ h=>(by cases h),λ_ h=>(by cases h)⟩;refine Calls.mono (aJ (V:=V) (M:=M) (w:=w) (vs:=[v]) hF (λ_ h=>by cases h) kK hm0 ⟨v,_,rfl,NZ (by simp only [mD]; exact hv),rfl⟩) λe w' ⟨u,e1,e2,e3⟩=>⟨?_,e3⟩
 have e2:u = .int .i64 0:=e2;rw [e1,e2]
def Dk(zr zc:Int)(l:List Rat)(m:List (List Rat))(C:Nat):VL:=⟨λk=>if k=1 then zr else if k=2 then zc else 0,λk=>if k<10 then m.getD k [] else if k<20 then (FY m C).getD (k - 10) [] else l,λ_=>0,λ_=>[]⟩
section
variable {zr zc : Int} {l : List Rat} {m : List (List Rat)} {C : Nat}
theorem vK(hR:m.length≤9):mD (Dk zr zc l m C) (QZ 0 m.length)=m:=by
 rw [R_];apply List.ext_getElem
 ·simp
 ·intro i h1 h2
  simp only [List.getElem_map,List.getElem_range',Nat.zero_add,Nat.one_mul];simp only [Dk];rw [if_pos (by omega),List.getD_eq_getElem?_getD,List.getElem?_eq_getElem h2];rfl
theorem AdS(hC:C≤9):mD (Dk zr zc l m C) (QZ 10 C)=FY m C:=by
 rw [R_];have hl:(FY m C).length=C:=by simp [FY]
 apply List.ext_getElem
 ·simp [hl]
 ·intro i h1 h2
  simp only [List.getElem_map,List.getElem_range',Nat.one_mul];simp only [Dk];rw [if_neg (by omega),if_pos (by omega),show 10+i - 10=i by omega,List.getD_eq_getElem?_getD,List.getElem?_eq_getElem h2];rfl
theorem Rg(h:Eo C m)(hR:m.length≤5)(hC:C≤5)(hx:m.length=5→C≤4){M:Nat→Prop}{w:World}{v:Value}(hm0:∀ b,M b→b<w.heap.size)(hv:(XP.mat m).p M w [v]) :
  Calls Tryz.prog 21 #[v] w λe w'=>e = .returned (.int .i64 (Cd m C:Int))∧Below w.heap.size w w':=by
 by_cases h0:m.length=0
 ·have hm:=List.length_eq_zero_iff.1 h0
  obtain ⟨_,_,_,_,_,hle,_⟩:=Iz h (by omega);have:Cd m C=0:=by omega
  rw [this];rw [hm] at hv;exact zF hm0 hv
 ·exact Abv h hR (by omega) hC hx hm0 hv
theorem kI{V:VL}:@PE.ok (Ae V) pI:=by
 intro xs r e;refine ⟨λ_ _=>by simp [pI,go_sem],λρ M w vs hm0 hv=>?_⟩;unfold pI at e;dsimp only at e;split at e
 ·cases e
  have hv:vs=[]:=hv;subst hv;refine Calls.mono (@TI (Ae V) (@Fj.mk (Ae V) _ (@ZU (Ae V)) (@Mj.no (Ae V)) (@DU (Ae V))) w) λe w' ⟨v,e1,e2,e3⟩=>⟨v,e1,?_,e3⟩
  have e2:v = .bool true:=e2;rw [e2];exact rfl
 ·cases e
theorem fW(h1:0≤zr∧zr≤255)(h2:0≤zc∧zc≤255)(hl:∀ q∈l,-32768≤q.num∧q.num≤32767)(hlen:l.length≤1000000000000000)(hm:m=Mc zr zc l)(hC:C=zc.toNat % 6):@PE.ok (Ae (Dk zr zc l m C)) (WD m.length C):=by
 intro xs r e;refine ⟨λ_ _=>by simp [WD,go_sem],λρ M w vs hm0 hv=>?_⟩;have hmR:m.length<5:=by
  rw [hm,(Sh hl).2];omega
 unfold WD at e;dsimp only at e;split at e
 ·split at e
  ·rename_i hs
   cases e
   have hs:=Fl hs;subst hs;obtain ⟨va,_,rfl,k1,k5⟩:=hv;have k5:_=[]:=k5;subst k5;obtain ⟨cs,rfl,hc⟩:=k1;have hlf:YT (Ae (Dk zr zc l m C)) (Ae (Dv zr zc l)) aR [.ext 1 false (.ap 66 (.i 1 0) (.lit 0)),.ext 1 false (.ap 66 (.i 2 0) (.lit 0)),.ext 1 false (.ap 68 (.v 0) (.lit 0))]:=by
    refine DM ?_ (DM ?_ (DM ?_ Mo))
    ·intro ρ ρ' M w cs r
     unfold Rp at r ⊢;exact r
    ·intro ρ ρ' M w cs r
     unfold Rp at r ⊢;exact r
    ·intro ρ ρ' M w cs r
     unfold Rp at r ⊢;refine ⟨r.1,?_⟩;have r2:(XP.i16s (lD (Dk zr zc l m C) (.v 50))).p M w cs:=r.2;have e1:lD (Dk zr zc l m C) (.v 50)=l:=by simp [lD,Dk]
     have e2:lD (Dv zr zc l) (.v 0)=l:=by simp [lD,Dv]
     show (XP.i16s (lD (Dv zr zc l) (.v 0))).p M w cs;rw [e2,← e1];exact r2
   refine Calls.mono (wL h1 h2 hl hlen hm0 ⟨_,_,rfl,⟨cs,rfl,hlf ρ B4 M w _ hc⟩,rfl⟩) λe w' ⟨u,e1,e2,e3⟩=>⟨_,e1,?_,e3⟩
   refine ⟨_,rfl,u,_,rfl,NZ ?_,_,_,rfl,?_,rfl⟩
   ·rw [vK (by omega),hm]
    exact e2
   ·rw [hC]
    exact rfl
  ·cases e
 ·cases e
theorem zE(h:Eo C m)(hR:m.length≤4)(hC:C≤5):@PE.ok (Ae (Dk zr zc l m C)) (mTu m.length C):=by
 intro xs r e;refine ⟨λ_ _=>by simp [mTu,go_sem],λρ M w vs hm0 hv=>?_⟩;unfold mTu at e;dsimp only at e;split at e
 ·split at e
  ·rename_i hs
   rw [Bool.and_eq_true] at hs
   cases e
   have e1:=CE.beq_eq hs.1;have e2:=of_decide_eq_true hs.2;subst e1;subst e2;obtain ⟨va,_,rfl,k1,vb,_,rfl,k2,k5⟩:=hv;have k5:_=[]:=k5;subst k5;have k2:vb = .int .i64 (C:Int):=k2;subst k2;have k1:@Rp (Ae (Dk zr zc l m C)) ρ M w (aM (QZ 0 m.length)) [va]:=k1;unfold Rp at k1;have k1:(XP.mat (mD (Dk zr zc l m C) (QZ 0 m.length))).p M w [va]:=k1.2;rw [vK (by omega)] at k1;refine Calls.mono (oB h hR hC hm0 k1) λe w' ⟨u,e1,e2,e3⟩=>⟨u,e1,@Bz.rv (Ae (Dk zr zc l m C)) ρ M w' _ _ (NZ ?_),e3⟩
   rw [AdS (by omega)];exact e2
  ·cases e
 ·cases e
theorem Abb(h:PG C m)(hR:m.length≤4)(hC:C≤5):@PE.ok (Ae (Dk zr zc l m C)) (mRk m.length C (Cd m C)):=by
 intro xs r e;refine ⟨λ_ _=>by simp [mRk,go_sem],λρ M w vs hm0 hv=>?_⟩;obtain ⟨t1,t2,t3⟩:=kF h;unfold mRk at e;dsimp only at e;split at e
 ·split at e
  ·rename_i mm hs
   cases e
   obtain ⟨va,_,rfl,k1,k5⟩:=hv;have k5:_=[]:=k5;subst k5;have k1:@Rp (Ae (Dk zr zc l m C)) ρ M w (aM mm) [va]:=k1;unfold Rp at k1;have k1:(XP.mat (mD (Dk zr zc l m C) mm)).p M w [va]:=k1.2;have fin:Calls Tryz.prog 21 #[va] w λe w'=>e = .returned (.int .i64 (Cd m C:Int))∧Below w.heap.size w w':=by
    rw [Bool.or_eq_true] at hs
    rcases hs with hs | hs
    ·rw [CE.beq_eq hs,vK (by omega)] at k1
     exact Rg h.ok (by omega) hC (by omega) hm0 k1
    ·rw [CE.beq_eq hs,AdS (by omega)] at k1
     have:=Rg (C:=m.length) t1.ok (by omega) (by omega) (by omega) hm0 k1;rw [qN h.ok t1.ok t2 (by omega) (by omega) t3] at this;exact this
   exact Calls.mono fin λe w' ⟨e1,e3⟩=>⟨_,e1,rfl,e3⟩
  ·cases e
 ·cases e
end
theorem AaG{W:World}{v:Value}{zr zc:Int}{l:List Rat}(h:uE W v zr zc l):Calls Tryz.prog 8 #[v] W (Aj (Am (.bool true)) W):=by
 obtain ⟨s,rfl,hs,hlen,h1,h2⟩:=h;have hl:∀ q∈l,-32768≤q.num∧q.num≤32767:=by
  obtain ⟨_,_,_,_,h,_⟩:=hs;exact h
 obtain ⟨hE,hmR⟩:=Sh (zr:=zr) (zc:=zc) hl;generalize hm:Mc zr zc l=m at hE hmR;generalize hC:zc.toNat % 6=C at hE;have hR4:m.length≤4:=by omega
 have hC5:C≤5:=by omega
 obtain ⟨_,_,_,_,_,r1,r2⟩:=Iz hE.ok (by omega);have hF:Bu (Dk zr zc l m C) VE:=⟨rfl,λk=>by
  simp only [Dk];split
  ·omega
  ·split
   ·omega
   ·omega,λ_ h=>(by cases h),λ_ h=>(by cases h),λ_ h=>(by cases h),λ_ h=>(by cases h),λ_ h=>(by cases h),λ_ h=>(by cases h),λ_ h=>(by cases h)⟩
 have hrun:=List.all_eq_true.1 (List.all_eq_true.1 (List.all_eq_true.1 AaM m.length (List.mem_range.2 (by omega))) C (List.mem_range.2 (by omega))) (Cd m C) (List.mem_range.2 (by omega));rw [Bool.or_eq_true,Bool.or_eq_true] at hrun;have hrun:Abk m.length C (Cd m C)=true:=hrun.resolve_left λh=>by
  rcases h with h | h
  ·have:=Nat.le_of_ble_eq_true h
   omega
  ·have:=Nat.le_of_ble_eq_true h
   omega
 unfold Abk at hrun;split at hrun
 ·rename_i st e1
  split at hrun
  ·rename_i b e2
   subst hrun;have hv:@CH (Ae (Dk zr zc l m C)) B4 (λ_=>False) W [.agg aR] [.agg #[.int .u8 zr,.int .u8 zc,s]]:=by
    refine ⟨_,_,rfl,⟨_,rfl,?_⟩,rfl⟩
    letI:=Ae (Dk zr zc l m C)
    refine AU.app (l:=[_]) (cs:=[_]) (AU.one ?_) (AU.app (l:=[_]) (cs:=[_]) (AU.one ?_) (AU.one ?_))
    ·unfold Rp
     refine ⟨rfl,?_⟩;show (XP.ik .u8 (zD (Dk zr zc l m C) (.i 1 0))).p _ W _;rw [show zD (Dk zr zc l m C) (.i 1 0)=zr by simp [zD,Dk]];exact rfl
    ·unfold Rp
     refine ⟨rfl,?_⟩;show (XP.ik .u8 (zD (Dk zr zc l m C) (.i 2 0))).p _ W _;rw [show zD (Dk zr zc l m C) (.i 2 0)=zc by simp [zD,Dk]];exact rfl
    ·unfold Rp
     refine ⟨rfl,?_⟩;show (XP.i16s (lD (Dk zr zc l m C) (.v 50))).p _ W _;rw [show lD (Dk zr zc l m C) (.v 50)=l by simp [lD,Dk]];exact hs
   have hst:F0 (fG m.length C (Cd m C))=st:=by
    rw [e1];rfl
   refine Calls.mono (mZ (xs:=[.agg aR]) .ret (.inr rfl) hF (λe he=>?_) Tryz.func8 kN (by rfl) rfl (Nat.le_of_ble_eq_true Aco) (show fG m.length C (Cd m C)=some (.done .ret (F0 (fG m.length C (Cd m C)))) by rw [hst]; exact e1) (show XK Yz (F0 (fG m.length C (Cd m C)))=some (.val (.bool true)) by rw [hst]; exact e2) (λ_ h=>h.elim) hv) λe w' ⟨u,e1,e2,e3⟩=>⟨u,e1,e2,e3⟩
   simp only [AbT,List.mem_cons,List.not_mem_nil,or_false] at he
   rcases he with rfl | rfl | rfl | rfl
   ·exact kI
   ·exact fW h1 h2 hl hlen hm.symm hC.symm
   ·exact zE hE.ok hR4 hC5
   ·exact Abb hE hR4 hC5
  ·cases hrun
 ·cases hrun
section
open Go.ChangeShapes Go.WideShapes Go.ChangeAt Go.RowKit Go.Joins
theorem IX(os:Os)(started:os.Started)(H:Type)(enc:TypeId × Value→H) :
  ReturnsInHanded {} Tryz.checked os 8 .any (Rows.matrixRankSpec.pre6 enc Tryz.prog Tryz.f8 [] false)
   (Rows.matrixRankSpec.post enc Tryz.prog Tryz.f8 false true false false):=by
 refine returnsInHanded_of_change_sized (C:=Tryz.checked) Aef started (by kernel_rfl) Tryz.func8 ?_ ?_
 ·obtain ⟨w,t,i,a1,a2,a3,a4,⟨⟨p1,_⟩,p2⟩,a6⟩:=ChangeSpec.witness_at (enc:=enc) (C:=Tryz.checked) (os:=os) (f:=8) (fn:=Tryz.f8) (s:=Rows.matrixRankSpec) (conds:=[]) (apart:=false) (X:=λ_ _=>True) false (World.holding Tryz.prog os ⟨#[],#[],[]⟩) #[.agg #[.int .u8 0,.int .u8 0,.slice none 0 0]] 8 rfl (by kernel_rfl) (by kernel_rfl) (by kernel_rfl) (by kernel_rfl) (by kernel_rfl) True.intro
  exact ⟨w,t,i,a1,a2,a3,a4,⟨p1,p2⟩,a6⟩
 intro W base args ds gs before hval0 hW _ hsz0 _;have hval:∀(j:Nat) t v,Tryz.f8.params[j]? = some t→args[j]? = some v→Value.okWide Tryz.prog W .any base t v:=hval0;have hsz:(DataW.weightsEach Tryz.prog (Tryz.f8.params.toList ++ Rows.matrixRankSpec.plain.varTypes Tryz.prog) (ds ++ gs)).all (· ≤ reachBytes)=true:=hsz0;have hW':=hW;obtain ⟨p,q,hA0,hV0,rfl,hfz,hnd⟩:=hW;have hA:DataW.TrodAll enc Tryz.prog W 0 (λ_=>true) true Tryz.f8.params.toList args.toList ds p:=hA0;have hV:DataW.TrodVars enc Tryz.prog W (λ_=>true) [] gs q:=hV0;rw [Tryz.params8] at hA hval hsz;obtain ⟨rfl,rfl⟩:=trodVars_none hV;obtain ⟨v0,d0,rfl,rfl,h0⟩:=trodAll_one hA;have h0k:=h0;have hw0:∀ n∈d0.weights Tryz.prog 24,n≤reachBytes:=λn hn =>
  of_decide_eq_true (List.all_eq_true.1 hsz _ (DataW.weights_mem_each (j:=0) (t:=24) rfl rfl n hn))
 have hlt0:∀ x∈p,x.block<W.heap.size:=λx hx=>hW'.lt x (by simp [hx])
 obtain ⟨A0,B0,C0,K0⟩:=X8 (hval 0 24 v0 rfl rfl) h0 hw0;clear hA0 hV0 hval0 hsz0;refine (AaG K0).mono λe W' hpost=>?_
 obtain ⟨u,he,hu,hb⟩:=hpost;have hu:u = .bool true:=hu;subst hu;subst he;have e1:Rows.matrixRankSpec.fn H ([d0] ++ []) = { results:=[.lit (.bool true)],args:=[d0] }:=by simp [Rows.matrixRankSpec]
 refine ⟨_,rfl,cV hW' hb ?_ ?_ ?_⟩
 ·rw [e1]; exact trodAll_mk1 (shut_bool Tryz.underlying4 true)
 ·rw [e1]
  have:=trodAll_mk1 (Below.trod bG (by kernel_rfl) (of_decide_eq_true (by kernel_rfl)) h0k hb hlt0);simpa using this
 ·rw [e1]; rfl
theorem matrixRank_holds:Rows.MatrixRankSaid:=
 OpenClaim.holds_of_wide 8 Tryz.f8 rfl rfl rfl rfl rfl rfl rfl ⟨rfl,rfl,rfl,rfl,rfl⟩ rfl rfl rfl rfl rfl (by kernel_rfl) Tryz.func8 (by kernel_rfl)
  (of_decide_eq_true (by kernel_rfl)) (by unfold Func.isWrapper; rw [if_neg (of_decide_eq_false (by kernel_rfl))]; exact ⟨rfl,rfl⟩)
  (λos started H enc _=>IX os started H enc)
end
end Go.Proofs.YtdopbgnkneeceaaGreat
