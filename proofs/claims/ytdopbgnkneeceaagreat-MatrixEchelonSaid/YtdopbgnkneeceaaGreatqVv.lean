/- An abstract machine: contracts of functions, and loops. -/
import Derived.Test.YtdopbgnkneeceaaGreatqVm
set_option linter.unusedSectionVars false
set_option linter.unusedVariables false
set_option linter.unusedSimpArgs false
set_option maxRecDepth 100000
namespace Go.Proofs.YtdopbgnkneeceaaGreat
open Go.RowKit
abbrev BQ:Bg:=λ_=>none
section
variable [Cd]
noncomputable def Aez(fn:Func)(s:Fm):Option AV:=match MY s fn.results.toList with
 | some l=>match nF l with
  | some r=>Cp (λ_=>none) r
  | none=>none
 | none=>none
def bA(W0:World)(M0:Nat→Prop)(s:Fm)(ρ:Bg)(M:Nat→Prop)(a:Act)(w:World):Prop:=FS (λb=>W0.heap.size≤b) W0 BQ M0 [] 16 s ρ M a w
def Aj7(fn:Func)(r:AV)(W0:World)(M0:Nat→Prop)(e:Exit)(a:Act)(w:World):Prop:=(e = .normal ∨ e = .ret)∧∃ s ρ M,bA W0 M0 s ρ M a w∧Aez fn s=some r
theorem sG{f:Nat}{fn:Func}{c:Code}{xs xs':List AV}{r:AV}{ρ:Bg}{M:Nat→Prop}{w:World}{vs:List Value}(hf:Tryz.prog.funcs[f]? = some fn)(hb:fn.body=some c)(hx:FC (λ_=>none) xs=some xs')(hlen:xs'.length≤fn.ntmps)(hbnd:∀ b,M b→b<w.heap.size)(hv:CH ρ M w xs vs)
  (h:∀ a,bA w M ⟨xs' ++ List.replicate (fn.ntmps - xs'.length) (.val undef),[],16,[]⟩ BQ M a w→c.wp Tryz.prog (Aj7 fn r w M) a w) :
  Calls Tryz.prog f vs.toArray w λe w'=>∃ v,e = .returned v∧RV ρ M w' r v∧Below w.heap.size w w':=by
 have hv:CH BQ M w xs' vs:=LW (σ:=λ_=>none) (λ_ _ _ e=>by cases e) (λ_ h=>h) hx hv;refine callsIn_wide.1 (callsIn_of_wp_marks (F:=Eo none) (n:=9) hf hb trivial (FZ.2 (Code.wp_mono ?_ (h { tmps:=vs.toArray ++ Array.replicate (fn.ntmps - vs.toArray.size) undef,defers:=[] } ?_))))
 ·intro e a' w' ⟨he,s,ρ',M',hF,hr⟩
  unfold Aez at hr;split at hr
  ·rename_i l hl
   split at hr
   ·rename_i r0 hr0
    have hfin:LeavesInM (Eo none) 9 Tryz.prog fn a'.tmps (λe w'=>∃ v,e = .returned v∧RV ρ M w' r v∧Below w.heap.size w w') a'.defers .returning w':=by
     refine DN (λ_ h=>h) (λ_ _ _ _ e=>by cases e) a'.defers a' w' hF rfl rfl λa2 w2 hF2 ht2=>?_
     obtain ⟨v,e1,e2⟩:=Eb hF2 (λ_ h=>h) hl hr0;rw [ht2] at e1;exact ⟨v,e1,v,rfl,Pi (σ:=λ_=>none) (λ_ _ _ e=>by cases e) hF2.sup hr e2,⟨hF2.fr.os,hF2.fr.tape,hF2.fr.output,hF2.fr.size,λb hb=>hF2.fr.keep b hb (by omega)⟩⟩
    rcases he with rfl | rfl
    ·exact hfin
    ·exact hfin
   ·cases hr
  ·cases hr
 ·have hvl:vs.length=xs'.length:=hv.len
  refine ⟨by simp [hvl],trivial,λt x hx=>?_,⟨λo b e=>(by cases e),λo o' b b' g c c' e=>(by cases e)⟩,λo p e=>(by cases e),Nat.le_refl _,hbnd,NN.refl _ _,Tr.refl _ _ _,λ_ h=>h,λ_ h=>.inl h,λo p e=>.inl e,λo _ _=>⟨rfl,λ_ _ _ e=>(by cases e)⟩⟩;have hx:(xs' ++ List.replicate (fn.ntmps - xs'.length) (.val undef))[t]? = some x:=hx;show ∃ v,(vs.toArray ++ Array.replicate (fn.ntmps - vs.toArray.size) undef)[t]? = some v∧_;rw [List.getElem?_append] at hx;split at hx
  ·rename_i hlt
   obtain ⟨v,e,k⟩:=hv.get hx;exact ⟨v,by rw [Array.getElem?_append_left (by simp [hvl,hlt])]; simpa using e,k.rv⟩
  ·rename_i hge
   rw [List.getElem?_replicate] at hx;split at hx
   ·cases hx
    refine ⟨undef,?_,rfl⟩;rw [Array.getElem?_append_right (by simp [hvl]; omega),Array.getElem?_replicate,if_pos];simp [hvl];omega
   ·cases hx
end
section
variable {E : Cd} {T : Tb} {pl : List Nat} {n : Nat} {c : Code} {s : Fm} {W0 : World} {M0 : Nat → Prop} {ρ : Bg} {M : Nat → Prop} {a : Act} {w : World} {Q : Exit → Act → World → Prop}
theorem jR(hT:@EO E T)(hpl:∀ f∈pl,Bf f)(o:RR)(hF:@bA E W0 M0 s ρ M a w)(h:Dd T pl n c s=some o)(hQ:@Aal E (λb=>W0.heap.size≤b) W0 BQ M0 [] 16 Q o):c.wp Tryz.prog Q a w:=
 FZ.1 ((@EN E T pl hT hpl n).1 false N6 c s o h (@Kp) none (λ_=>rfl) (@EG E) (@iI E _) (λb=>W0.heap.size≤b) W0 BQ M0 [] 16 ρ M a w Q (λ_ h=>h) (λ_ _ _ _ e=>by cases e) trivial hF hQ)
theorem vG{E E':Cd}{s s':Fm}(d:Rd)(hd:K5 E E' d)(hm0:∀ b,M0 b→b<W0.heap.size)(h:wkF d 16 s s'=true)(hb:below 16 s'.H=below 16 s.H)(hF:@bA E W0 M0 s ρ M a w):∃ ρ' M',@bA E' W0 M0 s' ρ' M' a w:=
 ⟨_,_,FS.move hd (λo p e=>by cases e) hm0 (.inr λb h=>.inl h) h hb hF⟩
end
def q2(k lim:Nat)(bnd:Nat→Nat→Nat):List AV→Option AV
 | [x,y]=>match FO x,FO y with
  | some p,some q=>if Nat.ble p.2 lim && Nat.ble q.2 lim then some (aQ (.ap k p.1 q.1) (bnd p.2 q.2)) else none
  | _,_=>none
 | _=>none
def q1(k lim:Nat)(bnd:Nat→Nat):List AV→Option AV
 | [x]=>match FO x with
  | some p=>if Nat.ble p.2 lim then some (aQ (.ap k p.1 (.lit 0)) (bnd p.2)) else none
  | none=>none
 | _=>none
def qs1(lim:Nat):List AV→Option AV
 | [x]=>match FO x with
  | some p=>if Nat.ble p.2 lim then some (aS p.1) else none
  | none=>none
 | _=>none
def gJ(g h:List AV→Option AV):List AV→Option AV:=λxs=>match g xs with
 | some r=>some r
 | none=>h xs
def qw(F:Fa):List AV→Option AV
 | [x]=>match FK x with
  | some i=>if tQ i.2 then some (aQ (.ap 37 (.i i.1 i.2) (.lit 0)) 2) else none
  | none=>none
 | _=>none
section
variable {V : VL} {F : Fa} {f k lim : Nat}
theorem Gi{E:Cd}{g h:List AV→Option AV}(hg:@PE.ok E ⟨f,g⟩)(hh:@PE.ok E ⟨f,h⟩):@PE.ok E ⟨f,gJ g h⟩:=by
 intro xs r e;have e:gJ g h xs=some r:=e;unfold gJ at e;split at e
 ·rename_i r' hr
  cases e
  exact hg xs r hr
 ·exact hh xs r e
theorem Zz{bnd:Nat→Nat→Nat}(pl:Bf f)(h:∀ a b i j va vb w,(An (qD V a)).p va w→(An (qD V b)).p vb w→AR (qD V a) i→AR (qD V b) j→i≤lim→j≤lim→Calls Tryz.prog f #[va,vb] w (Aj (An (qD V (.ap k a b))) w)∧AR (qD V (.ap k a b)) (bnd i j)):@PE.ok (Ab V) ⟨f,q2 k lim bnd⟩:=by
 intro xs r e;change q2 k lim bnd xs=some r at e;refine ⟨pl,λρ M w vs _ hv=>?_⟩;unfold q2 at e;split at e
 ·rename_i x y
  split at e
  ·rename_i p q hp hq
   split at e
   ·rename_i hc
    rw [Bool.and_eq_true] at hc
    cases e
    obtain ⟨va,_,rfl,h1,vb,_,rfl,h2,h3⟩:=hv;have h3:_=[]:=h3;subst h3;obtain ⟨a1,a2⟩:=Bn hp (@Bz.rv (Ab V) ρ M w _ _ h1);obtain ⟨b1,b2⟩:=Bn hq (@Bz.rv (Ab V) ρ M w _ _ h2);obtain ⟨hc,hs⟩:=h p.1 q.1 p.2 q.2 va vb w a1 b1 a2 b2 (Nat.le_of_ble_eq_true hc.1) (Nat.le_of_ble_eq_true hc.2);exact Calls.mono hc λe w' ⟨v,e1,e2,e3⟩=>⟨v,e1,@Bz.rv (Ab V) ρ M w' _ _ (Fk e2 hs),e3⟩
   ·cases e
  ·cases e
 ·cases e
theorem AbP{bnd:Nat→Nat}(pl:Bf f)(h:∀ a i va w,(An (qD V a)).p va w→AR (qD V a) i→i≤lim→Calls Tryz.prog f #[va] w (Aj (An (qD V (.ap k a (.lit 0)))) w)∧AR (qD V (.ap k a (.lit 0))) (bnd i)):@PE.ok (Ab V) ⟨f,q1 k lim bnd⟩:=by
 intro xs r e;change q1 k lim bnd xs=some r at e;refine ⟨pl,λρ M w vs _ hv=>?_⟩;unfold q1 at e;split at e
 ·rename_i x
  split at e
  ·rename_i p hp
   split at e
   ·rename_i hc
    cases e
    obtain ⟨va,_,rfl,h1,h3⟩:=hv;have h3:_=[]:=h3;subst h3;obtain ⟨a1,a2⟩:=Bn hp (@Bz.rv (Ab V) ρ M w _ _ h1);obtain ⟨hc,hs⟩:=h p.1 p.2 va w a1 a2 (Nat.le_of_ble_eq_true hc);exact Calls.mono hc λe w' ⟨v,e1,e2,e3⟩=>⟨v,e1,@Bz.rv (Ab V) ρ M w' _ _ (Fk e2 hs),e3⟩
   ·cases e
  ·cases e
 ·cases e
theorem Ahj{ρ:Bg}{M:Nat→Prop}{w:World}{q:CE}{v:Value}(h:(Am (.int .i64 (FV (qD V q) 0))).p v w):@RV (Ab V) ρ M w (aS q) v:=by
 have h:v = .int .i64 (FV (qD V q) 0):=h;show @Rp (Ab V) ρ M w (aS q) [v];unfold Rp;exact ⟨rfl,by rw [h]; rfl⟩
theorem jX(pl:Bf f)(h:∀ a i va w,(An (qD V a)).p va w→AR (qD V a) i→i≤lim→Calls Tryz.prog f #[va] w (Aj (Am (.int .i64 (FV (qD V a) 0))) w)):@PE.ok (Ab V) ⟨f,qs1 lim⟩:=by
 intro xs r e;change qs1 lim xs=some r at e;refine ⟨pl,λρ M w vs _ hv=>?_⟩;unfold qs1 at e;split at e
 ·rename_i x
  split at e
  ·rename_i p hp
   split at e
   ·rename_i hc
    cases e
    obtain ⟨va,_,rfl,h1,h3⟩:=hv;have h3:_=[]:=h3;subst h3;obtain ⟨a1,a2⟩:=Bn hp (@Bz.rv (Ab V) ρ M w _ _ h1);exact Calls.mono (h p.1 p.2 va w a1 a2 (Nat.le_of_ble_eq_true hc)) λe w' ⟨v,e1,e2,e3⟩=>⟨v,e1,Ahj e2,e3⟩
   ·cases e
  ·cases e
 ·cases e
end
noncomputable def AbN:PE:=⟨100,gJ lK.g (q2 32 100000000 λi j=>i+j+1)⟩
noncomputable def Abv:PE:=⟨48,gJ nU.g (q2 33 200000000 λi j=>i+j)⟩
noncomputable def AbD:PE:=⟨56,gJ iY.g (q1 34 200000000 λi=>i)⟩
noncomputable def lN:PE:=⟨95,gJ VU.g (qs1 200000000)⟩
noncomputable def AbO:PE:=⟨49,gJ jG.g (q2 31 100000000 λi j=>i+j+1)⟩
noncomputable def Ab1:PE:=⟨37,gJ pX.g (q2 33 100000000 λi j=>i+j)⟩
noncomputable def Acu:PE:=⟨36,gJ rS.g (q1 34 100000000 λi=>i)⟩
noncomputable def sM:PE:=⟨38,gJ Ui.g (qs1 100000000)⟩
noncomputable def Yd(F:Fa):PE:=⟨47,gJ PI.g (qw F)⟩
section
variable {V : VL} {F : Fa}
theorem kQ:@PE.ok (Ab V) AbN:=Gi (@R9 (Ab V)) (Zz (λ_ _=>by simp [go_sem]) λa b i j va vb w ha hb sa sb hi hj=>by simp only [qD]; exact ⟨AbM ha hb sa sb hi hj,sa.sub sb⟩)
theorem qB:@PE.ok (Ab V) Abv:=Gi (@Se (Ab V)) (Zz (λ_ _=>by simp [go_sem]) λa b i j va vb w ha hb sa sb hi hj=>by simp only [qD]; exact ⟨nJ ha hb sa sb hi hj,sa.mul sb⟩)
theorem gO:@PE.ok (Ab V) AbD:=Gi (@TU (Ab V)) (AbP (λ_ _=>by simp [go_sem]) λa i va w ha sa hi=>by simp only [qD]; exact ⟨Abo ha sa hi,sa.neg⟩)
theorem fF:@PE.ok (Ab V) lN:=Gi (@Ol (Ab V)) (jX (λ_ _=>by simp [go_sem]) λa i va w ha sa hi=>Qy ha sa hi)
theorem rZ:@PE.ok (Ab V) AbO:=Gi (@R5 (Ab V)) (Zz (λ_ _=>by simp [go_sem]) λa b i j va vb w ha hb sa sb hi hj=>by simp only [qD]; exact ⟨Acx ha hb sa sb (by omega) (by omega),sa.add sb⟩)
theorem mF:@PE.ok (Ab V) Ab1:=Gi (@So (Ab V)) (Zz (λ_ _=>by simp [go_sem]) λa b i j va vb w ha hb sa sb hi hj=>by simp only [qD]; exact ⟨Aa3 ha hb sa sb (by omega) (by omega),sa.mul sb⟩)
theorem sL:@PE.ok (Ab V) Acu:=Gi (@S7 (Ab V)) (AbP (λ_ _=>by simp [go_sem]) λa i va w ha sa hi=>by simp only [qD]; exact ⟨AaW ha sa (by omega),sa.neg⟩)
theorem aA:@PE.ok (Ab V) sM:=Gi (@O1 (Ab V)) (jX (λ_ _=>by simp [go_sem]) λa i va w ha sa hi=>mE ha sa (by omega))
theorem WY(hF:Bi V F):@PE.ok (Ab V) (Yd F):=Gi (@Ms (Ab V)) (by
 intro xs r e;change qw F xs=some r at e;refine ⟨λ_ _=>by simp [go_sem],λρ M w vs _ hv=>?_⟩;unfold qw at e;split at e
 ·rename_i x
  split at e
  ·rename_i i hi
   split at e
   ·rename_i hc
    cases e
    obtain ⟨va,_,rfl,h1,h3⟩:=hv;have h3:_=[]:=h3;subst h3;have hva:=BM hF hi h1;subst hva;unfold tQ at hc;rw [Bool.and_eq_true] at hc;have c1:=of_decide_eq_true hc.1;have c2:=of_decide_eq_true hc.2;have b:=hF.sm i.1;have hz:iD V i=V.z i.1+i.2:=rfl;have hq:qD V (.ap 37 (.i i.1 i.2) (.lit 0))=((iD V i:Int):Rat):=by simp only [qD]; rfl
    refine Calls.mono (X8 (iD V i) (by omega) (by omega) rfl) λe w' ⟨v,e1,e2,e3⟩=>⟨v,e1,@Bz.rv (Ab V) ρ M w' _ _ (Fk (by rw [hq]; exact e2) ?_),e3⟩
    rw [hq];exact AR.whole (i:=1) (by unfold Sm; omega)
   ·cases e
  ·cases e
 ·cases e)
end
noncomputable def TM(F:Fa):List PE:=[Abv,AbN,lN,sM,AbO,Ab1,Yd F,AbD,Acu] ++ Y4
theorem El{V:VL}{F:Fa}(hF:Bi V F){l:List PE}(hl:∀ e∈l,@PE.ok (Ab V) e):@Ke (Ab V) (Gr (l ++ TM F)):=@Ox (Ab V) _ λe he=>by
 rcases List.mem_append.1 he with he | he
 ·exact hl e he
 ·rcases List.mem_append.1 he with he | he
  ·simp only [List.mem_cons,List.not_mem_nil,or_false] at he
   rcases he with rfl | rfl | rfl | rfl | rfl | rfl | rfl | rfl | rfl
   ·exact qB
   ·exact kQ
   ·exact fF
   ·exact aA
   ·exact rZ
   ·exact mF
   ·exact WY hF
   ·exact gO
   ·exact sL
  ·exact @OU (Ab V) e he
inductive WI where
 | sq (c:Code)
 | bk (i:Nat)
 | sc
inductive Ex where
 | nor
 | ret
 | ext (m:Nat)
def Ex.e:Ex→Exit
 | .nor=>.normal
 | .ret=>.ret
 | .ext m=>.exit m
inductive gA where
 | loop (b:Code) (k:List WI) (s:Fm)
 | done (e:Ex) (s:Fm)
def Z8:List WI→(Exit→Act→World→Prop)→Exit→Act→World→Prop
 | [],Q=>Q
 | .sq c :: k,Q=>Exit.then (c.wp Tryz.prog (Z8 k Q)) (Z8 k Q)
 | .bk i :: k,Q=>Exit.inBlock i (Z8 k Q)
 | .sc :: k,Q=>Exit.noGoto (Z8 k Q)
inductive Cf where
 | run (c:Code)
 | at_ (e:Ex)
noncomputable def DR(T:Tb)(pl:List Nat)(m:Nat):Nat→Cf→List WI→Fm→Option gA
 | 0,_,_,_=>none
 | n+1,cf,k,s=>match cf with
  | .run c=>(match c with
   | .skip=>DR T pl m n (.at_ .nor) k s
   | .label _=>DR T pl m n (.at_ .nor) k s
   | .region _ ops dr=>(match Jx T (Qo (orC T.call (BR pl (Dd T pl m))) N6) dr ops s with
    | some s'=>DR T pl m n (.at_ .nor) k s'
    | none=>none)
   | .seq x y=>DR T pl m n (.run x) (.sq y :: k) s
   | .cond (.tmp t) x y=>(match s.tm[t]? with
    | some (.val (.bool true))=>DR T pl m n (.run x) k s
    | some (.val (.bool false))=>DR T pl m n (.run y) k s
    | _=>none)
   | .block i x=>DR T pl m n (.run x) (.bk i :: k) s
   | .scope x=>DR T pl m n (.run x) (.sc :: k) s
   | .loop b=>some (.loop b k s)
   | .exit i=>DR T pl m n (.at_ (.ext i)) k s
   | .ret=>DR T pl m n (.at_ .ret) k s
   | _=>none)
  | .at_ e=>match k with
   | []=>some (.done e s)
   | .sq c :: k=>(match e with
    | .nor=>DR T pl m n (.run c) k s
    | e=>DR T pl m n (.at_ e) k s)
   | .bk i :: k=>(match e with
    | .ext j=>if Nat.beq j i then DR T pl m n (.at_ .nor) k s else DR T pl m n (.at_ (.ext j)) k s
    | e=>DR T pl m n (.at_ e) k s)
   | .sc :: k=>DR T pl m n (.at_ e) k s
section
variable {E : Cd} {T : Tb} {pl : List Nat} {W0 : World} {M0 : Nat → Prop} {Q : Exit → Act → World → Prop}
def holds(Q:Exit→Act→World→Prop)(k:List WI)(a:Act)(w:World):Cf→Prop
 | .run c=>c.wp Tryz.prog (Z8 k Q) a w
 | .at_ e=>Z8 k Q e.e a w
def AjT(E:Cd)(W0:World)(M0:Nat→Prop)(Q:Exit→Act→World→Prop):gA→Prop
 | .loop b k s=>∀ ρ M a w,@bA E W0 M0 s ρ M a w→(Code.loop b).wp Tryz.prog (Z8 k Q) a w
 | .done e s=>∀ ρ M a w,@bA E W0 M0 s ρ M a w→Q e.e a w
def Zc(E:Cd)(A:Nat→Prop)(W0:World)(ρ0:Bg)(M0:Nat→Prop)(H0:HP)(n0:Nat)(Q:Exit→Act→World→Prop):gA→Prop
 | .loop b k s=>∀ ρ M a w,@FS E A W0 ρ0 M0 H0 n0 s ρ M a w→(Code.loop b).wp Tryz.prog (Z8 k Q) a w
 | .done e s=>∀ ρ M a w,@FS E A W0 ρ0 M0 H0 n0 s ρ M a w→Q e.e a w
theorem Sv{A:Nat→Prop}{ρ0:Bg}{H0:HP}{n0:Nat}(hA:∀ b,W0.heap.size≤b→A b)(hT:@EO E T)(hpl:∀ f∈pl,Bf f){m:Nat}:∀(n:Nat)(cf:Cf)(k:List WI)(s:Fm)(o:gA),DR T pl m n cf k s=some o→Zc E A W0 ρ0 M0 H0 n0 Q o→∀ ρ M a w,@FS E A W0 ρ0 M0 H0 n0 s ρ M a w→holds Q k a w cf
 | 0,_,_,_,_,h,_,_,_,_,_,_=>by unfold DR at h; cases h
 | n+1,cf,k,s,o,h,hQ,ρ,M,a,w,hF=>by
  have ih:=Sv (m:=m) (ρ0:=ρ0) (H0:=H0) (n0:=n0) hA hT hpl n;unfold DR at h
  cases cf with
  | run c =>
   simp only [] at h;show c.wp Tryz.prog (Z8 k Q) a w
   cases c with
   | skip=>exact wp_skip (ih _ _ _ _ h hQ ρ M a w hF)
   | label l=>exact wp_label (ih _ _ _ _ h hQ ρ M a w hF)
   | region i ops dr =>
    simp only [] at h;split at h
    ·rename_i s' hs'
     exact @Pq E T _ A W0 ρ0 M0 H0 n0 s s' ρ M a w ops dr (Z8 k Q) hT (@U9 E _ _ (@EO.call E T hT) (@DK E T pl hpl m (@EN E T pl hT hpl m).1)) i hs' hA hF λρ' M' a' w' hF'=>ih (.at_ .nor) _ _ _ h hQ ρ' M' a' w' hF'
    ·cases h
   | seq x y=>exact wp_seq (ih (.run x) (.sq y :: k) _ _ h hQ ρ M a w hF)
   | cond t x y =>
    cases t with
    | tmp t =>
     simp only [] at h;obtain ⟨Fsize,Fdef,Fslots,_⟩:=id hF;split at h
     ·rename_i ht
      obtain ⟨v,e1,e2⟩:=Fslots t _ ht;have e2:v = .bool true:=e2;exact wp_cond_true (by rw [BZ e1,e2]) (ih (.run x) _ _ _ h hQ ρ M a w hF)
     ·rename_i ht
      obtain ⟨v,e1,e2⟩:=Fslots t _ ht;have e2:v = .bool false:=e2;exact wp_cond_false (by rw [BZ e1,e2]) (ih (.run y) _ _ _ h hQ ρ M a w hF)
     ·cases h
    | _=>cases h
   | block i x=>exact wp_block (ih (.run x) (.bk i :: k) _ _ h hQ ρ M a w hF)
   | scope x=>exact wp_scope_straight (ih (.run x) (.sc :: k) _ _ h hQ ρ M a w hF)
   | loop b=>cases h; exact hQ ρ M a w hF
   | exit i=>exact wp_exit (ih (.at_ (.ext i)) _ _ _ h hQ ρ M a w hF)
   | ret=>exact wp_ret (ih (.at_ .ret) _ _ _ h hQ ρ M a w hF)
   | _=>cases h
  | at_ e =>
   simp only [] at h;show Z8 k Q e.e a w
   cases k with
   | nil=>cases h; exact hQ ρ M a w hF
   | cons f k =>
    cases f with
    | sq c =>
     cases e with
     | nor=>exact ih (.run c) k s o h hQ ρ M a w hF
     | ret=>exact ih (.at_ .ret) k s o h hQ ρ M a w hF
     | ext m=>exact ih (.at_ (.ext m)) k s o h hQ ρ M a w hF
    | sc =>
     have:=ih (.at_ e) k s o h hQ ρ M a w hF
     cases e <;> exact this
    | bk i =>
     cases e with
     | nor=>exact ih (.at_ .nor) k s o h hQ ρ M a w hF
     | ret=>exact ih (.at_ .ret) k s o h hQ ρ M a w hF
     | ext m =>
      simp only [] at h;show (if m=i then Z8 k Q .normal a w else Z8 k Q (.exit m) a w);split at h
      ·rename_i hm
       rw [if_pos (Nat.eq_of_beq_eq_true hm)];exact ih (.at_ .nor) k s o h hQ ρ M a w hF
      ·rename_i hm
       rw [if_neg λe=>hm (by rw [e]; exact Nat.beq_refl i)];exact ih (.at_ (.ext m)) k s o h hQ ρ M a w hF
end
def OR:Code→List WI→Option (Code × List WI)
 | .loop b,k=>some (b,k)
 | .seq x y,k=>match OR x (.sq y :: k) with
  | some r=>some r
  | none=>OR y k
 | .block i x,k=>OR x (.bk i :: k)
 | .scope x,k=>OR x (.sc :: k)
 | _,_=>none
def lpB(c:Code)(k:List WI):Code:=match OR c k with | some r=>r.1 | none=>.skip
def lpK(c:Code)(k:List WI):List WI:=match OR c k with | some r=>r.2 | none=>[]
def Mm:Option gA→Fm
 | some (.loop _ _ s)=>s
 | some (.done _ s)=>s
 | none=>⟨[],[],0,[]⟩
def lkN:List (Nat × AV)→Nat→AV
 | [],_=>.any
 | x :: l,i=>if Nat.beq x.1 i then x.2 else lkN l i
def tC(l:List (Nat × AV)):Nat→Nat→List AV
 | 0,_=>[]
 | n+1,i=>lkN l i :: tC l n (i+1)
def gD(n:Nat)(l:List (Nat × AV))(H:HP)(nx:Nat):Fm:=⟨tC l n 0,H,nx,[]⟩
def Aeo(n:Nat)(xs:List AV):Fm:=⟨xs ++ List.replicate (n - xs.length) (.val undef),[],16,[]⟩
section
variable {V V' : VL} {ρ ρ' : Bg} {M : Nat → Prop} {w : World} {cs : List Value}
def Le(V V':VL)(p:AV × AV):Prop:=∀(ρ ρ':Bg)(M:Nat→Prop)(w:World)(cs:List Value),@Rp (Ab V) ρ M w p.1 cs → @Rp (Ab V') ρ' M w p.2 cs
theorem SP{k k':Nat}{c c':Int}(h:iD V (k,c)=iD V' (k',c')):Le V V' (aI k c,aI k' c'):=λρ ρ' M w cs r=>by
 unfold Rp at r ⊢;refine ⟨r.1,?_⟩;have h2:=r.2;show (XP.int (zD V' (.i k' c'))).p M w cs;rw [NQ,← h];exact h2
theorem AgR{k':Nat}{c c':Int}(h:c=iD V' (k',c')):Le V V' (.val (.int .i64 c),aI k' c'):=λρ ρ' M w cs r=>by
 unfold Rp at r ⊢;obtain ⟨rfl,_⟩:=r;refine ⟨rfl,?_⟩;show (XP.int (zD V' (.i k' c'))).p M w _;rw [NQ,← h];rfl
theorem Km{e e':CE}(h:lD V e=lD V' e'):Le V V' (aL e,aL e'):=λρ ρ' M w cs r=>by
 unfold Rp at r ⊢;refine ⟨r.1,?_⟩;have h2:=r.2;show (XP.rats (lD V' e')).p M w cs;rw [← h];exact h2
theorem Ad0{q q':CE}{n:Nat}(h:qD V q=qD V' q'):Le V V' (aQ q n,aQ q' n):=λρ ρ' M w cs r=>by
 unfold Rp at r ⊢;refine ⟨r.1,?_⟩;have h2:=r.2;show (XP.num (qD V' q') _).p M w cs;rw [← h];exact h2
theorem Xx{d:Rd}(h1:∀ p∈d.vs,Le V V' p)(h2:d.ns=[])(h3:d.bs=[])(h4:d.rest=[]):K5 (Ab V) (Ab V') d:=
 ⟨h1,λp hp=>(by rw [h2] at hp; cases hp),λp hp=>(by rw [h3] at hp; cases hp),λp hp=>(by rw [h4] at hp; cases hp)⟩
end
noncomputable def Wn(F:Fa)(l:List PE):Tb:=⟨Gr (l ++ TM F),RL F,N6⟩
theorem QE{V:VL}{F:Fa}(hF:Bi V F){l:List PE}(hl:∀ e∈l,@PE.ok (Ab V) e):@EO (Ab V) (Wn F l):=@EO.mk (Ab V) _ (El hF hl) (Fh hF) (@DM (Ab V))
section
variable {l : List Rat} {n : Nat}
end
section
variable {W : VL} {f : Nat → Rat} {n : Nat}
end
section
open Go.RowKit
end
theorem ZO{E:Cd}{f:Nat}{fn:Func}{c:Code}{xs xs':List AV}{R:Value→World→Prop}{ρ:Bg}{M:Nat→Prop}{w:World}{vs:List Value}(hf:Tryz.prog.funcs[f]? = some fn)(hb:fn.body=some c)(hx:FC (λ_=>none) xs=some xs')(hlen:xs'.length≤fn.ntmps)(hbnd:∀ b,M b→b<w.heap.size)(hv:@CH E ρ M w xs vs)
  (h:∀ a,@bA E w M ⟨xs' ++ List.replicate (fn.ntmps - xs'.length) (.val undef),[],16,[]⟩ BQ M a w→c.wp Tryz.prog (λe a w'=>(e = .normal ∨ e = .ret)∧∃(E':Cd)(s:Fm)(ρ':Bg)(M':Nat→Prop)(l:List AV)(r:AV),@bA E' w M s ρ' M' a w'∧MY s fn.results.toList=some l∧nF l=some r∧∀ a2 w2,@bA E' w M s ρ' M' a2 w2→∀ v,@RV E' ρ' M' w2 r v→R v w2) a w) :
  Calls Tryz.prog f vs.toArray w λe w'=>∃ v,e = .returned v∧R v w'∧Below w.heap.size w w':=by
 have hv:@CH E BQ M w xs' vs:=@LW E (λ_=>none) ρ BQ M M w (λ_ _ _ e=>by cases e) (λ_ h=>h) xs xs' vs hx hv;refine callsIn_wide.1 (callsIn_of_wp_marks (F:=Eo none) (n:=9) hf hb trivial ((@FZ E _ _ _ _).2 (Code.wp_mono ?_ (h { tmps:=vs.toArray ++ Array.replicate (fn.ntmps - vs.toArray.size) undef,defers:=[] } ?_))))
 ·intro e a' w' ⟨he,E',s,ρ',M',l,r,hF,hl,hr0,hR⟩
  letI:=E'
  have hfin:LeavesInM (Eo none) 9 Tryz.prog fn a'.tmps (λe w'=>∃ v,e = .returned v∧R v w'∧Below w.heap.size w w') a'.defers .returning w':=by
   refine DN (A:=λb=>w.heap.size≤b) (W0:=w) (ρ0:=BQ) (M0:=M) (H0:=[]) (n0:=16) (s:=s) (ρ:=ρ') (M:=M') (λ_ h=>h) (λ_ _ _ _ e=>by cases e) a'.defers a' w' hF rfl rfl λa2 w2 hF2 ht2=>?_
   obtain ⟨v,e1,e2⟩:=@Eb E' _ w BQ M [] 16 s ρ' M' a2 w2 hF2 (λ_ h=>h) fn l r hl hr0;rw [ht2] at e1;have hRv:=hR a2 w2 hF2 v e2;obtain ⟨_,_,_,_,_,_,_,Ffr,_⟩:=hF2;exact ⟨v,e1,v,rfl,hRv,⟨Ffr.os,Ffr.tape,Ffr.output,Ffr.size,λb hb=>Ffr.keep b hb (by omega)⟩⟩
  rcases he with rfl | rfl
  ·exact hfin
  ·exact hfin
 ·have hvl:vs.length=xs'.length:=@CH.len E _ _ _ _ _ hv
  refine ⟨by simp [hvl],trivial,λt x hx=>?_,⟨λo b e=>(by cases e),λo o' b b' g c c' e=>(by cases e)⟩,λo p e=>(by cases e),Nat.le_refl _,hbnd,NN.refl _ _,Tr.refl _ _ _,λ_ h=>h,λ_ h=>.inl h,λo p e=>.inl e,λo _ _=>⟨rfl,λ_ _ _ e=>(by cases e)⟩⟩;have hx:(xs' ++ List.replicate (fn.ntmps - xs'.length) (.val undef))[t]? = some x:=hx;show ∃ v,(vs.toArray ++ Array.replicate (fn.ntmps - vs.toArray.size) undef)[t]? = some v∧_;rw [List.getElem?_append] at hx;split at hx
  ·rename_i hlt
   obtain ⟨v,e,k⟩:=@CH.get E _ _ _ _ _ _ _ hv hx;exact ⟨v,by rw [Array.getElem?_append_left (by simp [hvl,hlt])]; simpa using e,@Bz.rv E _ _ _ _ _ k⟩
  ·rename_i hge
   rw [List.getElem?_replicate] at hx;split at hx
   ·cases hx
    refine ⟨undef,?_,rfl⟩;rw [Array.getElem?_append_right (by simp [hvl]; omega),Array.getElem?_replicate,if_pos];simp [hvl];omega
   ·cases hx
noncomputable def T8(F:Fa)(l:List PE)(C:BD):Tb:=⟨Gr (l ++ TM F),RL F,C⟩
section
open Go.RowKit
end
def Pr:Nat→List AV→Option (List (CE × Nat))
 | 0,_=>some []
 | k+1,.ext 4 true (.ap 52 q (.lit n)) :: l=>(Pr k l).map ((q,n.toNat) :: ·)
 | k+1,.rat q :: l=>(Pr k l).map ((.ap 36 (.lit q.num) (.lit (q.den:Int)),0) :: ·)
 | _+1,_=>none
theorem L8:∀{k:Nat}{l:List AV}{qs:List (CE × Nat)},Pr k l=some qs→qs.length=k
 | 0,_,_,h=>by unfold Pr at h; cases h; rfl
 | k+1,l,qs,h=>by
  unfold Pr at h;split at h
  ·rename_i h1; omega
  ·obtain ⟨qs',h1,rfl⟩:=Option.map_eq_some_iff.1 h
   rw [List.length_cons,L8 h1];omega
  ·obtain ⟨qs',h1,rfl⟩:=Option.map_eq_some_iff.1 h
   rw [List.length_cons,L8 h1];omega
  ·cases h
theorem I3{V:VL}{ρ:Bg}{M:Nat→Prop}{w:World}:∀{k:Nat}{l:List AV}{qs:List (CE × Nat)}{cs:List Value},Pr k l=some qs → @AQ (Ab V) ρ M w l cs→∃ xs ys,cs=xs ++ ys∧AI w (qs.map λp=>qD V p.1) xs
 | 0,_,_,cs,h,_=>by
  unfold Pr at h
  cases h
  exact ⟨[],cs,rfl,rfl⟩
 | k+1,l,qs,cs,h,r=>by
  unfold Pr at h;split at h
  ·rename_i h1; omega
  ·rename_i k' q n l' he
   have hk:k'=k:=by omega
   subst hk;obtain ⟨qs',h1,rfl⟩:=Option.map_eq_some_iff.1 h;unfold AQ at r;obtain ⟨x,y,rfl,r1,r2⟩:=r;unfold Rp at r1;obtain ⟨_,s,a,b,c,d,rfl,i1,i2⟩:=r1;obtain ⟨xs,ys,rfl,h2⟩:=I3 h1 r2;exact ⟨a :: b :: c :: d :: xs,ys,rfl,a,b,c,d,xs,rfl,i1,i2,h2⟩
  ·rename_i k' q l' he
   have hk:k'=k:=by omega
   subst hk;obtain ⟨qs',h1,rfl⟩:=Option.map_eq_some_iff.1 h;unfold AQ at r;obtain ⟨x,y,rfl,r1,r2⟩:=r;unfold Rp at r1;obtain ⟨a,b,c,d,rfl,i1,i2⟩:=r1;obtain ⟨xs,ys,rfl,h2⟩:=I3 h1 r2;have e:qD V (.ap 36 (.lit q.num) (.lit (q.den:Int)))=q:=by
    show mkRat q.num ((q.den:Int)).toNat=q;rw [Int.toNat_natCast];exact Rat.mkRat_self q
   refine ⟨a :: b :: c :: d :: xs,ys,rfl,a,b,c,d,xs,rfl,?_,?_,h2⟩
   ·show Al w _ (qD V (.ap 36 (.lit q.num) (.lit (q.den:Int)))).num
    rw [e];exact i1
   ·show Al w _ ((qD V (.ap 36 (.lit q.num) (.lit (q.den:Int)))).den:Int)
    rw [e];exact i2
  ·cases h
def zA:AV→Option (CE × Nat)
 | .ext 2 true (.ap 59 q (.lit n))=>some (q,n.toNat)
 | .ext 2 true (.ap 58 q (.lit n))=>some (.ap 47 q (.lit 0),n.toNat)
 | .ext 2 true (.ap 54 q (.lit n))=>some (.ap 48 q (.lit 0),n.toNat)
 | .num z=>if decide (mkRat z 1=(z:Rat)) && Nat.blt z.natAbs 4294967296 then some (.ap 36 (.lit z) (.lit 1),1) else none
 | _=>none
section
variable {V : VL} {F : Fa} {ρ : Bg} {M : Nat → Prop} {w : World} {f k lim : Nat}
end
def NU:Nat→List AV→Option (List CE)
 | 0,_=>some []
 | k+1,a :: l=>match zA a,NU k l with
  | some p,some r=>some (p.1 :: r)
  | _,_=>none
 | _+1,[]=>none
theorem Tq:∀{k:Nat}{l:List AV}{qs:List CE},NU k l=some qs→qs.length=k
 | 0,_,_,h=>by unfold NU at h; cases h; rfl
 | k+1,[],qs,h=>by unfold NU at h; cases h
 | k+1,a :: l,qs,h=>by
  unfold NU at h;split at h
  ·rename_i p r hp hr
   cases h
   rw [List.length_cons,Tq hr]
  ·cases h
theorem iC{V:VL}{ρ:Bg}{M:Nat→Prop}{w:World}{a:AV}{p:CE × Nat}{cs:List Value}(h:zA a=some p)(r:@Rp (Ab V) ρ M w a cs):∃(z:Int)(x y:Value),cs=[x,y]∧(z:Rat)=qD V p.1∧Al w (.agg #[x,y]) z:=by
 have h2:a.one=false ∨ True:=.inr True.intro;unfold zA at h;split at h
 ·cases h
  unfold Rp at r;obtain ⟨_,z,hz,s,a,b,e,hi⟩:=r;exact ⟨z,a,b,e,hz,hi⟩
 ·rename_i q n
  cases h
  unfold Rp at r;obtain ⟨_,s,a,b,e,hi⟩:=r;exact ⟨(qD V q).num,a,b,e,by simp only [qD],hi⟩
 ·rename_i q n
  cases h
  unfold Rp at r;obtain ⟨_,s,a,b,e,hi⟩:=r;exact ⟨((qD V q).den:Int),a,b,e,by simp only [qD],hi⟩
 ·rename_i z
  split at h
  ·rename_i hc
   rw [Bool.and_eq_true] at hc
   cases h
   have h1:=of_decide_eq_true hc.1;unfold Rp at r;obtain ⟨x,y,e,s,e2,hs⟩:=r;exact ⟨z,x,y,e,by simp only [qD]; exact h1.symm,s,e2,hs⟩
  ·cases h
 ·cases h
theorem NH{V:VL}{ρ:Bg}{M:Nat→Prop}{w:World}:∀{k:Nat}{l:List AV}{qs:List CE}{cs:List Value},NU k l=some qs → @AQ (Ab V) ρ M w l cs→∃ xs ys,cs=xs ++ ys∧xs.length=2*k∧Eh w (qs.map (qD V)) xs
 | 0,_,_,cs,h,_=>by
  unfold NU at h
  cases h
  exact ⟨[],cs,rfl,rfl,rfl⟩
 | k+1,[],_,_,h,_=>by unfold NU at h; cases h
 | k+1,a :: l,qs,cs,h,r=>by
  unfold NU at h;split at h
  ·rename_i p rr hp hr
   cases h
   unfold AQ at r;obtain ⟨x,y,rfl,r1,r2⟩:=r;obtain ⟨z,u,v,rfl,hz,hi⟩:=iC hp r1;obtain ⟨xs,ys,rfl,hl,hc⟩:=NH hr r2;exact ⟨u :: v :: xs,ys,rfl,by simp [hl]; omega,z,u,v,xs,rfl,hz,hi,hc⟩
  ·cases h
inductive Kd where
 | leaf | L | Z | X | M
def ZV:Nat→List AV→Option CE
 | 0,_=>some (.lit 0)
 | k+1,a :: l=>match FK a,ZV k l with
  | some x,some r=>some (.ap 82 (.i x.1 x.2) r)
  | _,_=>none
 | _+1,[]=>none
def aY:Nat→List AV→Option CE
 | 0,_=>some (.lit 0)
 | k+1,.ext 1 false (.ap 51 e _) :: l=>(aY k l).map (.ap 81 e ·)
 | _+1,_=>none
def FY:List CE→CE
 | []=>.lit 0
 | q :: l=>.ap 80 q (FY l)
def kdR(n:Nat)(cs:List AV):Kd→Option AV
 | .leaf=>none
 | .L=>(Pr n cs).map λqs=>aL (FY (qs.map (·.1)))
 | .Z=>(NU n cs).map λqs=>aLZ (FY qs)
 | .X=>(ZV n cs).map aX
 | .M=>(aY n cs).map aM
def gI(U:HP):Kd→AV→Option AV
 | .leaf,.ext n g c=>some (.ext n g c)
 | .leaf,.val (.int k z)=>some (.val (.int k z))
 | .leaf,.val (.bool b)=>some (.val (.bool b))
 | .leaf,.rat q=>some (.rat q)
 | .leaf,_=>none
 | k,.sl o 0 n _=>(match lk U o with
  | some b=>if b.bl.isNone then kdR n b.cs k else none
  | none=>none)
 | _,_=>none
section
variable {V : VL} {F : Fa} {ρ : Bg} {M M' : Nat → Prop} {w : World}
theorem Gs:∀ l:List CE,lD V (FY l)=l.map (qD V)
 | []=>by unfold FY; simp only [lD]; rfl
 | q :: l=>by
  have e:lD V (.ap 80 q (FY l))=qD V q :: lD V (FY l):=by simp only [lD]
  show lD V (.ap 80 q (FY l))=_;rw [e,Gs l];rfl
theorem Mv(hF:Bi V F):∀{k:Nat}{l:List AV}{m:CE}{cs:List Value},ZV k l=some m → @AQ (Ab V) ρ M w l cs→∃ xs ys,cs=xs ++ ys∧xs=(iL V m).map (λz=>Value.int .i64 z)∧(iL V m).length=k
 | 0,_,_,cs,h,_=>by
  unfold ZV at h
  cases h
  exact ⟨[],cs,rfl,rfl,rfl⟩
 | k+1,[],_,_,h,_=>by unfold ZV at h; cases h
 | k+1,a :: l,m,cs,h,r=>by
  unfold ZV at h;split at h
  ·rename_i x rr hx hr
   cases h
   unfold AQ at r;obtain ⟨u,y,rfl,r1,r2⟩:=r;obtain ⟨xs,ys,rfl,q1,q2⟩:=Mv hF hr r2;have hu:u=[.int .i64 (iD V x)]:=by
    unfold FK at hx;split at hx
    ·cases hx
     unfold Rp at r1;obtain ⟨rfl,_⟩:=r1;unfold iD;simp [hF.z0]
    ·cases hx
     unfold Rp at r1;exact r1.2
    ·cases hx
   subst hu;exact ⟨.int .i64 (iD V x) :: xs,ys,rfl,by rw [q1]; rfl,by unfold iL; simp [q2]⟩
  ·cases h
theorem Nz(hs:∀ b,b<w.heap.size→M b→M' b):∀{k:Nat}{l:List AV}{m:CE}{cs:List Value},aY k l=some m → @AQ (Ab V) ρ M' w l cs→∃ xs ys,cs=xs ++ ys∧Eg M w (mD V m) xs∧(mD V m).length=k
 | 0,_,_,cs,h,_=>by
  unfold aY at h
  cases h
  exact ⟨[],cs,rfl,rfl,rfl⟩
 | k+1,[],_,_,h,_=>by unfold aY at h; cases h
 | k+1,a :: l,m,cs,h,r=>by
  unfold aY at h;split at h
  ·rename_i h0; cases h0
  ·rename_i k' e d l' h1 h2
   cases h1
   cases h2
   obtain ⟨m',hm,rfl⟩:=Option.map_eq_some_iff.1 h;unfold AQ at r;obtain ⟨u,y,rfl,r1,r2⟩:=r;obtain ⟨xs,ys,rfl,q1,q2⟩:=Nz hs hm r2;unfold Rp at r1;have h3:(XP.rats (lD V e)).p M' w u:=r1.2;obtain ⟨A,c,rfl,_⟩:=id h3;exact ⟨.slice A (lD V e).length c :: xs,ys,rfl,⟨_,xs,rfl,(XP.rats (lD V e)).st M' M w w _ (Bt.refl w) (λ_ _ _=>.inl rfl) hs h3,q1⟩,by unfold mD; simp [q2]⟩
  ·cases h
end
section
variable {V : VL} {F : Fa} {ρ : Bg} {M M' : Nat → Prop} {w w0 : World}
theorem gW{n:Nat}{g:Bool}{c:CE}{v:Value}(hs:∀ b,b<w.heap.size→M b→M' b)(hv:@Bz (Ab V) ρ M' w (.ext n g c) v):@Bz (Ab V) BQ M w (.ext n g c) v:=by
 have key:∀ cs,@Rp (Ab V) ρ M' w (.ext n g c) cs → @Rp (Ab V) BQ M w (.ext n g c) cs:=λcs h=>by
  unfold Rp at h ⊢;exact ⟨h.1,((Ab V).X c).st M' M w w cs (Bt.refl w) (λ_ _ _=>.inl rfl) hs h.2⟩
 cases g with
 | true =>
  obtain ⟨cs,rfl,h⟩:=hv;exact ⟨cs,rfl,key _ h⟩
 | false=>exact key _ hv
theorem Dp(hF:Bi V F)(hm0:∀ b,M b→b<w0.heap.size)(hsup:∀ b,M b→M' b){U:HP}(hR:@RH (Ab V) ρ M' (Di BQ w0 (lk [])) w (CR (lk []) U)){k:Kd}{a r:AV}{v:Value}(h:gI U k a=some r)(hv:@Bz (Ab V) ρ M' w a v):@Bz (Ab V) BQ M w r v:=by
 letI:=Ab V
 unfold gI at h;split at h
 ·cases h
  exact gW (λb _ hb=>hsup b hb) hv
 ·cases h
  exact hv
 ·cases h
  exact hv
 ·cases h
  obtain ⟨cs,rfl,hr⟩:=hv;refine ⟨cs,rfl,?_⟩;unfold Rp at hr ⊢;exact hr
 ·cases h
 ·rename_i o n cap _
  split at h
  ·rename_i b hb
   split at h
   ·rename_i hbl
    have hbl:=Option.isNone_iff_eq_none.1 hbl;have hv:Rp ρ M' w (.sl o 0 n cap) [v]:=hv;unfold Rp at hv;obtain ⟨g,c,kk,q1,q2,q3,_⟩:=hv;have hU:CR (lk []) U o=some b:=by rw [← CZ,List.append_nil]; exact hb
    obtain ⟨g2,c2,arr,cs,ok⟩:=hR.obj o b hU;have q4:=ok.at_;rw [q1] at q4;simp only [Option.some.injEq,Prod.mk.injEq] at q4;obtain ⟨rfl,rfl⟩:=q4;have hge:w0.heap.size≤g:=by
     rcases ok.own with h1 | ⟨_,_,_,h1,_⟩
     ·exact h1
     ·cases h1
    have nM:¬ M g:=λhm=>by
     have:=hm0 g hm;omega
    have hcells:=ok.cells.rps hbl;obtain ⟨tl,he,_⟩:=ok.pre;have hra:=EE ok.blk he;have hsz:=AJ ok.blk;have hq2:v = .slice (some ⟨g,0,none⟩) n kk:=(List.cons.inj q2).1;have sub:∀{ys zs:List Value},cs=ys ++ zs→w.rangeAt g 0 ys:=fun {ys zs} e j x hj=>hra j x (by
     rw [e];have hlt:j<ys.length:=(List.getElem?_eq_some_iff.1 hj).1;rw [List.getElem?_append_left hlt];exact hj)
    unfold kdR at h;split at h
    ·cases h
    ·obtain ⟨qs,hq,rfl⟩:=Option.map_eq_some_iff.1 h
     obtain ⟨ys,zs,e,k1⟩:=I3 hq hcells;have hl:lD V (FY (qs.map (·.1)))=qs.map λp=>qD V p.1:=by rw [Gs,List.map_map]; rfl
     have hn:(lD V (FY (qs.map (·.1)))).length=n:=by rw [hl,List.length_map,L8 hq]
     refine EP (V:=V) (ρ:=BQ) ⟨some ⟨g,0,none⟩,kk,by rw [hn,hq2],by rw [hn]; exact q3,λ_=>⟨g,0,ys,rfl,nM,hsz,sub e,?_⟩⟩;rw [hl];exact k1
    ·obtain ⟨qs,hq,rfl⟩:=Option.map_eq_some_iff.1 h
     obtain ⟨ys,zs,e,_,k1⟩:=NH hq hcells;have hl:lD V (FY qs)=qs.map (qD V):=Gs qs;have hn:(lD V (FY qs)).length=n:=by rw [hl,List.length_map,Tq hq]
     show @Rp (Ab V) BQ M w _ [v];unfold Rp;refine ⟨rfl,some ⟨g,0,none⟩,kk,by rw [hn,hq2],by rw [hn]; exact q3,λ_=>⟨g,0,ys,rfl,nM,hsz,sub e,?_⟩⟩;rw [hl];exact k1
    ·obtain ⟨m,hm,rfl⟩:=Option.map_eq_some_iff.1 h
     obtain ⟨ys,zs,e,k1,k2⟩:=Mv hF hm hcells;show @Rp (Ab V) BQ M w _ [v];unfold Rp;refine ⟨rfl,some ⟨g,0,none⟩,kk,by rw [k2,hq2],by rw [k2]; exact q3,λ_=>⟨g,0,rfl,nM,hsz,?_⟩⟩;rw [← k1];exact sub e
    ·obtain ⟨m,hm,rfl⟩:=Option.map_eq_some_iff.1 h
     obtain ⟨ys,zs,e,k1,k2⟩:=Nz (M:=M) (λb _ hb=>hsup b hb) hm hcells;show @Rp (Ab V) BQ M w _ [v];unfold Rp;exact ⟨rfl,some ⟨g,0,none⟩,kk,by rw [k2,hq2],by rw [k2]; exact q3,λ_=>⟨g,0,ys,rfl,nM,hsz,sub e,k1⟩⟩
   ·cases h
  ·cases h
 ·cases h
def kds(U:HP):List Kd→List AV→Option (List AV)
 | [],[]=>some []
 | k :: ks,a :: l=>match gI U k a,kds U ks l with
  | some r,some rs=>some (r :: rs)
  | _,_=>none
 | _,_=>none
theorem J_(hF:Bi V F)(hm0:∀ b,M b→b<w0.heap.size)(hsup:∀ b,M b→M' b){U:HP}(hR:@RH (Ab V) ρ M' (Di BQ w0 (lk [])) w (CR (lk []) U)):∀{ks:List Kd}{l rs:List AV}{vs:List Value},kds U ks l=some rs → @CH (Ab V) ρ M' w l vs → @CH (Ab V) BQ M w rs vs
 | [],[],_,_,h,hv=>by unfold kds at h; cases h; exact hv
 | k :: ks,a :: l,rs,vs,h,hv=>by
  unfold kds at h;split at h
  ·rename_i r rs' h1 h2
   cases h
   obtain ⟨v,r',rfl,q1,q2⟩:=hv;exact ⟨v,r',rfl,Dp hF hm0 hsup hR h1 q1,J_ hF hm0 hsup hR h2 q2⟩
  ·cases h
 | [],_ :: _,_,_,h,_=>by unfold kds at h; cases h
 | _ :: _,[],_,_,h,_=>by unfold kds at h; cases h
def bL(ks:List Kd):Option (AV × HP)→Option AV
 | some (.tup l,U)=>(kds U ks l).map .tup
 | some (a,U)=>(match ks with
  | [k]=>gI U k a
  | _=>none)
 | none=>none
theorem J4{L:List PE}{f m:Nat}{xs:List AV}{ks:List Kd}{r:AV}(hF:Bi V F)(hL:∀ e∈L,@PE.ok (Ab V) e)(h:bL ks (BR AC (Dd (Wn F L) AC m) f xs [] 16 0)=some r){vs:List Value}(hm0:∀ b,M b→b<w.heap.size)(hv:@CH (Ab V) BQ M w xs vs) :
  Calls Tryz.prog f vs.toArray w λe w'=>∃ u,e = .returned u ∧ @RV (Ab V) BQ M w' r u∧Below w.heap.size w w':=by
 letI:=Ab V
 generalize hr:BR AC (Dd (Wn F L) AC m) f xs [] 16 0=o at h
 cases o with
 | none=>unfold bL at h; cases h
 | some p =>
  obtain ⟨a,U⟩:=p;obtain ⟨_,hcall⟩:=DK Bq (EN (QE hF hL) Bq m).1 f xs [] 16 0 _ _ hr;have hs:CK BQ M (Di BQ w (lk [])) w 0 (lk []):=⟨⟨λo b e=>(by cases e),λo o' b b' g c c' e=>(by cases e)⟩,hm0,λ_ _ _=>rfl,λb hb=>.inl hb⟩;refine Calls.mono (hcall BQ M w vs hs (λo p e=>(by cases e)) (by decide) hv) λe w' ⟨v,e1,ρ',M',ht,hv',hR,_,hsup,_,_,hfr,_⟩=>⟨v,e1,?_,⟨hfr.os,hfr.tape,hfr.output,hfr.size,λb hb=>hfr.keep b hb ?_⟩⟩
  ·unfold bL at h
   split at h
   ·rename_i l U' e2
    cases e2
    obtain ⟨rs,h1,rfl⟩:=Option.map_eq_some_iff.1 h;obtain ⟨ws,rfl,q⟩:=hv';exact ⟨ws,rfl,J_ hF hm0 hsup hR h1 q⟩
   ·rename_i a' U' hne e2
    cases e2
    split at h
    ·rename_i k
     have hv1:@Bz (Ab V) ρ' M' w' a v:=by
      cases a with
      | tup l=>exact (hne l rfl).elim
      | _=>exact hv'
     exact @Bz.rv (Ab V) BQ M w' r v (Dp hF hm0 hsup hR h hv1)
    ·cases h
   ·rename_i e2
    cases e2
  ·rintro (h1 | ⟨_,_,_,h1,_⟩)
   ·omega
   ·cases h1
end
def KW(L:List (Nat × Nat)):List Nat:=L.map (·.1)
def Of(L:List (Nat × Nat)):List Nat:=L.map (·.2)
def V9(n0:Nat)(L:List (Nat × Nat))(o:Nat):Option Nat:=if Nat.blt o n0 then some o else (Q7 o (KW L) 0).bind λi=>(Of L)[i]?
def Z1(L:List (Nat × Nat))(x:Nat):Option Nat:=(Q7 x (Of L) 0).bind λi=>(KW L)[i]?
def Ti(σ:Nat→Option Nat)(H:HP):List (Nat × Nat)→Option HP
 | []=>some []
 | p :: r=>match lk H p.1,Ti σ H r with
  | some b,some h=>(FC σ b.cs).map λl=>(p.2,some { b with cs:=l }) :: h
  | _,_=>none
def iZ(σ:Nat→Option Nat)(l:List AV):List AV:=l.map λa=>(Cp σ a).getD .any
def nW(n0:Nat)(L:List (Nat × Nat))(B:List Nat)(nx:Nat)(s:Fm):Option Fm:=
 if G8 (KW L) && G8 (Of L) && (L.all λp=>Nat.ble n0 p.1 && Nat.ble n0 p.2 && Nat.blt p.2 nx) && Nat.ble n0 nx && (below n0 s.H).all (λx=>memN x.1 s.wr) && B.all (λo=>Nat.blt o n0) && G8 B then
  (Ti (V9 n0 L) s.H (L ++ B.map λo=>(o,o))).map λh=>⟨iZ (V9 n0 L) s.tm,h,nx,s.wr⟩
 else none
section
variable [Cd] {A : Nat → Prop} {W0 : World} {ρ0 : Bg} {M0 : Nat → Prop} {H0 : HP} {n0 : Nat} {s s' : Fm} {ρ : Bg} {M : Nat → Prop} {a : Act} {w : World}
theorem OV{σ:Nat→Option Nat}{H:HP}:∀{L:List (Nat × Nat)}{h:HP}{o':Nat}{b':OB},Ti σ H L=some h→lk h o'=some b'→∃ o b l,(o,o')∈L∧lk H o=some b∧FC σ b.cs=some l∧b' = { b with cs:=l }
 | [],h,o',b',e,hl=>by
  unfold Ti at e
  cases e
  cases hl
 | p :: r,h,o',b',e,hl=>by
  unfold Ti at e;split at e
  ·rename_i b h' hb hh
   obtain ⟨l,hl',rfl⟩:=Option.map_eq_some_iff.1 e;unfold lk at hl;split at hl
   ·rename_i hp
    have hp:=Nat.eq_of_beq_eq_true hp
    cases hl
    exact ⟨p.1,b,l,by rw [← hp]; exact List.mem_cons_self ..,hb,hl',rfl⟩
   ·obtain ⟨o,b2,l2,q1,q2⟩:=OV hh hl
    exact ⟨o,b2,l2,List.mem_cons_of_mem _ q1,q2⟩
  ·cases e
theorem fD{l:List Nat}(hn:G8 l=true){x i:Nat}(h:l[i]? = some x):Q7 x l 0=some i:=by
 have ex:∀(l:List Nat)(i k:Nat),l[i]? = some x→∃ j,Q7 x l k=some j:=λl=>by
  induction l with
  | nil=>intro i k h; simp at h
  | cons y r ih =>
   intro i k h;unfold Q7;split
   ·exact ⟨k,rfl⟩
   ·rename_i hne
    cases i with
    | zero =>
     simp at h;subst h;exact absurd (Nat.beq_refl y) hne
    | succ i=>exact ih i (k+1) (by simpa using h)
 obtain ⟨j,hj⟩:=ex l i 0 h;obtain ⟨_,hg⟩:=GL hj;have hg:l[j]? = some x:=by simpa using hg
 rw [hj,Gg hn hg h]
theorem FS.ren{B:List Nat}{L:List (Nat × Nat)}{nx:Nat}(h:nW n0 L B nx s=some s')(hr0:∀ o p,ρ0 o=some p→o<n0)(hF:FS A W0 ρ0 M0 H0 n0 s ρ M a w):∃ ρ',FS A W0 ρ0 M0 H0 n0 s' ρ' M a w:=by
 unfold nW at h;split at h
 ·rename_i hc
  simp only [Bool.and_eq_true] at hc;obtain ⟨⟨⟨⟨⟨⟨c1,c2⟩,c3⟩,c4⟩,c5⟩,c6⟩,c7⟩:=hc;obtain ⟨hh,hre,rfl⟩:=Option.map_eq_some_iff.1 h;have hL:∀ p∈L,n0≤p.1∧n0≤p.2∧p.2<nx:=λp hp=>by
   have:=List.all_eq_true.1 c3 p hp;simp only [Bool.and_eq_true] at this;exact ⟨Nat.le_of_ble_eq_true this.1.1,Nat.le_of_ble_eq_true this.1.2,Nat.le_of_ble_eq_true this.2⟩
  let ρ':Bg:=λx=>if x<n0 then ρ x else (Z1 L x).bind ρ
  have hmem:∀ p∈L,ρ' p.2=ρ p.1:=λp hp=>by
   obtain ⟨i,hi⟩:=List.getElem?_of_mem hp;have h1:=hL p hp;show (if p.2<n0 then ρ p.2 else (Z1 L p.2).bind ρ)=ρ p.1;rw [if_neg (by omega)];unfold Z1;rw [fD c2 (i:=i) (by unfold Of; rw [List.getElem?_map,hi]; rfl)];show ((KW L)[i]?).bind ρ=ρ p.1;unfold KW;rw [List.getElem?_map,hi];rfl
  have hlow:∀ x,x<n0→ρ' x=ρ x:=λx hx=>if_pos hx
  have hσ:∀ o o' p,V9 n0 L o=some o'→ρ o=some p→ρ' o'=some p:=λo o' p e1 e2=>by
   unfold V9 at e1;split at e1
   ·rename_i hlt
    cases e1
    rw [hlow o (Nat.le_of_ble_eq_true hlt)];exact e2
   ·obtain ⟨i,hi,hv⟩:=Option.bind_eq_some_iff.1 e1
    obtain ⟨_,hk⟩:=GL hi;rw [Nat.sub_zero] at hk;unfold KW at hk;unfold Of at hv;rw [List.getElem?_map] at hk hv;obtain ⟨q,hq,rfl⟩:=Option.map_eq_some_iff.1 hk;rw [hq] at hv;have hv:q.2=o':=by simpa using hv
    rw [← hv,hmem q (List.mem_of_getElem? hq)];exact e2
  have src:∀ o' b',lk hh o'=some b'→∃ o b l,lk s.H o=some b∧FC (V9 n0 L) b.cs=some l∧b' = { b with cs:=l } ∧ ρ' o'=ρ o∧((o,o')∈L ∨ (o=o'∧o<n0)):=λo' b' e=>by
   obtain ⟨o,b,l,q1,q2,q3,q4⟩:=OV hre e
   rcases List.mem_append.1 q1 with hm | hm
   ·exact ⟨o,b,l,q2,q3,q4,hmem _ hm,.inl hm⟩
   ·obtain ⟨x,hx,e2⟩:=List.mem_map.1 hm
    have hx:=List.all_eq_true.1 c6 x hx;have hx:x<n0:=Nat.le_of_ble_eq_true hx;have e3:x=o:=congrArg Prod.fst e2;have e4:x=o':=congrArg Prod.snd e2;subst e3;subst e4;exact ⟨x,b,l,q2,q3,q4,hlow x hx,.inr ⟨rfl,hx⟩⟩
  refine ⟨ρ',?_,hF.defers,λt x e=>?_,⟨λo' b' e=>?_,λo1 o2 b1 b2 g k1 k2 e1 e2 q1 q2=>?_⟩,λo p e=>?_,Nat.le_of_ble_eq_true c4,hF.bnd,hF.fr,⟨hF.tr.grow,hF.tr.keep,hF.tr.mono,λo p e=>?_⟩,hF.sup,hF.mon,λo p e=>?_,λo ho hw=>?_⟩
  ·show a.tmps.size=(iZ _ s.tm).length
   unfold iZ;rw [List.length_map];exact hF.size
  ·have e:(iZ (V9 n0 L) s.tm)[t]? = some x:=e
   unfold iZ at e;rw [List.getElem?_map] at e;obtain ⟨y,hy,e⟩:=Option.map_eq_some_iff.1 e;obtain ⟨v,e1,e2⟩:=hF.slots t y hy;refine ⟨v,e1,?_⟩
   cases hr:Cp (V9 n0 L) y with
   | none =>
    rw [hr] at e;have e:AV.any=x:=e;subst e
    trivial
   | some z =>
    rw [hr] at e;have e:z=x:=e;subst e;exact Pi hσ (λ_ h=>h) hr e2
  ·obtain ⟨o,b,l,q1,q2,rfl,q4,_⟩:=src o' b' e
   obtain ⟨g,c,arr,cs,k⟩:=hF.heap.obj o b q1;exact ⟨g,c,arr,cs,by rw [q4]; exact k.at_,k.mut_,k.own,k.blk,k.ty,k.cells.ren hσ (λ_ h=>h) q2,k.pre,k.cap⟩
  ·obtain ⟨p1,x1,l1,r1,_,_,r2,r3⟩:=src o1 b1 e1
   obtain ⟨p2,x2,l2,t1,_,_,t2,t3⟩:=src o2 b2 e2;rw [r2] at q1;rw [t2] at q2;have:=hF.heap.inj p1 p2 x1 x2 g k1 k2 r1 t1 q1 q2;subst this
   rcases r3 with r3 | ⟨rfl,r3⟩ <;> rcases t3 with t3 | ⟨rfl,t3⟩
   ·obtain ⟨i,hi⟩:=List.getElem?_of_mem r3
    obtain ⟨j,hj⟩:=List.getElem?_of_mem t3;have:=Gg (x:=p1) c1 (i:=i) (j:=j) (by unfold KW; rw [List.getElem?_map,hi]; rfl) (by unfold KW; rw [List.getElem?_map,hj]; rfl);subst this;rw [hi] at hj;exact congrArg Prod.snd (Option.some.inj hj)
   ·have:=(hL _ r3).1
    omega
   ·have:=(hL _ t3).1
    omega
   ·rfl
  ·show o<nx
   by_cases ho:o<n0
   ·exact Nat.lt_of_lt_of_le ho (Nat.le_of_ble_eq_true c4)
   ·have e:(Z1 L o).bind ρ=some p:=by
     have:ρ' o=(Z1 L o).bind ρ:=if_neg ho;rw [← this];exact e
    obtain ⟨y,hy,_⟩:=Option.bind_eq_some_iff.1 e;unfold Z1 at hy;obtain ⟨i,hi,_⟩:=Option.bind_eq_some_iff.1 hy;obtain ⟨_,hk⟩:=GL hi;unfold Of at hk;rw [List.getElem?_map] at hk;obtain ⟨q,hq,rfl⟩:=Option.map_eq_some_iff.1 hk;exact (hL q (List.mem_of_getElem? hq)).2.2
  ·rw [hlow o (hr0 o p e)]
   exact hF.tr.ext o p e
  ·by_cases ho:o<n0
   ·rw [hlow o ho] at e
    exact hF.old o p e
   ·exact .inr (by omega)
  ·obtain ⟨q1,q2⟩:=hF.kp o ho hw
   refine ⟨?_,q2⟩;have hnone:lk s.H o=none:=by
    cases hl:lk s.H o with
    | none=>rfl
    | some b =>
     exfalso;have hb:lk (below n0 s.H) o=some b:=by rw [FW ho]; exact hl
     have:memN o s.wr=true:=by
      clear hre src
      revert hb c5
      generalize below n0 s.H=K
      induction K with
      | nil=>intro _ hb; cases hb
      | cons x r ih =>
       intro c5 hb;rw [List.all_cons,Bool.and_eq_true] at c5;unfold lk at hb;split at hb
       ·rename_i hx
        rw [← Nat.eq_of_beq_eq_true hx];exact c5.1
       ·exact ih c5.2 hb
     exact hw o (CB.1 this) rfl
   rw [← q1,hnone];show lk hh o=none
   cases hl:lk hh o with
   | none=>rfl
   | some b =>
    obtain ⟨x,b2,_,r1,_,_,_,r3⟩:=src o b hl
    rcases r3 with r3 | ⟨rfl,_⟩
    ·have:=(hL _ r3).2.1
     have:n0≤o:=this;omega
    ·rw [hnone] at r1
     cases r1
 ·cases h
end
section
variable {A : Nat → Prop} {W0 : World} {ρ0 : Bg} {M0 : Nat → Prop} {H0 : HP} {n0 : Nat} {s s' : Fm} {ρ : Bg} {M : Nat → Prop} {a : Act} {w : World} {Q : Exit → Act → World → Prop}
theorem IF{V:VL}{F:Fa}{l:List PE}{C:BD}{m n:Nat}{cf:Cf}{k:List WI}(hA:∀ b,W0.heap.size≤b→A b)(hF:Bi V F)(hl:∀ e∈l,@PE.ok (Ab V) e)(hC:@B5 (Ab V) C)(o:gA)(h:DR (T8 F l C) AC m n cf k s=some o)(hS:@FS (Ab V) A W0 ρ0 M0 H0 n0 s ρ M a w)(hQ:Zc (Ab V) A W0 ρ0 M0 H0 n0 Q o):holds Q k a w cf:=
 Sv hA (@EO.mk (Ab V) _ (El hF hl) (Fh hF) hC) Bq n cf k s o h hQ ρ M a w hS
theorem SE{c:Code}{γ:Type}(μ:γ→Nat)(V:γ→VL)(I:γ→Prop)(sI:γ→Fm)(round:∀ g,I g→∀ ρ M a w,@FS (Ab (V g)) A W0 ρ0 M0 H0 n0 (sI g) ρ M a w→c.wp Tryz.prog (Exit.then (λa' w'=>∃ g' ρ' M',I g'∧μ g'<μ g ∧ @FS (Ab (V g')) A W0 ρ0 M0 H0 n0 (sI g') ρ' M' a' w') Q) a w)
  (g:γ) (hI:I g) (hF:@FS (Ab (V g)) A W0 ρ0 M0 H0 n0 (sI g) ρ M a w):(Code.loop c).wp Tryz.prog Q a w:=by
 refine CN (λg a w=>I g∧∃ ρ M,@FS (Ab (V g)) A W0 ρ0 M0 H0 n0 (sI g) ρ M a w) μ ?_ g ⟨hI,ρ,M,hF⟩;intro g a w ⟨hI,ρ,M,hF⟩;refine Code.wp_mono ?_ (round g hI ρ M a w hF);intro e a' w' he
 cases e <;> first | exact he | skip
 obtain ⟨g',ρ',M',h1,h2,h3⟩:=he;exact ⟨g',⟨h1,ρ',M',h3⟩,h2⟩
end
def sg:Nat→(Nat→Rat)→Rat
 | 0,_=>0
 | n+1,f=>sg n f+f n
theorem Ek{f g:Nat→Rat}:∀{n:Nat},(∀ i,i<n→f i=g i)→sg n f=sg n g
 | 0,_=>rfl
 | n+1,h=>by
  unfold sg;rw [Ek λi hi=>h i (by omega),h n (by omega)]
theorem Qp:∀ n,sg n (λ_=>0)=0
 | 0=>rfl
 | n+1=>by
  unfold sg;rw [Qp n,Rat.add_zero]
theorem kU(f g:Nat→Rat):∀ n,sg n (λi=>f i+g i)=sg n f+sg n g
 | 0=>by
  show (0:Rat)=0+0;rw [Rat.add_zero]
 | n+1=>by
  unfold sg;rw [kU f g n]
  grind
theorem RO(x:Rat)(f:Nat→Rat):∀ n,sg n (λi=>x*f i)=x*sg n f
 | 0=>by
  show (0:Rat)=x*0;rw [Rat.mul_zero]
 | n+1=>by
  unfold sg;rw [RO x f n]
  grind
theorem QU{f:Nat→Rat}{k:Nat}:∀{n:Nat},k<n→(∀ i,i<n→i≠k→f i=0)→sg n f=f k
 | 0,h,_=>absurd h (Nat.not_lt_zero _)
 | n+1,h,hz=>by
  unfold sg
  by_cases e:k=n
  ·subst e
   rw [Ek (g:=λ_=>0) λi hi=>hz i (by omega) (by omega),Qp,Rat.zero_add]
  ·rw [QU (n:=n) (by omega) λi hi hk=>hz i (by omega) hk,hz n (by omega) (λe2=>e e2.symm),Rat.add_zero]
theorem Je{f:Nat→Rat}{n:Nat}(hz:∀ i,i<n→f i=0):sg n f=0:=by
 rw [Ek (g:=λ_=>0) hz,Qp]
section
variable {t t' t2 r c : Nat} {R R' R2 M : Nat → Nat → Rat} {v w x : Nat → Rat}
def In(t:Nat)(R:Nat→Nat→Rat)(v:Nat→Rat):Prop:=∃ k:Nat→Rat,∀ j,v j=sg t λi=>k i*R i j
theorem In.row{i:Nat}(h:i<t):In t R (R i):=⟨λk=>if k=i then 1 else 0,λj=>by
 rw [QU (k:=i) h λk _ hk=>by
  dsimp only;rw [if_neg hk,Rat.zero_mul]]
 dsimp only;rw [if_pos rfl,Rat.one_mul]⟩
theorem In.zero:In t R (λ_=>0):=⟨λ_=>0,λj=>(Je λi _=>Rat.zero_mul _).symm⟩
theorem In.add(h:In t R v)(h':In t R w):In t R (λj=>v j+w j):=by
 obtain ⟨k,hk⟩:=h;obtain ⟨l,hl⟩:=h';refine ⟨λi=>k i+l i,λj=>?_⟩;dsimp only;rw [hk,hl,← kU];exact Ek λi _=>by grind
theorem In.smul(a:Rat)(h:In t R v):In t R (λj=>a*v j):=by
 obtain ⟨k,hk⟩:=h;refine ⟨λi=>a*k i,λj=>?_⟩;dsimp only;rw [hk,← RO];exact Ek λi _=>by grind
theorem In.congr(h:In t R v)(e:∀ j,w j=v j):In t R w:=by
 obtain ⟨k,hk⟩:=h;exact ⟨k,λj=>(e j).trans (hk j)⟩
theorem In.sum{f:Nat→Nat→Rat}:∀{n:Nat},(∀ i,i<n→In t R (f i))→In t R (λj=>sg n λi=>f i j)
 | 0,_=>In.zero
 | n+1,h=>((In.sum (n:=n) λi hi=>h i (by omega)).add (h n (by omega))).congr λ_=>rfl
theorem In.trans(h:In t R v)(h':∀ i,i<t→In t' R' (R i)):In t' R' v:=by
 obtain ⟨k,hk⟩:=h;exact (In.sum (f:=λi j=>k i*R i j) λi hi=>(h' i hi).smul (k i)).congr hk
def Sp(t:Nat)(R:Nat→Nat→Rat)(t':Nat)(R':Nat→Nat→Rat):Prop:=∀ i,i<t→In t' R' (R i)
theorem Sp.refl:Sp t R t R:=λ_ hi=>In.row hi
theorem Sp.trans(h:Sp t R t' R')(h':Sp t' R' t2 R2):Sp t R t2 R2:=λi hi=>(h i hi).trans h'
structure xP (M:Nat→Nat→Rat) (r t col:Nat) (R:Nat→Nat→Rat) (p:Nat→Nat):Prop where
 tr:t≤r
 lt:∀ i,i<t→p i<col
 inc:∀ i k,i<k→k<t→p i<p k
 piv:∀ i,i<t→R i (p i)≠0
 below:∀ i k,i<t→i<k→k<r→R k (p i)=0
 zero:∀ k j,t≤k→k<r→j<col→R k j=0
 low:∀ i j,i<t→j<p i→R i j=0
 to:Sp r M r R
 fro:Sp r R r M
variable {p : Nat → Nat} {col : Nat}
theorem xP.skip(h:xP M r t col R p)(hz:∀ k,t≤k→k<r→R k col=0):xP M r t (col+1) R p:=
 ⟨h.tr,λi hi=>Nat.lt_succ_of_lt (h.lt i hi),h.inc,h.piv,h.below,λk j hk hr hj=>by
  by_cases e:j=col
  ·rw [e]
   exact hz k hk hr
  ·exact h.zero k j hk hr (by omega),h.low,h.to,h.fro⟩
structure Piv (t r at_ col:Nat) (R R':Nat→Nat→Rat):Prop where
 ta:t≤at_
 ar:at_<r
 nz:R at_ col≠0
 bet:∀ k,t≤k→k<at_→R k col=0
 keep:∀ k,k<t→R' k=R k
 top:∃ a:Rat,a≠0∧∀ j,R' t j=a*R at_ j
 mid:∀ k,t<k→k≤at_→∃ a:Rat,a≠0∧∀ j,R' k j=a*R (if k=at_ then t else k) j
 rest:∀ k,at_<k→k<r→∃ a b:Rat,a≠0∧(∀ j,R' k j=a*R k j+b*R at_ j)∧R' k col=0
theorem xP.pivot{at_:Nat}{p':Nat→Nat}(h:xP M r t col R p)(q:Piv t r at_ col R R')(hp:p' t=col)(hp':∀ i,i<t→p' i=p i):xP M r (t+1) (col+1) R' p':=by
 have ta:=q.ta;have ar:=q.ar;have form:∀ k,t≤k→k<r→∃ i a b,t≤i∧i<r∧∀ j,R' k j=a*R i j+b*R at_ j:=λk hk hr=>by
  by_cases e:k=t
  ·obtain ⟨a,_,ha⟩:=q.top
   exact ⟨at_,a,0,ta,ar,λj=>by rw [e,ha]; grind⟩
  ·by_cases hka:k≤at_
   ·obtain ⟨a,_,ha⟩:=q.mid k (by omega) hka
    by_cases e2:k=at_
    ·refine ⟨t,a,0,Nat.le_refl _,by omega,λj=>?_⟩
     rw [ha,if_pos e2]
     grind
    ·refine ⟨k,a,0,hk,hr,λj=>?_⟩
     rw [ha,if_neg e2]
     grind
   ·obtain ⟨a,b,_,ha,_⟩:=q.rest k (by omega) hr
    exact ⟨k,a,b,hk,hr,ha⟩
 have zz:∀ k j,t≤k→k<r→j<col→R' k j=0:=λk j hk hr hj=>by
  obtain ⟨i,a,b,hi,hir,e⟩:=form k hk hr;rw [e,h.zero i j hi hir hj,h.zero at_ j ta ar hj]
  grind
 have cz:∀ k,t<k→k<r→R' k col=0:=λk hk hr=>by
  by_cases hka:k≤at_
  ·obtain ⟨a,_,ha⟩:=q.mid k hk hka
   rw [ha]
   by_cases e2:k=at_
   ·rw [if_pos e2,q.bet t (Nat.le_refl _) (by omega),Rat.mul_zero]
   ·rw [if_neg e2,q.bet k (by omega) (by omega),Rat.mul_zero]
  ·exact (q.rest k (by omega) hr).choose_spec.choose_spec.2.2
 refine ⟨by omega,λi hi=>?_,λi k hik hk=>?_,λi hi=>?_,λi k hi hik hk=>?_,λk j hk hr hj=>?_,λi j hi hj=>?_,h.to.trans λi hi=>?_,Sp.trans (λi hi=>?_) h.fro⟩
 ·by_cases e:i=t
  ·rw [e,hp]; omega
  ·rw [hp' i (by omega)]
   exact Nat.lt_succ_of_lt (h.lt i (by omega))
 ·by_cases e:k=t
  ·rw [e,hp,hp' i (by omega)]
   exact h.lt i (by omega)
  ·rw [hp' i (by omega),hp' k (by omega)]
   exact h.inc i k hik (by omega)
 ·by_cases e:i=t
  ·obtain ⟨a,a0,ha⟩:=q.top
   rw [e,hp,ha];exact λe0=>(Rat.mul_eq_zero.1 e0).elim a0 q.nz
  ·rw [q.keep i (by omega),hp' i (by omega)]
   exact h.piv i (by omega)
 ·by_cases e:i=t
  ·rw [e,hp]
   exact cz k (by omega) hk
  ·rw [hp' i (by omega)]
   by_cases hkt:k<t
   ·rw [q.keep k hkt]
    exact h.below i k (by omega) hik hk
   ·exact zz k _ (by omega) hk (h.lt i (by omega))
 ·by_cases e:j=col
  ·rw [e]
   exact cz k (by omega) hr
  ·exact zz k j (by omega) hr (by omega)
 ·by_cases e:i=t
  ·rw [e,hp] at hj
   rw [e];exact zz t j (Nat.le_refl _) (by omega) hj
  ·rw [hp' i (by omega)] at hj
   rw [q.keep i (by omega)];exact h.low i j (by omega) hj
 ·-- an old line from the new ones
  have hat:In r R' (R at_):=by
   obtain ⟨a,a0,ha⟩:=q.top;exact ((In.row (R:=R') (i:=t) (by omega)).smul (1 / a)).congr λj=>by rw [ha]; grind
  by_cases hit:i<t
  ·exact (In.row (R:=R') (i:=i) (by omega)).congr λj=>by rw [q.keep i hit]
  ·by_cases e:i=at_
   ·rw [e]
    exact hat
   ·by_cases hia:i<at_
    ·by_cases e2:i=t
     ·obtain ⟨a,a0,ha⟩:=q.mid at_ (by omega) (Nat.le_refl _)
      exact ((In.row (R:=R') (i:=at_) ar).smul (1 / a)).congr λj=>by rw [ha,if_pos rfl,e2]; grind
     ·obtain ⟨a,a0,ha⟩:=q.mid i (by omega) (by omega)
      exact ((In.row (R:=R') (i:=i) (by omega)).smul (1 / a)).congr λj=>by rw [ha,if_neg e]; grind
    ·obtain ⟨a,b,a0,ha,_⟩:=q.rest i (by omega) hi
     exact (((In.row (R:=R') (i:=i) hi).smul (1 / a)).add (hat.smul (-(b / a)))).congr λj=>by rw [ha]; grind
 ·by_cases hit:i<t
  ·exact (In.row (R:=R) (i:=i) (by omega)).congr λj=>by rw [q.keep i hit]
  ·obtain ⟨k,a,b,_,hk,e⟩:=form i (by omega) hi
   exact (((In.row (R:=R) hk).smul a).add ((In.row (R:=R) ar).smul b)).congr e
structure Vt (t:Nat) (F:Nat→Nat→Rat) (p:Nat→Nat):Prop where
 one:∀ i,i<t→F i (p i)=1
 zero:∀ i k,i<t→k<t→i≠k→F i (p k)=0
 low:∀ i j,i<t→j<p i→F i j=0
 inc:∀ i k,i<k→k<t→p i<p k
def aD(t:Nat)(R F:Nat→Nat→Rat)(p:Nat→Nat)(i:Nat)(j:Nat):Rat:=(R i j - sg t λk=>if i<k then R i (p k)*F k j else 0) / R i (p i)
theorem AeU{F:Nat→Nat→Rat}(h:xP M r t c R p)(hF:∀ i,i<t→∀ j,F i j=aD t R F p i j):Vt t F p∧Sp t R t F:=by
 have key:∀ m i,t≤i+m→i<t→F i (p i)=1∧(∀ k,k<t→i≠k→F i (p k)=0)∧(∀ j,j<p i→F i j=0):=λm=>by
  induction m with
  | zero =>
   intro i h1 h2;omega
  | succ m ih =>
   intro i h1 h2;have hz:=h.piv i h2;have later:∀ k,i<k→k<t→F k (p k)=1∧(∀ l,l<t→k≠l→F k (p l)=0)∧(∀ j,j<p k→F k j=0):=λk hk hkt=>ih k (by omega) hkt
   have none:∀ j,R i j=0→(∀ k,i<k→k<t→F k j=0)→F i j=0:=λj e1 e2=>by
    rw [hF i h2];unfold aD;rw [e1,Je λk hk=>by
     split
     ·rename_i hik
      rw [e2 k hik hk,Rat.mul_zero]
     ·rfl]
    grind
   refine ⟨?_,λk hk hik=>?_,λj hj=>none j (h.low i j h2 hj) λk hik hk=>(later k hik hk).2.2 j (Nat.lt_trans hj (h.inc i k hik hk))⟩
   ·rw [hF i h2]
    unfold aD;rw [Je λk hk=>by
     split
     ·rename_i hik
      rw [(later k hik hk).2.1 i h2 (by omega),Rat.mul_zero]
     ·rfl]
    grind
   ·by_cases hlt:k<i
    ·exact none (p k) (h.low i (p k) h2 (h.inc k i hlt h2)) λl hil hl=>(later l hil hl).2.1 k hk (by omega)
    ·rw [hF i h2]
     unfold aD;rw [QU (k:=k) hk λl hl hlk=>by
      split
      ·rename_i hil
       rw [(later l hil hl).2.1 k hk hlk,Rat.mul_zero]
      ·rfl]
     rw [if_pos (by omega),(later k (by omega) hk).1]
     grind
 refine ⟨⟨λi hi=>(key t i (by omega) hi).1,λi k hi hk hik=>(key t i (by omega) hi).2.1 k hk hik,λi j hi hj=>(key t i (by omega) hi).2.2 j hj,h.inc⟩,λi hi=>?_⟩;have h1:In t F (λj=>R i (p i)*F i j):=(In.row hi).smul _;have h2:In t F (λj=>sg t λk=>if i<k then R i (p k)*F k j else 0):=In.sum (f:=λk j=>if i<k then R i (p k)*F k j else 0) λk hk=>by
  by_cases hik:i<k
  ·exact ((In.row (R:=F) hk).smul (R i (p k))).congr λj=>by rw [if_pos hik]
  ·exact In.zero.congr λj=>by rw [if_neg hik]
 refine (h1.add h2).congr λj=>?_
 have hz:=h.piv i hi;rw [hF i hi];unfold aD
 grind
end
section
variable {t t' r c : Nat} {F F' M R : Nat → Nat → Rat} {p p' : Nat → Nat} {v : Nat → Rat}
theorem Sp.cut(h:Sp r M r R)(ht:t≤r)(hz:∀ k,t≤k→k<r→∀ j,R k j=0):Sp r M t R:=λi hi=>(h i hi).trans λk hk=>by
 by_cases e:k<t
 ·exact In.row e
 ·exact In.zero.congr λj=>hz k (by omega) hk j
theorem Vt.coef(h:Vt t F p){k:Nat→Rat}(hv:∀ j,v j=sg t λi=>k i*F i j){i:Nat}(hi:i<t):v (p i)=k i:=by
 rw [hv,QU (k:=i) hi λl hl hli=>by rw [h.zero l i hl hi hli,Rat.mul_zero],h.one i hi,Rat.mul_one]
theorem Vt.ext(h:Vt t F p){w:Nat→Rat}(hv:In t F v)(hw:In t F w)(e:∀ i,i<t→v (p i)=w (p i)):∀ j,v j=w j:=λj=>by
 obtain ⟨k,hk⟩:=hv;obtain ⟨l,hl⟩:=hw;rw [hk,hl];exact Ek λi hi=>by
  have:=e i hi;rw [h.coef hk hi,h.coef hl hi] at this;rw [this]
theorem Vt.lead(h:Vt t F p)(hv:In t F v){d:Nat}(hd:v d≠0)(hl:∀ j,j<d→v j=0):∃ i,i<t∧p i=d:=by
 refine Classical.byContradiction λhn=>hd ?_
 obtain ⟨k,hk⟩:=hv;rw [hk];refine Je λi hi=>?_
 by_cases hlt:p i<d
 ·have:k i=0:=by
   rw [← h.coef hk hi];exact hl _ hlt
  rw [this,Rat.zero_mul]
 ·have:d<p i:=by
   by_cases e:p i=d
   ·exact absurd ⟨i,hi,e⟩ hn
   ·omega
  rw [h.low i d hi this,Rat.mul_zero]
theorem Va(h:∀ i k,i<k→k<t→p i<p k)(h':∀ i k,i<k→k<t'→p' i<p' k)(s:∀ i,i<t→∃ k,k<t'∧p' k=p i)(s':∀ i,i<t'→∃ k,k<t∧p k=p' i):t=t'∧∀ i,i<t→p i=p' i:=by
 have mono:∀{t:Nat}{p:Nat→Nat},(∀ i k,i<k→k<t→p i<p k)→∀ i k,i≤k→k<t→p i≤p k:=λh i k hik hk=>by
  by_cases e:i=k
  ·rw [e]; exact Nat.le_refl _
  ·exact Nat.le_of_lt (h i k (by omega) hk)
 have inj:∀{t:Nat}{p:Nat→Nat},(∀ i k,i<k→k<t→p i<p k)→∀ i k,i<t→k<t→p i=p k→i=k:=λh i k hi hk e=>by
  rcases Nat.lt_trichotomy i k with h1 | h1 | h1
  ·have:=h i k h1 hk; omega
  ·exact h1
  ·have:=h k i h1 hi; omega
 have key:∀ i,(∀ l,l<i→l<t→l<t'→p l=p' l)→i<t→i<t'→p i=p' i:=λi ih hi hi'=>by
  obtain ⟨m,hm,em⟩:=s i hi;obtain ⟨n,hn,en⟩:=s' i hi';have m1:i≤m:=Nat.le_of_not_lt λhlt=>by
   have e:=ih m hlt (by omega) hm;rw [em] at e;have:=inj h m i (by omega) hi e;omega
  have n1:i≤n:=Nat.le_of_not_lt λhlt=>by
   have e:=ih n hlt hn (by omega);rw [en] at e;have:=inj h' i n hi' (by omega) e;omega
  have a1:=mono h' i m m1 hm;have a2:=mono h i n n1 hn;omega
 have all:∀ i,i<t→i<t'→p i=p' i:=λi=>by
  induction i using Nat.strongRecOn with
  | ind i ih=>exact key i λl hl h1 h2=>ih l hl h1 h2
 have le1:t≤t':=Nat.le_of_not_lt λhlt=>by
  obtain ⟨k,hk,e⟩:=s t' hlt;rw [← all k (by omega) hk] at e;have:=inj h k t' (by omega) hlt e;omega
 have le2:t'≤t:=Nat.le_of_not_lt λhlt=>by
  obtain ⟨k,hk,e⟩:=s' t hlt;rw [all k hk (by omega)] at e;have:=inj h' k t (by omega) hlt e;omega
 exact ⟨by omega,λi hi=>all i hi (by omega)⟩
theorem Um(h:Vt t F p)(h':Vt t' F' p')(s:Sp t F t' F')(s':Sp t' F' t F):t=t'∧(∀ i,i<t→p i=p' i)∧∀ i,i<t→∀ j,F i j=F' i j:=by
 have q:∀{t t':Nat}{F F':Nat→Nat→Rat}{p p':Nat→Nat},Vt t F p→Vt t' F' p'→Sp t F t' F'→∀ i,i<t→∃ k,k<t'∧p' k=p i:=λh h' s i hi=>h'.lead (s i hi) (by rw [h.one i hi]; decide) λj hj=>h.low i j hi hj
 obtain ⟨e,ep⟩:=Va h.inc h'.inc (q h h' s) (q h' h s');refine ⟨e,ep,λi hi=>?_⟩;subst e;refine h'.ext (s i hi) (In.row hi) λk hk=>?_
 rw [← ep k hk]
 by_cases eik:i=k
 ·subst eik
  have:=h'.one i hi;rw [← ep i hi] at this;rw [h.one i hi,this]
 ·have:=h'.zero i k hi hk eik
  rw [← ep k hk] at this;rw [h.zero i k hi hk eik,this]
theorem nS{F:Nat→Nat→Rat}(hF:∀ i,i<t→∀ j,F i j=aD t R F p i j):Sp t F t R:=by
 have key:∀ m i,t≤i+m→i<t→In t R (F i):=λm=>by
  induction m with
  | zero =>
   intro i h1 h2;omega
  | succ m ih =>
   intro i h1 h2;have h3:In t R (λj=>sg t λk=>if i<k then R i (p k)*F k j else 0):=In.sum (f:=λk j=>if i<k then R i (p k)*F k j else 0) λk hk=>by
    by_cases hik:i<k
    ·exact ((ih k (by omega) hk).smul (R i (p k))).congr λj=>by rw [if_pos hik]
    ·exact In.zero.congr λj=>by rw [if_neg hik]
   refine (((In.row (R:=R) h2).add (h3.smul (-1))).smul (1 / R i (p i))).congr λj=>?_
   rw [hF i h2];unfold aD
   grind
 exact λi hi=>key t i (by omega) hi
end
end Go.Proofs.YtdopbgnkneeceaaGreat
