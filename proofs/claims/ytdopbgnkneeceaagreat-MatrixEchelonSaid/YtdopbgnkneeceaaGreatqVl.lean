/- An abstract machine: code runs. -/
import Derived.Test.YtdopbgnkneeceaaGreatqVi
import Derived.LoopNIn
set_option linter.unusedSectionVars false
set_option linter.unusedVariables false
set_option linter.unusedSimpArgs false
set_option maxRecDepth 100000
namespace Go.Proofs.YtdopbgnkneeceaaGreat
open Go.RowKit
section
variable [Cd]
noncomputable def Akd(f:Nat):Option Func:=Tryz.prog.funcs[f]?
noncomputable def rV(H:HP)(a:AV)(T:TypeId):Option AV:=do
 let p ← XH H a
 let n ← CT T
 let l ← Em n p.1
 mkT T l
noncomputable def MY(s:Fm):List ResultVar→Option (List AV)
 | []=>some []
 | .tmp t :: r=>match s.tm[t]?,MY s r with
  | some a,some l=>some (a :: l)
  | _,_=>none
 | .cell t T :: r=>match s.tm[t]?,MY s r with
  | some a,some l=>(rV s.H a T).map (· :: l)
  | _,_=>none
def nF:List AV→Option AV
 | [a]=>some a
 | l=>if l.all AV.one then some (.tup l) else none
noncomputable def WW(H:HP)(n0 t0:Nat)(fn:Func)(s:Fm):Option (AV × HP):=match MY s fn.results.toList with
 | some l=>match nF l with
  | some r=>ZA H n0 t0 s r
  | none=>none
 | none=>none
noncomputable def BR(pl:List Nat)(run:Code→Fm→Option RR):BD:=λf xs H n0 t0=>match Akd f with
 | none=>none
 | some fn=>match fn.body with
  | none=>none
  | some c=>if memN f pl && Nat.ble xs.length fn.ntmps then (match run c ⟨xs ++ List.replicate (fn.ntmps - xs.length) (.val undef),H,n0,[]⟩ with
   | some (.fall s)=>WW H n0 t0 fn s
   | some (.ret s)=>WW H n0 t0 fn s
   | _=>none) else none
def UP:List AV→List Tmp→List AV→Option (List AV)
 | tm,[],[]=>some tm
 | tm,p :: ps,x :: xs=>UP (tm.set p x) ps xs
 | _,_,_=>none
noncomputable def Qe(run:Code→Fm→Option RR)(tm:List AV)(y:Nat)(ps:List Tmp)(asg bd:Code):BD:=λk xs H n1 t1=>if Nat.beq k (1000000+y) then (match UP tm ps xs with
 | none=>none
 | some tm1=>match run asg ⟨tm1,H,n1,[]⟩ with
  | some (.fall s2)=>(match run bd s2 with
   | some (.fall s3)=>ZA H n1 t1 s3 (.val (.bool true))
   | _=>none)
  | _=>none) else none
noncomputable def Tg(T:Tb)(pl:List Nat)(rec_:Bool→BD→Code→Fm→Option RR)(rd:Bool)(yl:BD)(c:Code)(s:Fm):Option RR:=match c with
 | .skip=>some (.fall s)
 | .label _=>some (.fall s)
 | .scope x=>rec_ rd yl x s
 | .region _ ops dr=>(Jx T (Qo (orC T.call (BR pl (rec_ false yl))) yl) dr ops s).map .fall
 | .seq x y=>match rec_ rd yl x s with
  | some (.fall s')=>rec_ rd yl y s'
  | o=>o
 | .cond (.tmp t) x y=>match s.tm[t]? with
  | some (.val (.bool true))=>rec_ rd yl x s
  | some (.val (.bool false))=>rec_ rd yl y s
  | _=>none
 | .cond (.const (.bool b)) x y=>if b then rec_ rd yl x s else rec_ rd yl y s
 | .block i x=>match rec_ rd yl x s with
  | some (.exit m s')=>if Nat.beq m i then some (.fall s') else some (.exit m s')
  | o=>o
 | .loop x=>match rec_ rd yl x s with
  | some (.fall s')=>rec_ rd yl (.loop x) s'
  | o=>o
 | .exit i=>some (.exit i s)
 | .ret=>some (.ret s)
 | .rangeFunc (.tmp t) ps asg bd=>match rd,s.tm[t]? with
  | false,some (.fn f [] b)=>if b.all Kt && Nat.blt f 1000000 then (match BR pl (rec_ false (Qe (rec_ true N6) s.tm s.nx ps.toList asg bd)) f (.yl s.nx :: b) s.H (s.nx+17) (s.nx+1) with
   | some p=>some (.fall ⟨s.tm,p.2 ++ s.H,s.nx+17,s.wr ++ p.2.map (·.1)⟩)
   | none=>none) else none
  | _,_=>none
 | _=>none
noncomputable def MM(T:Tb)(pl:List Nat):Nat→Bool→BD→Code→Fm→Option RR
 | 0=>λ_ _ _ _=>none
 | n+1=>λrd yl c s=>Tg T pl (MM T pl n) rd yl c s
noncomputable abbrev Dd(T:Tb)(pl:List Nat)(n:Nat)(c:Code)(s:Fm):Option RR:=MM T pl n false N6 c s
section
variable {T : Tb} {pl : List Nat}
def Aal(A:Nat→Prop)(W0:World)(ρ0:Bg)(M0:Nat→Prop)(H0:HP)(n0:Nat)(Q:Exit→Act→World→Prop):RR→Prop
 | .fall s=>∀ ρ M a w,FS A W0 ρ0 M0 H0 n0 s ρ M a w→Q .normal a w
 | .ret s=>∀ ρ M a w,FS A W0 ρ0 M0 H0 n0 s ρ M a w→Q .ret a w
 | .exit n s=>∀ ρ M a w,FS A W0 ρ0 M0 H0 n0 s ρ M a w→Q (.exit n) a w
def cA(C:T5)(yl:BD):Prop:=∀ y xs H n0 t0 r U,yl (1000000+y) xs H n0 t0=some (r,U)→∀(ρ:Bg)(M:Nat→Prop)(w:World)(vs:List Value),C ρ M w →
  CK ρ M (Di ρ w (lk H)) w t0 (lk H)→(∀ o p,ρ o=some p→o<n0)→t0+16≤n0→CH ρ M w xs vs →
  ∃ l c fn tmps asg bd,ρ y=some (l,c)∧(Instr.yield l vs.toArray).run Tryz.prog w = .ok (.round l fn tmps asg bd) w ∧
   RoundIn (Eo none) 8 Tryz.prog l fn tmps asg bd w λe w'=>∃ v,e = .returned v∧BI ρ M (Di ρ w (lk H)) w t0 (lk H) U r v w'
theorem iI(C:T5):cA C N6:=λ_ _ _ _ _ _ _ h=>by cases h
def HB(H0:HP)(ρ0:Bg)(W0:World):Prop:=∀ x b g c,lk H0 x=some b→ρ0 x=some (g,c)→g<W0.heap.size
def Tn(T:Tb)(pl:List Nat)(n:Nat):Prop:=∀ rd yl c s o,MM T pl n rd yl c s=some o→∀(C:T5)(μ:Option Nat),(rd=false→μ=none)→Nr C→cA C yl→∀(A:Nat→Prop)(W0:World)(ρ0:Bg)(M0:Nat→Prop)(H0:HP)(n0:Nat)(ρ:Bg)(M:Nat→Prop)(a:Act)(w:World)(Q:Exit→Act→World→Prop),
 (∀ b,W0.heap.size≤b→A b)→HB H0 ρ0 W0→C ρ0 M0 W0→FS A W0 ρ0 M0 H0 n0 s ρ M a w→Aal A W0 ρ0 M0 H0 n0 Q o→wpR μ c Q a w
def sF(T:Tb)(pl:List Nat)(n:Nat):Prop:=∀ rd yl c s o,MM T pl n rd yl (.loop c) s=some o→∃ k,∀(C:T5)(μ:Option Nat),(rd=false→μ=none)→Nr C→cA C yl→∀(A:Nat→Prop)(W0:World)(ρ0:Bg)(M0:Nat→Prop)(H0:HP)(n0:Nat)(ρ:Bg)(M:Nat→Prop)(a:Act)(w:World)(Q:Exit→Act→World→Prop),
 (∀ b,W0.heap.size≤b→A b)→HB H0 ρ0 W0→C ρ0 M0 W0→FS A W0 ρ0 M0 H0 n0 s ρ M a w→Aal A W0 ρ0 M0 H0 n0 Q o→Code.roundsIn (Eo μ) 9 Tryz.prog c Q k a w
theorem Ys.imp{W0:World}{M M':Nat→Prop}{w w':World}:∀{ds:List Deferred},Ys W0 M w ds→(∀ D,D<w.heap.size→W0.heap.size≤D → ¬ M D→(∃ d∈ds,d = { target:=.collected D,args:=#[] }) → ¬ M' D∧w'.heap[D]? = w.heap[D]?)→Ys W0 M' w' ds
 | [],_,_=>trivial
 | d :: _,⟨⟨D,e,h1,h2,h3⟩,h4,h5⟩,k=>by
  obtain ⟨k1,k2⟩:=k D (AJ h3) h1 h2 ⟨d,List.mem_cons_self ..,e⟩;exact ⟨⟨D,e,h1,k1,k2.trans h3⟩,h4,h5.imp λD' q1 q2 q3 ⟨x,hx,e⟩=>k D' q1 q2 q3 ⟨x,List.mem_cons_of_mem _ hx,e⟩⟩
theorem Ys.lt{W0:World}{M:Nat→Prop}{w:World}:∀{ds:List Deferred},Ys W0 M w ds→∀ d∈ds,∃ D,d = { target:=.collected D,args:=#[] } ∧ D<w.heap.size
 | [],_,d,h=>by cases h
 | d0 :: _,⟨⟨D,e,_,_,h3⟩,_,h5⟩,d,h=>by
  rcases List.mem_cons.1 h with rfl | h
  ·exact ⟨D,e,AJ h3⟩
  ·exact h5.lt d h
structure Ki (w:World) (l:Nat) (o:Obj):Prop where
 was:∃ x:Obj,w.heap[l]? = some x∧x.isCells=false
 is:o.isCells=false
section
variable {A : Nat → Prop} {W0 : World} {ρ0 : Bg} {M0 : Nat → Prop} {H0 : HP} {n0 : Nat} {s : Fm} {ρ : Bg} {M : Nat → Prop} {a : Act} {w : World} {l : Nat} {o : Obj}
theorem Ki.lt(h:Ki w l o):l<w.heap.size:=by obtain ⟨x,e,_⟩:=h.was; exact AJ e
theorem Ki.grow(h:Ki w l o):Bt w (w.putObj l o):=by
 have key:∀(x:Nat)(cs:Array Value)(T:TypeId)(fr:Nat × Nat),w.heap[x]? = some (.cells cs T fr)→(w.putObj l o).heap[x]? = some (.cells cs T fr):=λx cs T fr e=>by
  rw [World.putObj_heap_other,e]
  rintro rfl
  obtain ⟨y,e2,hc⟩:=h.was;rw [e] at e2
  cases e2
  cases hc
 exact ⟨Nat.le_of_eq World.putObj_size.symm,λx cs fr e=>key x cs _ fr e,λx cs fr e=>key x cs _ fr e⟩
theorem Ki.trw(h:Ki w l o):gE ρ M w ρ M (w.putObj l o):=⟨h.grow,λb hb _=>by
 by_cases e:b=l
 ·subst e
  exact .inr ⟨h.was,o,World.putObj_heap_same hb,h.is⟩
 ·exact .inl (World.putObj_heap_other e),λ_ _ h=>h,λ_ _ h=>h⟩
theorem Ki.ne(h:Ki w l o){g:Nat}{arr:Array Value}{T:TypeId}{fr:Nat × Nat}(e:w.heap[g]? = some (.cells arr T fr)):g≠l:=by
 rintro rfl
 obtain ⟨y,e2,hc⟩:=h.was;rw [e] at e2
 cases e2
 cases hc
theorem Ki.rh{H:Nat→Option OB}(h:Ki w l o)(r:RH ρ M A w H):RH ρ M A (w.putObj l o) H:=r.stW h.trw (λ_ h=>h) λx b g c e1 e2=>by
 obtain ⟨g',c',arr,cs,k⟩:=r.obj x b e1;have:g=g':=by
  have:=k.at_;rw [e2] at this;exact congrArg Prod.fst (Option.some.inj this)
 subst this;exact World.putObj_heap_other (h.ne k.blk)
theorem FS.turn(hF:FS A W0 ρ0 M0 H0 n0 s ρ M a w)(h:Ki w l o)(hA:A l)(hl:W0.heap.size≤l){ds:List Deferred}(hm:Ys W0 M (w.putObj l o) ds)(hk:∀ x b g c,lk H0 x=some b→ρ0 x=some (g,c)→g≠l):FS A W0 ρ0 M0 H0 n0 s ρ M { a with defers:=ds } (w.putObj l o):=
  ⟨hF.size,hm,λt x e=>by obtain ⟨v,e1,e2⟩:=hF.slots t x e; exact ⟨v,e1,e2.stW h.trw⟩,h.rh hF.heap,hF.dom,hF.nx,λb hb=>by rw [World.putObj_size]; exact hF.bnd b hb,
   ⟨hF.fr.os,hF.fr.tape,hF.fr.output,by rw [World.putObj_size]; exact hF.fr.size,λb hb hn=>by rw [World.putObj_heap_other (λe=>hn (by rw [e]; exact hA))]; exact hF.fr.keep b hb hn⟩,
   ⟨hF.tr.grow.trans h.grow,λb hb hn=>by rw [World.putObj_heap_other (by omega)]; exact hF.tr.keep b hb hn,hF.tr.mono,hF.tr.ext⟩,hF.sup,hF.mon,hF.old,
   λx hx hw=>⟨(hF.kp x hx hw).1,λb g c e1 e2=>by rw [World.putObj_heap_other (hk x b g c e1 e2)]; exact (hF.kp x hx hw).2 b g c e1 e2⟩⟩
theorem FS.turn0(hF:FS A W0 ρ0 M0 H0 n0 s ρ M a w)(h0:Ki W0 l o)(hA:¬ A l)(hM:¬ M0 l):FS A (W0.putObj l o) ρ0 M0 H0 n0 s ρ M a (w.putObj l o):=by
 have hlt:=h0.lt;have hsame:w.heap[l]? = W0.heap[l]? := hF.tr.keep l hlt hM;have h:Ki w l o:=⟨by rw [hsame]; exact h0.was,h0.is⟩;have hkeep:∀ b,w.heap[b]? = W0.heap[b]? → (w.putObj l o).heap[b]? = (W0.putObj l o).heap[b]? := λb e=>by
  by_cases hb:b=l
  ·rw [hb,World.putObj_heap_same hlt,World.putObj_heap_same h.lt]
  ·rw [World.putObj_heap_other hb,World.putObj_heap_other hb,e]
 refine ⟨hF.size,?_,λt x e=>?_,h.rh hF.heap,hF.dom,hF.nx,λb hb=>by rw [World.putObj_size]; exact hF.bnd b hb,
  ⟨hF.fr.os,hF.fr.tape,hF.fr.output,by rw [World.putObj_size,World.putObj_size]; exact hF.fr.size,λb hb hn=>hkeep b (hF.fr.keep b (by rwa [World.putObj_size] at hb) hn)⟩,
  ⟨⟨by rw [World.putObj_size,World.putObj_size]; exact hF.fr.size,λx cs fr e=>?_,λx cs fr e=>?_⟩,λb hb hn=>hkeep b (hF.tr.keep b (by rwa [World.putObj_size] at hb) hn),λb hb hn=>hF.tr.mono b (by rwa [World.putObj_size] at hb) hn,hF.tr.ext⟩,hF.sup,λb hb=>by rw [World.putObj_size]; exact hF.mon b hb,hF.old,
  λx hx hw=>⟨(hF.kp x hx hw).1,λb g c e1 e2=>hkeep g ((hF.kp x hx hw).2 b g c e1 e2)⟩⟩
 ·have:=hF.defers.imp (M':=M) (w':=w.putObj l o) λD h1 h2 h3 _=>⟨h3,World.putObj_heap_other (by omega)⟩
  have conv:∀ ds,Ys W0 M (w.putObj l o) ds→Ys (W0.putObj l o) M (w.putObj l o) ds:=λds=>by
   induction ds with
   | nil=>exact λ_=>trivial
   | cons d ds ih=>exact λ⟨⟨D,e,h1,h2⟩,h3,h4⟩=>⟨⟨D,e,by rw [World.putObj_size]; exact h1,h2⟩,h3,ih h4⟩
  exact conv _ this
 ·obtain ⟨v,e1,e2⟩:=hF.slots t x e
  exact ⟨v,e1,e2.stW h.trw⟩
 all_goals
  have hx:x≠l:=by
   rintro rfl
   rw [World.putObj_heap_same hlt] at e;have:=h0.is
   cases e
   cases this
  rw [World.putObj_heap_other hx] at e ⊢
  first | exact hF.tr.grow.rows x cs fr e | exact hF.tr.grow.bytes x cs fr e
end
section
variable {A : Nat → Prop} {W0 : World} {ρ0 : Bg} {M0 : Nat → Prop} {H0 : HP} {n0 : Nat} {s : Fm} {ρ : Bg} {M : Nat → Prop} {a : Act} {w : World}
theorem Afn(hF:FS A W0 ρ0 M0 H0 n0 s ρ M a w)(hA:∀ b,W0.heap.size≤b→A b):CK ρ M A w s.nx (lk s.H):=
 ⟨hF.heap,hF.bnd,λo h1 _=>by
  cases e:ρ o with
  | none=>rfl
  | some p=>have:=hF.dom o p e; omega,λb hb=>hA b (Nat.le_trans hF.fr.size hb)⟩
theorem Tm(hs:CK ρ M A w n0 (lk s.H)){x r:AV}{U:TypeId}{v:Value}(h:rV s.H x U=some r)(hv:RV ρ M w x v):∃ u,(asAddr v >>= λp=>loadVar U p).run Tryz.prog w = .ok u w∧Bz ρ M w r u:=by
 simp only [rV,Option.bind_eq_bind,Option.bind_eq_some_iff] at h;obtain ⟨⟨l,R⟩,hp,n,hn,l',ht,hm⟩:=h;obtain ⟨g,off,xs,rfl,hl,hr⟩:=KI hs hp (λ_ _=>rfl) hv;obtain ⟨u,hrun,hu⟩:=KL hn ht hm hl hr;refine ⟨u,?_,hu⟩;simp only [Instr.loadAt,Instr.sureAddr,Sem.run_bind,Sem.run_pure,Result.andThen_ok] at hrun;simp only [asAddr,Sem.run_bind,Sem.run_pure,Result.andThen_ok];exact hrun
theorem XI{x:Nat}{tm:Array Value}{v:Value}(h:tm[x]? = some v):tm.getD x undef=v:=by
 rw [Array.getD_eq_getD_getElem?,h]; rfl
theorem II(hF:FS A W0 ρ0 M0 H0 n0 s ρ M a w)(hA:∀ b,W0.heap.size≤b→A b):∀{rs:List ResultVar}{l:List AV},MY s rs=some l→∃ vs,(rs.mapM (ID a.tmps)).run Tryz.prog w = .ok vs w∧vs.length=l.length∧(l.all AV.one=true→CH ρ M w l vs)∧∀ x,l=[x]→∃ v,vs=[v]∧RV ρ M w x v
 | [],l,h=>by
  unfold MY at h
  cases h
  exact ⟨[],by simp,rfl,λ_=>rfl,λx e=>by cases e⟩
 | .tmp t :: r,l,h=>by
  unfold MY at h;split at h
  ·rename_i x l' hx hl
   cases h
   obtain ⟨v,e1,e2⟩:=hF.slots t x hx;obtain ⟨vs,k1,k2,k3,_⟩:=II hF hA hl;have hr:(ID a.tmps (.tmp t)).run Tryz.prog w = .ok v w:=by
    show (pure (a.tmps.getD t undef):Sem Value).run _ _=_;rw [XI e1];rfl
   refine ⟨v :: vs,by simp [List.mapM_cons,Sem.run_bind,hr,k1],by simp [k2],λho=>?_,λy e=>?_⟩
   ·rw [List.all_cons,Bool.and_eq_true] at ho
    exact ⟨v,vs,rfl,e2.one ho.1,k3 ho.2⟩
   ·simp only [List.cons.injEq] at e
    obtain ⟨rfl,rfl⟩:=e;have:vs=[]:=List.length_eq_zero_iff.1 k2;exact ⟨v,by rw [this],e2⟩
  ·cases h
 | .cell t U :: r,l,h=>by
  unfold MY at h;split at h
  ·rename_i x l' hx hl
   obtain ⟨y,hy,rfl⟩:=Option.map_eq_some_iff.1 h;obtain ⟨v,e1,e2⟩:=hF.slots t x hx;obtain ⟨vs,k1,k2,k3,_⟩:=II hF hA hl;obtain ⟨u,hu,hr1⟩:=Tm (s:=s) (n0:=s.nx) (Afn hF hA) hy e2;have hr:(ID a.tmps (.cell t U)).run Tryz.prog w = .ok u w:=by
    show (asAddr (a.tmps.getD t undef) >>= λp=>loadVar U p).run _ _=_;rw [XI e1];exact hu
   refine ⟨u :: vs,by simp [List.mapM_cons,Sem.run_bind,hr,k1],by simp [k2],λho=>?_,λz e=>?_⟩
   ·rw [List.all_cons,Bool.and_eq_true] at ho
    exact ⟨u,vs,rfl,hr1,k3 ho.2⟩
   ·simp only [List.cons.injEq] at e
    obtain ⟨rfl,rfl⟩:=e;have:vs=[]:=List.length_eq_zero_iff.1 k2;exact ⟨u,by rw [this],hr1.rv⟩
  ·cases h
theorem Eb(hF:FS A W0 ρ0 M0 H0 n0 s ρ M a w)(hA:∀ b,W0.heap.size≤b→A b){fn:Func}{l:List AV}{r:AV}(h:MY s fn.results.toList=some l)(ho:nF l=some r):∃ v,(results fn a.tmps).run Tryz.prog w = .ok v w∧RV ρ M w r v:=by
 obtain ⟨vs,k1,k2,k3,k4⟩:=II hF hA h;have hres:(results fn a.tmps)=(do
   let vs ← fn.results.mapM (ID a.tmps)
   pure (if h:vs.size=1 then vs[0] else .tuple vs)):=by
  unfold results
  congr 1
 have hm:(fn.results.mapM (ID a.tmps)).run Tryz.prog w = .ok vs.toArray w:=by
  rw [Array.mapM_eq_mapM_toList,map_eq_pure_bind,Sem.run_bind,k1];rfl
 rw [hres,Sem.run_bind,hm];unfold nF at ho;split at ho
 ·cases ho
  obtain ⟨v,rfl,hv⟩:=k4 _ rfl;exact ⟨v,rfl,hv⟩
 ·rename_i hne
  split at ho
  ·rename_i hall
   cases ho
   have hsz:¬ vs.toArray.size=1:=λe=>by
    rw [List.size_toArray,k2] at e;obtain ⟨x,e⟩:=List.length_eq_one_iff.1 e;exact hne x e
   refine ⟨.tuple vs.toArray,?_,⟨vs.toArray,rfl,k3 hall⟩⟩;show (pure (if h:vs.toArray.size=1 then vs.toArray[0] else Value.tuple vs.toArray):Sem Value).run Tryz.prog w = .ok (.tuple vs.toArray) w;split
   ·rename_i e
    exact absurd e hsz
   ·rfl
  ·cases ho
end
section
variable {A : Nat → Prop} {W0 : World} {ρ0 : Bg} {M0 : Nat → Prop} {H0 : HP} {n0 : Nat} {s : Fm} {ρ : Bg} {M : Nat → Prop} {a : Act} {w : World}
theorem CH.len{ρ:Bg}{M:Nat→Prop}{w:World}:∀{l:List AV}{vs:List Value},CH ρ M w l vs→vs.length=l.length
 | [],_,h=>by have h:_=[]:=h; rw [h]; rfl
 | _ :: _,_,⟨v,r,e,_,h⟩=>by rw [e,List.length_cons,h.len,List.length_cons]
theorem DN{fn:Func}{tmps:Array Value}{R:Ending→World→Prop}(hA:∀ b,W0.heap.size≤b→A b)(hk:∀ x b g c,lk H0 x=some b→ρ0 x=some (g,c)→g<W0.heap.size):∀(ds:List Deferred)(a:Act)(w:World),FS A W0 ρ0 M0 H0 n0 s ρ M a w→a.defers=ds→a.tmps=tmps →
  (∀ a w,FS A W0 ρ0 M0 H0 n0 s ρ M a w→a.tmps=tmps→∃ v,(results fn tmps).run Tryz.prog w = .ok v w∧R (.returned v) w)→LeavesInM (Eo none) 9 Tryz.prog fn tmps R ds .returning w
 | [],a,w,hF,_,ht,hR=>hR a w hF ht
 | d :: ds,a,w,hF,hd,ht,hR=>by
  have hm:=hF.defers;rw [hd] at hm;obtain ⟨⟨D,rfl,h1,h2,h3⟩,h4,h5⟩:=hm;refine ⟨by simp,.inl ⟨D,w.putObj D (.deferred none),rfl,run_takeDeferred h3,?_⟩⟩;refine DN hA hk ds { a with defers:=ds } _ (hF.turn ⟨⟨_,h3,rfl⟩,rfl⟩ (hA D h1) h1 (h5.imp λD' q1 q2 q3 ⟨x,hx,e⟩=>⟨q3,World.putObj_heap_other ?_⟩) λx b g c e1 e2 e=>?_) rfl ht hR
  ·rintro rfl
   exact h4 (e ▸ hx)
  ·have:=hk x b g c e1 e2
   omega
theorem SW{fn:Func}{xs:List AV}{H:HP}{n0 t0:Nat}{vs:List Value}(hs:CK ρ M (Di ρ w (lk H)) w t0 (lk H))(hd:∀ o p,ρ o=some p→o<n0)(hv:CH ρ M w xs vs) :
  FS (Di ρ w (lk H)) w ρ M H n0 ⟨xs ++ List.replicate (fn.ntmps - xs.length) (.val undef),H,n0,[]⟩ ρ M { tmps:=vs.toArray ++ Array.replicate (fn.ntmps - vs.toArray.size) undef,defers:=[] } w:=by
 have hvl:vs.length=xs.length:=hv.len;have hget:∀(l:List AV)(vs:List Value),CH ρ M w l vs→∀(t:Nat)(x:AV),l[t]? = some x→∃ v,vs[t]? = some v∧RV ρ M w x v:=λl vs hv t x hx=>by
  obtain ⟨v,e,k⟩:=hv.get hx;exact ⟨v,e,k.rv⟩
 refine ⟨by simp [hvl],trivial,λt x hx=>?_,hs.heap,hd,Nat.le_refl _,hs.bnd,NN.refl _ _,Tr.refl _ _ _,λ_ h=>h,λ_ h=>.inl h,λo p e=>.inl e,λo _ _=>⟨rfl,λ_ _ _ _ _=>rfl⟩⟩;have hx:(xs ++ List.replicate (fn.ntmps - xs.length) (.val undef))[t]? = some x:=hx;show ∃ v,(vs.toArray ++ Array.replicate (fn.ntmps - vs.toArray.size) undef)[t]? = some v∧_;rw [List.getElem?_append] at hx;split at hx
 ·rename_i hlt
  obtain ⟨v,e,k⟩:=hget xs vs hv t x hx;exact ⟨v,by rw [Array.getElem?_append_left (by simp [hvl,hlt])]; simpa using e,k⟩
 ·rename_i hge
  rw [List.getElem?_replicate] at hx;split at hx
  ·cases hx
   refine ⟨undef,?_,rfl⟩;rw [Array.getElem?_append_right (by simp [hvl]; omega),Array.getElem?_replicate,if_pos];simp [hvl];omega
  ·cases hx
theorem PY{H:Nat→Option OB}(r:RH ρ M A w H){x g c:Nat}{b:OB}(e1:H x=some b)(e2:ρ x=some (g,c)):g<w.heap.size:=by
 obtain ⟨g',c',arr,cs,k⟩:=r.obj x b e1;have:g=g':=by
  have:=k.at_;rw [e2] at this;exact congrArg Prod.fst (Option.some.inj this)
 exact this ▸ AJ k.blk
theorem Kn(hpl:∀ f∈pl,Bf f){n:Nat}(hn:Tn T pl n){C:T5}(hCt:Nr C){yl:BD}(hy:cA C yl):∀ f xs H n0 t0 r U,BR pl (MM T pl n false yl) f xs H n0 t0=some (r,U)→Bf f∧∀(ρ:Bg)(M:Nat→Prop)(w:World)(vs:List Value),C ρ M w →
  CK ρ M (Di ρ w (lk H)) w t0 (lk H)→(∀ o p,ρ o=some p→o<n0)→t0+16≤n0→CH ρ M w xs vs →
  Calls Tryz.prog f vs.toArray w λe w'=>∃ v,e = .returned v∧BI ρ M (Di ρ w (lk H)) w t0 (lk H) U r v w':=by
 intro f xs H n0 t0 r U h;unfold BR at h;split at h
 ·cases h
 ·rename_i fn hfn
  split at h
  ·cases h
  ·rename_i c hc
   split at h
   ·rename_i hcond
    rw [Bool.and_eq_true] at hcond;refine ⟨hpl f (CB.1 hcond.1),λρ M w vs hC hs hd ht hv=>?_⟩;have hfn:Tryz.prog.funcs[f]? = some fn:=hfn;refine callsIn_wide.1 (callsIn_of_wp_marks (F:=Eo none) (n:=9) hfn hc trivial ?_);have hF:=SW (fn:=fn) hs hd hv;have hkk:∀ x b g c,lk H x=some b→ρ x=some (g,c)→g<w.heap.size:=λx b g c e1 e2=>PY hs.heap e1 e2
    have hfin:∀ s,WW H n0 t0 fn s=some (r,U)→∀ ρ' M' a' w',FS (Di ρ w (lk H)) w ρ M H n0 s ρ' M' a' w'→LeavesInM (Eo none) 9 Tryz.prog fn a'.tmps (λe w'=>∃ v,e = .returned v∧BI ρ M (Di ρ w (lk H)) w t0 (lk H) U r v w') a'.defers .returning w':=λs hf ρ' M' a' w' hF'=>by
     refine DN hs.fresh hkk a'.defers a' w' hF' rfl rfl λa2 w2 hF2 ht2=>?_
     unfold WW at hf;split at hf
     ·rename_i l hl
      split at hf
      ·rename_i r0 hr0
       obtain ⟨v,e1,e2⟩:=Eb hF2 hs.fresh hl hr0;rw [ht2] at e1;exact ⟨v,e1,v,rfl,KD hs hd hF2 e2 hf⟩
      ·cases hf
     ·cases hf
    split at h
    ·rename_i s hrun
     exact hn false yl c _ _ hrun C none (λ_=>rfl) hCt hy _ _ _ _ _ _ _ _ _ w _ hs.fresh hkk hC hF λρ' M' a' w' hF'=>hfin s h ρ' M' a' w' hF'
    ·rename_i s hrun
     exact hn false yl c _ _ hrun C none (λ_=>rfl) hCt hy _ _ _ _ _ _ _ _ _ w _ hs.fresh hkk hC hF λρ' M' a' w' hF'=>hfin s h ρ' M' a' w' hF'
    ·cases h
   ·cases h
theorem DK(hpl:∀ f∈pl,Bf f){n:Nat}(hn:Tn T pl n):B5 (BR pl (Dd T pl n)):=λf xs H n0 t0 r U h=>by
 obtain ⟨h1,h2⟩:=Kn hpl hn EG (iI _) f xs H n0 t0 r U h;exact ⟨h1,λρ M w vs=>h2 ρ M w vs trivial⟩
theorem xB {C:T5} {cf yl:BD} (h:∀ f xs H n0 t0 r U,cf f xs H n0 t0=some (r,U)→Bf f∧∀(ρ:Bg)(M:Nat→Prop)(w:World)(vs:List Value),C ρ M w →
 CK ρ M (Di ρ w (lk H)) w t0 (lk H)→(∀ o p,ρ o=some p→o<n0)→t0+16≤n0→CH ρ M w xs vs →
 Calls Tryz.prog f vs.toArray w λe w'=>∃ v,e = .returned v∧BI ρ M (Di ρ w (lk H)) w t0 (lk H) U r v w') (hy:cA C yl):Gj C (Qo cf yl):=⟨λf xs H n0 t0 r U hb e=>by
 unfold Qo at e;rw [if_pos hb] at e;exact h f xs H n0 t0 r U e,λy xs H n0 t0 r U e=>by
 unfold Qo at e;rw [Yw] at e;exact hy y xs H n0 t0 r U e⟩
def Ri(tm:List AV)(y:Nat)(ps:Array Tmp)(asg bd:Code):T5:=λρ M w=>∃ l c fn tmps D,ρ y=some (l,c) ∧ ¬ M l∧w.heap[l]? = some (.loop { state:=.ready,pending:=none,fn:=fn,tmps:=tmps,params:=ps,assign:=asg,body:=bd,defers:=D })∧tmps.size=tm.length∧∀(t:Nat)(x:AV),tm[t]? = some x→∃ v,tmps[t]? = some v∧RV ρ M w x v
theorem Uu{tm:List AV}{y:Nat}{ps:Array Tmp}{asg bd:Code}:Nr (Ri tm y ps asg bd):=λρ M w ρ' M' w' ⟨l,c,fn,tmps,D,h1,h2,h3,h4,h5⟩ ht =>
 ⟨l,c,fn,tmps,D,ht.ext _ _ h1,λh=>h2 (ht.mono l (AJ h3) h),(ht.keep l (AJ h3) h2).trans h3,h4,λt x e=>by obtain ⟨v,e1,e2⟩:=h5 t x e; exact ⟨v,e1,e2.st ht⟩⟩
theorem Ml{w:World}{ρ:Bg}{M:Nat→Prop}:∀{ps:List Tmp}{tm tm1 xs:List AV}{tmps:Array Value}{vs:List Value},UP tm ps xs=some tm1→CH ρ M w xs vs→tmps.size=tm.length→(∀(t:Nat)(x:AV),tm[t]? = some x→∃ v,tmps[t]? = some v∧RV ρ M w x v) →
  vs.length=ps.length∧((ps.zip vs).foldl (λt (p:Tmp × Value)=>t.setIfInBounds p.1 p.2) tmps).size=tm1.length∧∀(t:Nat)(x:AV),tm1[t]? = some x→∃ v,((ps.zip vs).foldl (λt (p:Tmp × Value)=>t.setIfInBounds p.1 p.2) tmps)[t]? = some v∧RV ρ M w x v
 | [],tm,tm1,[],tmps,vs,h,hv,hs,hg=>by
  unfold UP at h
  cases h
  have hv:vs=[]:=hv;subst hv;exact ⟨rfl,hs,hg⟩
 | p :: ps,tm,tm1,x :: xs,tmps,vs,h,hv,hs,hg=>by
  unfold UP at h;obtain ⟨v,r,rfl,h1,h2⟩:=hv;obtain ⟨k1,k2,k3⟩:=Ml (tmps:=tmps.setIfInBounds p v) h h2 (by simp [hs]) λt y e=>by
   rw [List.getElem?_set] at e
   by_cases hpt:p=t
   ·subst hpt
    rw [if_pos rfl] at e;split at e
    ·rename_i hlt
     cases e
     exact ⟨v,by rw [Array.getElem?_setIfInBounds_self_of_lt (by omega)],h1.rv⟩
    ·cases e
   ·rw [if_neg hpt] at e
    obtain ⟨u,e1,e2⟩:=hg t y e;exact ⟨u,by rw [Array.getElem?_setIfInBounds_ne hpt]; exact e1,e2⟩
  exact ⟨by simp [k1],k2,k3⟩
 | [],_,_,_ :: _,_,_,h,_,_,_=>by unfold UP at h; cases h
 | _ :: _,_,_,[],_,_,h,_,_,_=>by unfold UP at h; cases h
theorem fW{ps:Array Tmp}{vs:List Value}{tmps:Array Value}:(ps.zip vs.toArray).foldl (λt (p:Tmp × Value)=>t.setIfInBounds p.1 p.2) tmps=(ps.toList.zip vs).foldl (λt (p:Tmp × Value)=>t.setIfInBounds p.1 p.2) tmps:=by
 rw [← Array.foldl_toList];simp
theorem fZ{n:Nat}(hn:Tn T pl n){tm:List AV}{y:Nat}{ps:Array Tmp}{asg bd:Code}:cA (Ri tm y ps asg bd) (Qe (MM T pl n true N6) tm y ps.toList asg bd):=by
 intro k xs H n0 t0 r U h ρ M w vs ⟨l,c,fn,tmps,D,hρ,hM,hl,hsz,hsl⟩ hs hd ht hv;unfold Qe at h;split at h
 ·rename_i hk
  have hk:1000000+k=1000000+y:=Nat.eq_of_beq_eq_true hk;obtain rfl:k=y:=by omega
  split at h
  ·cases h
  ·rename_i tm1 htm
   split at h
   ·rename_i s2 h2
    split at h
    ·rename_i s3 h3
     obtain ⟨q1,q2,q3⟩:=Ml htm hv hsz hsl;have hyl:=run_yield (P:=Tryz.prog) (args:=vs.toArray) hl (by simp [q1]);rw [fW] at hyl;refine ⟨l,c,_,_,_,_,hρ,hyl,KY (μ:=none) (m:=9) (roundIn_of_wpIn trivial ?_)⟩;have hAl:¬ Di ρ w (lk H) l:=by
      rintro (h | ⟨o,bo,c,e1,e2⟩)
      ·have:=AJ hl; omega
      ·obtain ⟨g',c',arr,cs,k⟩:=hs.heap.obj o bo e1
       have:=k.at_;rw [e2] at this;have:l=g':=congrArg Prod.fst (Option.some.inj this);subst this;rw [k.blk] at hl
       cases hl
     have hkk:HB H ρ w:=λx b g c e1 e2=>PY hs.heap e1 e2
     have hF1:FS (Di ρ w (lk H)) w ρ M H n0 ⟨tm1,H,n0,[]⟩ ρ M { tmps:=(ps.toList.zip vs).foldl (λt (p:Tmp × Value)=>t.setIfInBounds p.1 p.2) tmps,defers:=[] } w:=
      ⟨q2,trivial,q3,hs.heap,hd,Nat.le_refl _,hs.bnd,NN.refl _ _,Tr.refl _ _ _,λ_ h=>h,λ_ h=>.inl h,λo p e=>.inl e,λo _ _=>⟨rfl,λ_ _ _ _ _=>rfl⟩⟩
     refine hn true N6 asg _ _ h2 Kp (some l) (λe=>by cases e) EG (iI _) _ _ _ _ _ _ _ _ _ w _ hs.fresh hkk trivial hF1 λρ2 M2 a2 w2 hF2=>?_
     have hl2:=(hF2.tr.keep l (AJ hl) hM).trans hl;refine ⟨_,run_beginRound hl2 rfl,?_⟩;have hF2':=hF2.turn0 (l:=l) (o:=.loop { state:=.busy,pending:=none,fn:=fn,tmps:=tmps,params:=ps,assign:=asg,body:=bd,defers:=D }) ⟨⟨_,hl,rfl⟩,rfl⟩ hAl hM;refine hn true N6 bd _ _ h3 Kp (some l) (λe=>by cases e) EG (iI _) _ _ _ _ _ _ _ _ _ _ _ (λb hb=>hs.fresh b (by rwa [World.putObj_size] at hb)) (λx b g c e1 e2=>by rw [World.putObj_size]; exact hkk x b g c e1 e2) trivial hF2' λρ3 M3 a3 w3 hF3=>?_
     have hl3:w3.heap[l]? = some (.loop { state:=.busy,pending:=none,fn:=fn,tmps:=tmps,params:=ps,assign:=asg,body:=bd,defers:=D }):=
      (hF3.tr.keep l (by rw [World.putObj_size]; exact AJ hl) hM).trans (World.putObj_heap_same (AJ hl))
     refine ⟨_,_,run_endRound none hl3,?_⟩;have hF4:=hF3.turn0 (l:=l) (o:=.loop { state:=.ready,pending:=none,fn:=fn,tmps:=tmps,params:=ps,assign:=asg,body:=bd,defers:=D }) ⟨⟨_,World.putObj_heap_same (AJ hl),rfl⟩,rfl⟩ hAl hM;have hback:(w.putObj l (.loop { state:=.busy,pending:=none,fn:=fn,tmps:=tmps,params:=ps,assign:=asg,body:=bd,defers:=D })).putObj l (.loop { state:=.ready,pending:=none,fn:=fn,tmps:=tmps,params:=ps,assign:=asg,body:=bd,defers:=D })=w:=by
      unfold World.putObj
      congr 1
      apply Array.ext_getElem?;intro i;simp only [Array.setIfInBounds_setIfInBounds]
      by_cases e:l=i
      ·subst e
       rw [Array.getElem?_setIfInBounds_self_of_lt (AJ hl),hl]
      ·rw [Array.getElem?_setIfInBounds_ne e]
     rw [hback] at hF4;exact ⟨.bool true,rfl,KD hs hd hF4 (show RV ρ3 M3 _ (.val (.bool true)) (.bool true) from rfl) h⟩
    ·cases h
   ·cases h
 ·cases h
theorem T4{μ:Option Nat}{c:Code}{Q:Exit→Act→World→Prop}(h:wpR μ c (Exit.noGoto Q) a w):wpR μ (Code.scope c) Q a w:=by
 intro b k cs hro hb hr;have s1:step Tryz.prog (lone (b.atR a (.code (.scope c) :: k)) cs w) = .next (lone (b.atR a (.code c :: .inScope c :: k)) cs w):=step_lone_go (by simp [stepG,stepG.exec,Frame.atR]);have s2:∀ a w,step Tryz.prog (lone (b.atR a (.inScope c :: k)) cs w) = .next (lone (b.atR a k) cs w):=λa w=>step_lone_go (by simp [stepG,stepG.exec,Frame.atR])
 have hf:∀ m,Machine.fenced Tryz.prog (Eo μ) m:=λm=>fenced_wide Tryz.prog m
 obtain ⟨e,a₁,w₁,hq,harr⟩:=h b (.inScope c :: k) cs hro hb hr;have hx:∀ id,exitTo id (.inScope c :: k)=exitTo id k:=λid=>by simp [exitTo]
 cases e with
 | normal=>exact ⟨.normal,a₁,w₁,hq,.head (hf _) s1 (StepsIn.trans harr (.one (hf _) (s2 _ _)))⟩
 | exit id=>exact ⟨.exit id,a₁,w₁,hq,λk' hk=>.head (hf _) s1 (harr.1 k' (by rw [hx]; exact hk)),λhr' hk=>let ⟨k₁,h1,h2⟩:=harr.2 hr' (by rw [hx]; exact hk); ⟨k₁,h1,.head (hf _) s1 h2⟩⟩
 | goto l=>exact hq.elim
 | ret=>exact ⟨_,a₁,w₁,hq,.of_steps (.one (hf _) s1) harr⟩
 | panic ch=>exact ⟨_,a₁,w₁,hq,.of_steps (.one (hf _) s1) harr⟩
 | outgrown=>exact ⟨_,a₁,w₁,hq,.of_steps (.one (hf _) s1) harr⟩
theorem qQ(hpl:∀ f∈pl,Bf f){n:Nat}(hn:Tn T pl n){t:Nat}{ps:Array Tmp}{asg bd:Code}{f:FuncId}{b:List AV}{p:AV × HP}(ht:s.tm[t]? = some (.fn f [] b))(hb:b.all Kt=true)(h:BR pl (MM T pl n false (Qe (MM T pl n true N6) s.tm s.nx ps.toList asg bd)) f (.yl s.nx :: b) s.H (s.nx+17) (s.nx+1)=some p)
  (hA:∀ b,W0.heap.size≤b→A b) (hF:FS A W0 ρ0 M0 H0 n0 s ρ M a w) (hH:∀ x b g c,lk H0 x=some b→ρ0 x=some (g,c)→g<W0.heap.size) {Q:Exit→Act→World→Prop} (hQ:∀ ρ M a w,FS A W0 ρ0 M0 H0 n0 ⟨s.tm,p.2 ++ s.H,s.nx+17,s.wr ++ p.2.map (·.1)⟩ ρ M a w→Q .normal a w):wpR none (.rangeFunc (.tmp t) ps asg bd) Q a w:=by
 obtain ⟨r,U⟩:=p;obtain ⟨v,e1,e2⟩:=hF.slots t _ ht;have e2:Rp ρ M w (.fn f [] b) [v]:=e2;unfold Rp at e2;obtain ⟨xs,ys,e2,hxs,hys⟩:=e2;unfold AQ at hxs;have hxs:xs = #[]:=Array.toList_inj.1 hxs;subst hxs;have e2:=(List.cons.inj e2).1;subst e2;obtain ⟨hplf,hcall⟩:=Kn hpl hn Uu (fZ hn) f _ _ _ _ _ _ h;refine wpIn_rangeFunc ?_;intro fn hfn
 let D:=w.heap.size
 let l:=w.heap.size+1
 let rec_:LoopState→Loop:=λst=>{ state:=st,pending:=none,fn:=fn,tmps:=a.tmps,params:=ps,assign:=asg,body:=bd,defers:=w.heap.size }
 obtain ⟨w1,hw1⟩:∃ w1,(w.alloc (.deferred (some []))).alloc (.loop (rec_ .ready))=w1:=⟨_,rfl⟩;have hsz:w1.heap.size=w.heap.size+2:=by rw [← hw1,World.size_alloc,World.size_alloc]
 have hL1:w1.heap[l]? = some (.loop (rec_ .ready)):=by
  rw [← hw1];have:=World.alloc_heap_new (w.alloc (.deferred (some []))) (.loop (rec_ .ready));rwa [World.size_alloc] at this
 have hD1:w1.heap[D]? = some (.deferred (some [])):=by
  rw [← hw1];exact (Below.heap_alloc _ _ _ (by simp [D])).trans (World.alloc_heap_new w _)
 have hbl:Below w.heap.size w w1:=by
  rw [← hw1];exact ((Below.refl _ w).alloc (Nat.le_refl _) _).alloc (by simp) _
 let ρ1:Bg:=λo=>if o=s.nx then some (l,0) else ρ o
 have hext:∀ o p,ρ o=some p→ρ1 o=some p:=λo p e=>by
  show (if o=s.nx then some (l,0) else ρ o)=some p;rw [if_neg (by have:=hF.dom o p e; omega)];exact e
 have hρ1:∀ o p,ρ1 o=some p→(o=s.nx) ∨ ρ o=some p:=λo p e=>by
  by_cases ho:o=s.nx
  ·exact .inl ho
  ·have:ρ1 o=ρ o:=if_neg ho
   exact .inr (by rw [← this]; exact e)
 have ht1:Tr ρ M w ρ1 M w1:=⟨Bt.of_below hbl,λb hb _=>hbl.block b hb,λ_ _ h=>h,hext⟩;have hRH1:RH ρ1 M A w1 (lk s.H):=hF.heap.st ht1 (λ_ h=>h) λo b g c q1 q2=>hbl.block g (PY hF.heap q1 q2)
 have hs1:CK ρ1 M A w1 (s.nx+1) (lk s.H):=⟨hRH1,λb hb=>by have:=hF.bnd b hb; omega,λo q1 q2=>by
  cases e:ρ1 o with
  | none=>rfl
  | some p =>
   rcases hρ1 o p e with h | h
   ·omega
   ·have:=hF.dom o p h; omega,λb hb=>hA b (by have:=hF.fr.size; omega)⟩
 have hs2:CK ρ1 M (Di ρ1 w1 (lk s.H)) w1 (s.nx+1) (lk s.H):=by
  refine ⟨⟨λo b e=>?_,hRH1.inj⟩,hs1.bnd,hs1.new,λb hb=>.inl hb⟩;obtain ⟨g,c,arr,cs,k⟩:=hRH1.obj o b e;exact ⟨g,c,arr,cs,k.at_,k.mut_,.inr ⟨o,b,c,e,k.at_⟩,k.blk,k.ty,k.cells,k.pre,k.cap⟩
 have hMl:∀ b,w.heap.size≤b → ¬ M b:=λb hb hm=>by have:=hF.bnd b hm; omega
 have hC1:Ri s.tm s.nx ps asg bd ρ1 M w1:=⟨l,0,fn,a.tmps,w.heap.size,if_pos rfl,hMl l (by omega),hL1,hF.size,λt x e=>by obtain ⟨u,q1,q2⟩:=hF.slots t x e; exact ⟨u,q1,q2.st ht1⟩⟩;have hargs:CH ρ1 M w1 (.yl s.nx :: b) (.func (.yield l) #[] #[] :: ys.toList):=by
  refine ⟨_,_,rfl,?_,(Jb hb hys).st ht1⟩;show Rp ρ1 M w1 (.yl s.nx) [_];unfold Rp;exact ⟨l,0,if_pos rfl,rfl⟩
 have hcall:=hcall ρ1 M w1 _ hC1 hs2 (λo p e=>(hρ1 o p e).elim (λh=>by omega) λh=>by have:=hF.dom o p h; omega) (by omega) hargs;refine ⟨l,[{ target:=.collected w.heap.size,args:=#[] }],w1,{ target:=.fn (.func f) ys,args:=#[.func (.yield l) #[] #[]] },w1,f,#[.func (.yield l) #[] #[]] ++ ys,w1,?_,?_,λ_ _=>trivial,?_,λe=>(by cases e),?_⟩
 ·rw [← hw1]
  exact run_enterLoop_outer _ _ _ _ _
 ·have hg:a.eval (.tmp t) = .func (.func f) #[] ys:=BZ e1
  simp only [resolve,hg];simp [go_sem]
 ·simp only [invoke]
  exact hplf _ _
 ·have harr:(.func (.yield l) #[] #[] :: ys.toList:List Value).toArray = #[.func (.yield l) #[] #[]] ++ ys:=by
   apply Array.ext';simp
  rw [← harr];refine CallsIn.mono (KN hcall) λe w3 he=>?_
  obtain ⟨v,rfl,hp⟩:=he;obtain ⟨ρ',M',ht3,_,hRH3,hdm,hsup,hmon,hbnd,hfr,hkp⟩:=Ku hs1 (λ_ _ e=>e) hp;have hM'l:∀ b,w.heap.size≤b→b<w1.heap.size → ¬ M' b:=λb h1 h2 hm=>by
   rcases hmon b hm with h | h
   ·exact hMl b h1 h
   ·omega
  have hl3:w3.heap[l]? = some (.loop (rec_ .ready)):=(ht3.keep l (by omega) (hMl l (by omega))).trans hL1;have hD3:w3.heap[D]? = some (.deferred (some [])):=(ht3.keep D (by omega) (hMl D (Nat.le_refl _))).trans hD1;refine ⟨none,_,run_endLoop hl3 (by simp [rec_]),?_⟩;have hmk3:Ys W0 M' w3 ({ target:=.collected D,args:=#[] } :: a.defers):=by
   refine ⟨⟨D,rfl,hF.fr.size,hM'l D (Nat.le_refl _) (by omega),hD3⟩,λhm=>?_,hF.defers.imp λD' q1 q2 q3 _=>⟨λhm=>?_,?_⟩⟩
   ·obtain ⟨D',e,hlt⟩:=hF.defers.lt _ hm
    simp only [Deferred.mk.injEq,Target.collected.injEq,and_true] at e;omega
   ·exact q3 (ht3.mono D' (by omega) hm)
   ·exact (ht3.keep D' (by omega) q3).trans (hbl.block D' q1)
  have hF3:FS A W0 ρ0 M0 H0 n0 ⟨s.tm,U ++ s.H,s.nx+17,s.wr ++ U.map (·.1)⟩ ρ' M' { a with defers:={ target:=.collected D,args:=#[] } :: a.defers } w3:=by
   refine ⟨hF.size,hmk3,λt x e=>?_,?_,λo p e=>?_,?_,hbnd,(hF.fr.trans (NN.below hbl)).trans hfr,(hF.tr.trans ht1).trans ht3,λb hb=>hsup b (hF.sup b hb),λb hb=>?_,λo p e=>?_,λo ho hw=>?_⟩
   ·obtain ⟨u,q1,q2⟩:=hF.slots t x e
    exact ⟨u,q1,(q2.st ht1).st ht3⟩
   ·have:lk (U ++ s.H)=CR (lk s.H) U:=funext λo=>CZ U s.H o
    show RH ρ' M' A w3 (lk (U ++ s.H));rw [this];exact hRH3
   ·show o<s.nx+17
    rcases hdm o p e with h | h
    ·rcases hρ1 o p h with h | h
     ·omega
     ·have:=hF.dom o p h; omega
    ·omega
   ·exact Nat.le_trans hF.nx (Nat.le_add_right _ _)
   ·rcases hmon b hb with h | h
    ·exact hF.mon b h
    ·have:=hF.fr.size
     exact .inr (by omega)
   ·rcases hdm o p e with h | h
    ·rcases hρ1 o p h with h | h
     ·have:=hF.nx
      exact .inr (by omega)
     ·exact hF.old o p h
    ·have:=hF.nx
     exact .inr (by omega)
   ·have hw1':∀ x∈s.wr,x≠o:=λx hx=>hw x (List.mem_append.2 (.inl hx))
    have hw2:∀ x∈U,x.1≠o:=λx hx=>hw x.1 (List.mem_append.2 (.inr (List.mem_map.2 ⟨x,hx,rfl⟩)))
    obtain ⟨q1,q2⟩:=hF.kp o ho hw1';refine ⟨?_,λb g c k1 k2=>?_⟩
    ·show lk (U ++ s.H) o=_
     rw [CZ,Jt hw2];exact q1
    ·refine ((hkp o b g c (q1.trans k1) hw2 (hext _ _ (hF.tr.ext _ _ k2))).trans (hbl.block g ?_)).trans (q2 b g c k1 k2)
     have:=hH o b g c k1 k2;have:=hF.fr.size;omega
  have hF4:=hF3.turn (l:=l) (o:=.loop (rec_ .exhausted)) ⟨⟨_,hl3,rfl⟩,rfl⟩ (hA l (by have:=hF.fr.size; omega)) (by have:=hF.fr.size; omega)
   (ds:={ target:=.collected D,args:=#[] } :: a.defers) (hmk3.imp λD' q1 q2 q3 ⟨d,hd,e⟩=>⟨q3,World.putObj_heap_other ?_⟩) λx b g c k1 k2 e=>?_
  ·exact hQ _ _ _ _ hF4
  ·rcases List.mem_cons.1 hd with rfl | hd
   ·simp only [Deferred.mk.injEq,Target.collected.injEq,and_true] at e
    omega
   ·obtain ⟨D2,e2,hlt⟩:=hF.defers.lt _ hd
    rw [e2] at e;simp only [Deferred.mk.injEq,Target.collected.injEq,and_true] at e;omega
  ·have:=hH x b g c k1 k2
   have:=hF.fr.size;omega
theorem EN(hT:EO T)(hpl:∀ f∈pl,Bf f):∀ n,Tn T pl n∧sF T pl n:=by
 intro n
 induction n with
 | zero=>exact ⟨λrd yl c s o h=>(by cases h),λrd yl c s o h=>(by cases h)⟩
 | succ n ih =>
  have hloop:sF T pl (n+1):=by
   intro rd yl c s o h;have h:Tg T pl (MM T pl n) rd yl (.loop c) s=some o:=h;simp only [Tg] at h;split at h
   ·rename_i s' hr
    obtain ⟨k,hk⟩:=ih.2 rd yl c s' o h;refine ⟨k+1,λC μ hμ hCt hy A W0 ρ0 M0 H0 n0 ρ M a w Q hA hH hC hF hQ=>?_⟩;rw [roundsIn_succ];exact ih.1 rd yl c s _ hr C μ hμ hCt hy A W0 ρ0 M0 H0 n0 ρ M a w _ hA hH hC hF λρ' M' a' w' hF'=>hk C μ hμ hCt hy A W0 ρ0 M0 H0 n0 ρ' M' a' w' Q hA hH hC hF' hQ
   ·rename_i hne
    refine ⟨1,λC μ hμ hCt hy A W0 ρ0 M0 H0 n0 ρ M a w Q hA hH hC hF hQ=>?_⟩;rw [roundsIn_succ];refine ih.1 rd yl c s _ h C μ hμ hCt hy A W0 ρ0 M0 H0 n0 ρ M a w _ hA hH hC hF ?_
    cases o with
    | fall s'=>exact absurd h (hne s')
    | ret s'=>exact hQ
    | exit m s'=>exact hQ
  refine ⟨?_,hloop⟩;intro rd yl c s o h C μ hμ hCt hy A W0 ρ0 M0 H0 n0 ρ M a w Q hA hH hC hF hQ;have h0:=h;have h:Tg T pl (MM T pl n) rd yl c s=some o:=h;unfold Tg at h;have go:∀{x:Code}{s:Fm}{o:RR}(h:MM T pl n rd yl x s=some o){ρ:Bg}{M:Nat→Prop}{a:Act}{w:World}{Q:Exit→Act→World→Prop},FS A W0 ρ0 M0 H0 n0 s ρ M a w→Aal A W0 ρ0 M0 H0 n0 Q o→wpR μ x Q a w:=fun {x s o} h {ρ M a w Q} hF hQ=>ih.1 rd yl _ _ _ h C μ hμ hCt hy A W0 ρ0 M0 H0 n0 ρ M a w Q hA hH hC hF hQ
  cases c with
  | skip=>cases h; exact wpIn_skip (hQ _ _ _ _ hF)
  | label l=>cases h; exact wpIn_label (hQ _ _ _ _ hF)
  | scope x=>exact T4 (go (x:=x) h hF (by cases o <;> exact hQ))
  | region i ops dr =>
   simp only [] at h;obtain ⟨s',hs',rfl⟩:=Option.map_eq_some_iff.1 h;refine Ik hT (xB (λf xs H n0 t0 r U e=>?_) hy) hCt hC hs' hA hF hQ;unfold orC at e;split at e
   ·rename_i p hp
    cases e
    obtain ⟨k1,k2⟩:=hT.call f xs H n0 t0 r U hp;exact ⟨k1,λρ M w vs _=>k2 ρ M w vs⟩
   ·exact Kn hpl ih.1 hCt hy f xs H n0 t0 r U e
  | seq x y =>
   simp only [] at h;split at h
   ·rename_i s' hr
    exact wpIn_seq (go hr hF λρ' M' a' w' hF'=>go h hF' hQ)
   ·rename_i hne
    refine wpIn_seq (go h hF ?_)
    cases o with
    | fall s'=>exact absurd h (hne s')
    | ret s'=>exact hQ
    | exit m s'=>exact hQ
  | cond t x y =>
   cases t with
   | tmp t =>
    simp only [] at h;split at h
    ·rename_i ht
     obtain ⟨v,e1,e2⟩:=hF.slots t _ ht;have e2:v = .bool true:=e2;exact wpIn_cond_true (by rw [BZ e1,e2]) (go h hF hQ)
    ·rename_i ht
     obtain ⟨v,e1,e2⟩:=hF.slots t _ ht;have e2:v = .bool false:=e2;exact wpIn_cond_false (by rw [BZ e1,e2]) (go h hF hQ)
    ·cases h
   | const v =>
    cases v with
    | bool b =>
     simp only [] at h
     cases b with
     | true=>exact wpIn_cond_true rfl (go (x:=x) (by simpa using h) hF hQ)
     | false=>exact wpIn_cond_false rfl (go (x:=y) (by simpa using h) hF hQ)
    | _=>cases h
   | _=>cases h
  | block i x =>
   simp only [] at h;refine wpIn_block ?_;split at h
   ·rename_i m s' hr
    refine go hr hF λρ' M' a' w' hF'=>?_
    show if m=i then Q .normal a' w' else Q (.exit m) a' w'
    split at h
    ·rename_i e
     have e:=Nat.eq_of_beq_eq_true e
     cases h
     rw [if_pos e];exact hQ _ _ _ _ hF'
    ·rename_i e
     cases h
     rw [if_neg λh=>e (by rw [h]; exact Nat.beq_refl i)];exact hQ _ _ _ _ hF'
   ·rename_i hne
    refine go h hF ?_
    cases o with
    | fall s'=>exact hQ
    | ret s'=>exact hQ
    | exit m s'=>exact absurd h (hne m s')
  | loop x =>
   obtain ⟨k,hk⟩:=hloop rd yl x s o h0;exact wpIn_loop_rounds k (hk C μ hμ hCt hy A W0 ρ0 M0 H0 n0 ρ M a w Q hA hH hC hF hQ)
  | exit i=>cases h; exact wpIn_exit (hQ _ _ _ _ hF)
  | ret=>cases h; exact wpIn_ret (hQ _ _ _ _ hF)
  | rangeFunc g ps asg bd =>
   cases g with
   | tmp t =>
    simp only [] at h;split at h
    ·rename_i f b ht _
     split at h
     ·rename_i hb
      rw [Bool.and_eq_true] at hb;split at h
      ·rename_i p hp
       cases h
       obtain rfl:=hμ rfl;exact qQ hpl ih.1 ht hb.1 hp hA hF hH hQ
      ·cases h
     ·cases h
    ·cases h
   | _=>cases h
  | _=>cases h
end
end
end
section
def agL:AV→Bool
 | .num _ | .rat _ | .ext _ true _=>true
 | _=>false
def Ft:AV→AV→Bool
 | .val (.int .i64 a),.val (.int .i64 b)=>decide (a=b)
 | .val (.bool a),.val (.bool b)=>decide (a=b)
 | .val (.slice none a b),.val (.slice none c d)=>Nat.beq a c && Nat.beq b d
 | .num a,.num b=>decide (a=b)
 | .rat a,.rat b=>decide (a=b)
 | .ext n g c,.ext n' g' c'=>Nat.beq n n' && decide (g=g') && CE.beq c c'
 | _,_=>false
theorem FN{a b:AV}(h:Ft a b=true):a=b:=by
  unfold Ft at h
  split at h <;> first
    | (cases h; done)
    | (rw [of_decide_eq_true h]; done)
    | (rw [Bool.and_eq_true] at h; rw [Nat.eq_of_beq_eq_true h.1,Nat.eq_of_beq_eq_true h.2]; done)
    | (rw [Bool.and_eq_true,Bool.and_eq_true] at h
       rw [Nat.eq_of_beq_eq_true h.1.1,of_decide_eq_true h.1.2,CE.beq_eq h.2])
structure Rd where
 vs:List (AV × AV)
 ns:List (CE × CE)
 bs:List (CE × CE)
 rest:List (Nat × CE × CE × CE)
 rp:List Nat
 nx:Nat
def Rd.out(d:Rd):List Nat:=d.rest.map (·.1) ++ d.rp
def Rd.keep(d:Rd)(o:Nat):Bool:=Nat.blt o d.nx && !(memN o d.out)
def okP(L:List (AV × AV))(a b:AV):Bool:=decide (agL a=agL b) && L.any λp=>Ft p.1 a && Ft p.2 b
def okE(L:List (CE × CE))(a b:CE):Bool:=L.any λp=>CE.beq p.1 a && CE.beq p.2 b
def Aeu:Option Nat→Option Nat→Bool
 | some a,some b=>Nat.beq a b
 | none,none=>true
 | _,_=>false
theorem AaC{a b:Option Nat}(h:Aeu a b=true):a=b:=by
 unfold Aeu at h;split at h
 ·rw [Nat.eq_of_beq_eq_true h]
 ·rfl
 ·cases h
mutual
def wkC(d:Rd)(H:HP):AV→AV→Bool
 | .ptr o a,.ptr o' b=>Nat.beq o o' && Nat.beq a b && d.keep o
 | .ptr o a,.rptr l=>Nat.beq a 0 && memN o d.rp && (match lk H o with
  | some b=>b.bl.isNone && Me d H b.cs l
  | none=>false)
 | .sl o a n c,.sl o' a' n' c'=>Nat.beq o o' && Nat.beq a a' && Nat.beq n n' && Aeu c c' && d.keep o
 | .slx o c,.slx o' c'=>Nat.beq o o' && d.keep o && okE d.ns c c'
 | .slx o c,.ext 1 false c'=>d.rest.any λp=>Nat.beq p.1 o && CE.beq p.2.1 c && CE.beq p.2.2.2 c'
 | .fn f a b,.fn f' a' b'=>Nat.beq f f' && Me d H a a' && Me d H b b'
 | .rptr l,.rptr l'=>Me d H l l'
 | .val (.slice none n c),.val (.slice none n' c')=>Nat.beq n n' && Nat.beq c c'
 | a,b=>okP d.vs a b
termination_by structural _ b=>b
def Me(d:Rd)(H:HP):List AV→List AV→Bool
 | [],[]=>true
 | a :: l,b :: m=>wkC d H a b && Me d H l m
 | _,_=>false
termination_by structural _ b=>b
end
def wkV(d:Rd)(H:HP)(a:AV):AV→Bool
 | .any=>true
 | .agg m=>(match a with
  | .agg l=>Me d H l m
  | _=>false)
 | b=>wkC d H a b
def MZ(d:Rd)(H:HP):List AV→List AV→Bool
 | [],[]=>true
 | a :: l,b :: m=>wkV d H a b && MZ d H l m
 | _,_=>false
def wkB(d:Rd)(H:HP)(b b':OB):Bool:=Nat.beq b.ty b'.ty && Nat.beq b.k b'.k && decide (b.room=b'.room) && (match b.bl,b'.bl with
 | none,none=>Me d H b.cs b'.cs
 | some c,some c'=>okE d.bs c c'
 | _,_=>false)
def wkH(d:Rd)(H:HP):HP→Bool
 | []=>true
 | (_,none) :: r=>wkH d H r
 | (o,some b') :: r=>d.keep o && (match lk H o with | some b=>wkB d H b b' | none=>false) && wkH d H r
def wkR(n0:Nat)(H:HP):List (Nat × CE × CE × CE)→Bool
 | []=>true
 | (o,_,c,_) :: r=>Nat.ble n0 o && (match lk H o with | some b=>(match b.bl with | some c'=>CE.beq c c' | none=>false) | none=>false) && wkR n0 H r
def wkP(n0:Nat)(H:HP):List Nat→Bool
 | []=>true
 | o :: r=>Nat.ble n0 o && (match lk H o with | some b=>b.bl.isNone | none=>false) && wkP n0 H r
def below(n0:Nat)(H:HP):HP:=H.filter λx=>Nat.blt x.1 n0
def iJ(d:Rd)(n0:Nat)(s s':Fm):Bool:=MZ d s.H s.tm s'.tm && wkH d s.H s'.H && wkR n0 s.H d.rest && wkP n0 s.H d.rp && Nat.beq s'.nx d.nx && Nat.ble n0 d.nx
def wkF(d:Rd)(n0:Nat)(s s':Fm):Bool:=iJ d n0 s s' && s.wr.all λx=>Nat.ble n0 x
structure K5 (E E':Cd) (d:Rd):Prop where
 vs:∀ p∈d.vs,∀(ρ ρ':Bg)(M:Nat→Prop)(w:World)(cs:List Value),@Rp E ρ M w p.1 cs → @Rp E' ρ' M w p.2 cs
 ns:∀ p∈d.ns,E.N p.1=E'.N p.2
 bs:∀ p∈d.bs,∀(M:Nat→Prop)(w:World)(cs:List Value),(E.B p.1).p M w cs→(E'.B p.2).p M w cs
 rest:∀ p∈d.rest,∀(M:Nat→Prop)(w:World)(g k:Nat)(cs:List Value),¬ M g→g<w.heap.size→w.rangeAt g 0 cs→(E.B p.2.2.1).p M w cs→E.N p.2.1≤k→(E'.X p.2.2.2).p M w [.slice (some ⟨g,0,none⟩) (E.N p.2.1) k]
def Kq(d:Rd)(ρ:Bg):Bg:=λo=>if d.keep o then ρ o else none
def Jj(d:Rd)(ρ:Bg)(M:Nat→Prop)(b:Nat):Prop:=M b∧∀ o c,memN o d.out=true→ρ o≠some (b,c)
section
variable {E E' : Cd} {d : Rd} {ρ : Bg} {M A : Nat → Prop} {w : World}
theorem oO(E:Cd){p:Nat × CE × CE × CE}(h:p∈d.rest):memN p.1 d.out=true:=(@CB E _ _).2 (List.mem_append.2 (.inl (List.mem_map.2 ⟨p,h,rfl⟩)))
theorem Ac3(E:Cd){o:Nat}(h:memN o d.rp=true):memN o d.out=true:=(@CB E _ _).2 (List.mem_append.2 (.inr ((@CB E _ _).1 h)))
theorem uS:Tr ρ M w ρ (Jj d ρ M) w:=⟨Bt.refl w,λ_ _ _=>rfl,λ_ _ h=>h.1,λ_ _ h=>h⟩
theorem cP{a b:AV}(h:Ft a b=true){ρ ρ':Bg}{cs:List Value}(r:@Rp E ρ M w b cs):@Rp E ρ' M w b cs:=by
 unfold Ft at h;split at h <;> first
  | (cases h; done)
  | (unfold Rp at r ⊢; exact r)
theorem JU(hd:K5 E E' d){a b:AV}(h:okP d.vs a b=true){cs:List Value}(r:@Rp E ρ M w a cs):@Rp E' (Kq d ρ) (Jj d ρ M) w b cs:=by
 unfold okP at h;rw [Bool.and_eq_true] at h;obtain ⟨p,hp,h⟩:=List.any_eq_true.1 h.2;rw [Bool.and_eq_true] at h;have e1:=FN h.1;have e2:=FN h.2;have r1:=hd.vs p hp ρ ρ M w cs (e1 ▸ r);rw [e2] at r1;exact @cP E' (Jj d ρ M) w _ _ h.2 ρ _ cs (@Rp.st E' ρ ρ M (Jj d ρ M) w w uS b cs r1)
theorem Ht{o:Nat}(h:d.keep o=true):Kq d ρ o=ρ o:=by unfold Kq; rw [if_pos h]
def Mp(E:Cd)(d:Rd)(H:HP)(ρ:Bg)(M:Nat→Prop)(w:World):Prop:=(∀ p∈d.rest,∀ g c,ρ p.1=some (g,c)→∃ cs,g<w.heap.size∧w.rangeAt g 0 cs∧(E.B p.2.2.1).p (Jj d ρ M) w cs) ∧
 ∀ o b g c,memN o d.rp=true→lk H o=some b→b.bl.isNone=true→ρ o=some (g,c)→∃ cs,g<w.heap.size∧w.rangeAt g 0 cs ∧ @AQ E ρ M w b.cs cs
mutual
theorem Dq{H:HP}(hd:K5 E E' d)(hr:Mp E d H ρ M w):∀(a b:AV)(cs:List Value),wkC d H a b=true → @Rp E ρ M w a cs → @Rp E' (Kq d ρ) (Jj d ρ M) w b cs:=by
 intro a b cs h r;unfold wkC at h;split at h
 ·rw [Bool.and_eq_true,Bool.and_eq_true] at h
  have e1:=Nat.eq_of_beq_eq_true h.1.1;have e2:=Nat.eq_of_beq_eq_true h.1.2;subst e1;subst e2;unfold Rp at r ⊢;rw [Ht h.2];exact r
 ·rename_i o a l
  rw [Bool.and_eq_true,Bool.and_eq_true] at h;have e0:=Nat.eq_of_beq_eq_true h.1.1;subst e0;have h2:=h.2;split at h2
  ·rename_i b hb
   rw [Bool.and_eq_true] at h2;unfold Rp at r ⊢;obtain ⟨g,c,q1,rfl⟩:=r;obtain ⟨xs,k1,k2,k3⟩:=hr.2 o b g c h.1.2 hb h2.1 q1;exact ⟨g,0,xs,rfl,λhm=>hm.2 o c (Ac3 E h.1.2) q1,k1,k2,Dh hd hr b.cs l xs h2.2 k3⟩
  ·cases h2
 ·simp only [Bool.and_eq_true] at h
  obtain ⟨⟨⟨⟨h1,h2⟩,h3⟩,h4⟩,h5⟩:=h;have e1:=Nat.eq_of_beq_eq_true h1;have e2:=Nat.eq_of_beq_eq_true h2;have e3:=Nat.eq_of_beq_eq_true h3;have e4:=AaC h4;subst e1;subst e2;subst e3;subst e4;unfold Rp at r ⊢;rw [Ht h5];exact r
 ·simp only [Bool.and_eq_true] at h
  obtain ⟨⟨h1,h2⟩,h3⟩:=h;have e1:=Nat.eq_of_beq_eq_true h1;subst e1;obtain ⟨p,hp,h3⟩:=List.any_eq_true.1 h3;rw [Bool.and_eq_true] at h3;have e2:=CE.beq_eq h3.1;have e3:=CE.beq_eq h3.2;have hn:=hd.ns p hp;rw [e2,e3] at hn;unfold Rp at r ⊢;rw [Ht h2,← hn];exact r
 ·rename_i o c c'
  obtain ⟨p,hp,h⟩:=List.any_eq_true.1 h;simp only [Bool.and_eq_true] at h;obtain ⟨⟨h1,h2⟩,h3⟩:=h;have e1:=Nat.eq_of_beq_eq_true h1;have e2:=CE.beq_eq h2;have e3:=CE.beq_eq h3;subst e1;subst e2;subst e3;unfold Rp at r ⊢;obtain ⟨g,k,cc,q1,rfl,q3⟩:=r;obtain ⟨xs,k1,k2,k3⟩:=hr.1 p hp g cc q1;refine ⟨rfl,hd.rest p hp (Jj d ρ M) w g k xs ?_ k1 k2 k3 q3⟩;intro hm;exact hm.2 p.1 cc (oO E hp) q1
 ·rename_i f a1 b1 f' a2 b2
  rw [Bool.and_eq_true,Bool.and_eq_true] at h;have e1:=Nat.eq_of_beq_eq_true h.1.1;subst e1;unfold Rp at r ⊢;obtain ⟨xs,ys,e,r1,r2⟩:=r;exact ⟨xs,ys,e,Dh hd hr a1 a2 _ h.1.2 r1,Dh hd hr b1 b2 _ h.2 r2⟩
 ·rename_i l l'
  unfold Rp at r ⊢;obtain ⟨g,off,xs,e,m,sz,ra,rc⟩:=r;exact ⟨g,off,xs,e,λk=>m k.1,sz,ra,Dh hd hr l l' xs h rc⟩
 ·rw [Bool.and_eq_true] at h
  have e1:=Nat.eq_of_beq_eq_true h.1;have e2:=Nat.eq_of_beq_eq_true h.2;subst e1;subst e2;unfold Rp at r ⊢;exact r
 ·exact JU hd h r
theorem Dh{H:HP}(hd:K5 E E' d)(hr:Mp E d H ρ M w):∀(l m:List AV)(cs:List Value),Me d H l m=true → @AQ E ρ M w l cs → @AQ E' (Kq d ρ) (Jj d ρ M) w m cs:=by
 intro l m cs h r
 match l,m with
 | [],[]=>unfold AQ at r ⊢; exact r
 | a :: l,b :: m =>
  unfold Me at h;rw [Bool.and_eq_true] at h;unfold AQ at r ⊢;obtain ⟨x,y,e,r1,r2⟩:=r;exact ⟨x,y,e,Dq hd hr a b x h.1 r1,Dh hd hr l m y h.2 r2⟩
 | [],_ :: _=>unfold Me at h; cases h
 | _ :: _,[]=>unfold Me at h; cases h
end
end
end
section
variable {E E' : Cd} {d : Rd} {ρ : Bg} {M A : Nat → Prop} {w : World}
theorem yC{p a:AV}(h:Ft p a=true){v:Value}(r:@RV E ρ M w a v):(agL a=false ∧ @Rp E ρ M w a [v]) ∨ (agL a=true∧∃ cs,v = .agg cs ∧ @Rp E ρ M w a cs.toList):=by
 unfold Ft at h;split at h <;> first | (cases h; done) | skip
 ·have r:v=_:=r
  subst r;exact .inl ⟨rfl,by unfold Rp; exact ⟨rfl,rfl⟩⟩
 ·have r:v=_:=r
  subst r;exact .inl ⟨rfl,by unfold Rp; exact ⟨rfl,rfl⟩⟩
 ·have r:v=_:=r
  subst r;exact .inl ⟨rfl,by unfold Rp; exact ⟨rfl,rfl⟩⟩
 ·exact .inr ⟨rfl,r⟩
 ·exact .inr ⟨rfl,r⟩
 ·rename_i g' c'
  cases g' with
  | true=>exact .inr ⟨rfl,r⟩
  | false=>exact .inl ⟨rfl,r⟩
theorem qF{p b:AV}(h:Ft p b=true){v:Value}(r:(agL b=false ∧ @Rp E ρ M w b [v]) ∨ (agL b=true∧∃ cs,v = .agg cs ∧ @Rp E ρ M w b cs.toList)):@RV E ρ M w b v:=by
 unfold Ft at h;split at h <;> first | (cases h; done) | skip
 ·rcases r with ⟨_,r⟩ | ⟨e,_⟩
  ·unfold Rp at r
   exact (List.cons.inj r.1).1
  ·cases e
 ·rcases r with ⟨_,r⟩ | ⟨e,_⟩
  ·unfold Rp at r
   exact (List.cons.inj r.1).1
  ·cases e
 ·rcases r with ⟨_,r⟩ | ⟨e,_⟩
  ·unfold Rp at r
   exact (List.cons.inj r.1).1
  ·cases e
 ·rcases r with ⟨e,_⟩ | ⟨_,r⟩
  ·cases e
  ·exact r
 ·rcases r with ⟨e,_⟩ | ⟨_,r⟩
  ·cases e
  ·exact r
 ·rename_i g' c'
  cases g' with
  | true =>
   rcases r with ⟨e,_⟩ | ⟨_,r⟩
   ·cases e
   ·exact r
  | false =>
   rcases r with ⟨_,r⟩ | ⟨e,_⟩
   ·exact r
   ·cases e
theorem Adr{H:HP}(hd:K5 E E' d)(hr:Mp E d H ρ M w){a b:AV}{v:Value}(h:wkC d H a b=true)(r:@RV E ρ M w a v):@RV E' (Kq d ρ) (Jj d ρ M) w b v:=by
 have h0:=h;unfold wkC at h;split at h
 ·exact Dq hd hr _ _ [v] h0 r
 ·exact Dq hd hr _ _ [v] h0 r
 ·exact Dq hd hr _ _ [v] h0 r
 ·exact Dq hd hr _ _ [v] h0 r
 ·exact Dq hd hr _ _ [v] h0 r
 ·exact Dq hd hr _ _ [v] h0 r
 ·exact Dq hd hr _ _ [v] h0 r
 ·rw [Bool.and_eq_true] at h
  have e1:=Nat.eq_of_beq_eq_true h.1;have e2:=Nat.eq_of_beq_eq_true h.2;subst e1;subst e2;exact r
 ·have h1:=h
  unfold okP at h1;rw [Bool.and_eq_true] at h1;have he:=of_decide_eq_true h1.1;obtain ⟨p,hp,h2⟩:=List.any_eq_true.1 h1.2;rw [Bool.and_eq_true] at h2;refine qF (E:=E') h2.2 ?_
  rcases yC (E:=E) h2.1 r with ⟨e,r⟩ | ⟨e,cs,ev,r⟩
  ·exact .inl ⟨he ▸ e,JU hd h r⟩
  ·exact .inr ⟨he ▸ e,cs,ev,JU hd h r⟩
theorem AdK{H:HP}(hd:K5 E E' d)(hr:Mp E d H ρ M w){a b:AV}{v:Value}(h:wkV d H a b=true)(r:@RV E ρ M w a v):@RV E' (Kq d ρ) (Jj d ρ M) w b v:=by
 unfold wkV at h;split at h
 ·exact True.intro
 ·split at h
  ·obtain ⟨cs,e,r⟩:=r
   exact ⟨cs,e,Dh hd hr _ _ _ h r⟩
  ·cases h
 ·exact Adr hd hr h r
theorem TN(d:Rd)(H:HP):∀{l m:List AV}{t:Nat}{x':AV},MZ d H l m=true→m[t]? = some x'→∃ x,l[t]? = some x∧wkV d H x x'=true
 | [],[],_,_,_,e=>by cases e
 | a :: l,b :: m,0,x',h,e=>by
  unfold MZ at h;rw [Bool.and_eq_true] at h
  cases e
  exact ⟨a,rfl,h.1⟩
 | a :: l,b :: m,t+1,x',h,e=>by
  unfold MZ at h;rw [Bool.and_eq_true] at h;exact TN d H (t:=t) h.2 (by simpa using e)
 | [],_ :: _,_,_,h,_=>by unfold MZ at h; cases h
 | _ :: _,[],_,_,h,_=>by unfold MZ at h; cases h
theorem TC(d:Rd)(H:HP):∀{l m:List AV},MZ d H l m=true→m.length=l.length
 | [],[],_=>rfl
 | a :: l,b :: m,h=>by
  unfold MZ at h;rw [Bool.and_eq_true] at h;rw [List.length_cons,List.length_cons,TC d H h.2]
 | [],_ :: _,h=>by unfold MZ at h; cases h
 | _ :: _,[],h=>by unfold MZ at h; cases h
theorem Jv(d:Rd)(H:HP):∀{H':HP}{o:Nat}{b':OB},wkH d H H'=true→lk H' o=some b'→d.keep o=true∧∃ b,lk H o=some b∧wkB d H b b'=true
 | [],_,_,_,e=>by cases e
 | (x,none) :: r,o,b',h,e=>by
  unfold wkH at h;unfold lk at e;split at e
  ·cases e
  ·exact Jv d H h e
 | (x,some c) :: r,o,b',h,e=>by
  unfold wkH at h;rw [Bool.and_eq_true,Bool.and_eq_true] at h;unfold lk at e;split at e
  ·rename_i hx
   have hx:=Nat.eq_of_beq_eq_true hx;subst hx
   cases e
   refine ⟨h.1.1,?_⟩;have h2:=h.1.2;split at h2
   ·rename_i b hb
    exact ⟨b,hb,h2⟩
   ·cases h2
  ·exact Jv d H h.2 e
theorem LD{n0:Nat}{H:HP}:∀{l:List (Nat × CE × CE × CE)}{p:Nat × CE × CE × CE},wkR n0 H l=true→p∈l→n0≤p.1∧∃ b,lk H p.1=some b∧b.bl=some p.2.2.1
 | [],_,_,hp=>by cases hp
 | (o,c1,c2,c3) :: r,p,h,hp=>by
  unfold wkR at h;rw [Bool.and_eq_true,Bool.and_eq_true] at h
  rcases List.mem_cons.1 hp with rfl | hp
  ·refine ⟨Nat.le_of_ble_eq_true h.1.1,?_⟩
   have h2:=h.1.2;split at h2
   ·rename_i b hb
    split at h2
    ·rename_i c hc
     have:=CE.beq_eq h2;exact ⟨b,hb,by rw [hc,← this]⟩
    ·cases h2
   ·cases h2
  ·exact LD h.2 hp
theorem QS{n0:Nat}{H:HP}:∀{l:List Nat}{o:Nat},wkP n0 H l=true→o∈l→n0≤o∧∃ b,lk H o=some b∧b.bl.isNone=true
 | [],_,_,hp=>by cases hp
 | x :: r,o,h,hp=>by
  unfold wkP at h;rw [Bool.and_eq_true,Bool.and_eq_true] at h
  rcases List.mem_cons.1 hp with rfl | hp
  ·refine ⟨Nat.le_of_ble_eq_true h.1.1,?_⟩
   have h2:=h.1.2;split at h2
   ·rename_i b hb
    exact ⟨b,hb,h2⟩
   ·cases h2
  ·exact QS h.2 hp
theorem FW{n0 o:Nat}(ho:o<n0):∀{H:HP},lk (below n0 H) o=lk H o
 | []=>rfl
 | (x,e) :: r=>by
  unfold below;rw [List.filter_cons];split
  ·unfold lk
   rw [show lk (List.filter (λx=>Nat.blt x.1 n0) r) o=lk r o from FW ho]
  ·rename_i hx
   have hne:¬ Nat.beq x o=true:=λe=>by
    have:=Nat.eq_of_beq_eq_true e;subst this;exact hx (Nat.ble_eq_true_of_le ho)
   rw [show lk ((x,e) :: r) o=lk r o by simp only [lk]; rw [if_neg hne]];exact FW ho
theorem FS.moveG{W0:World}{ρ0:Bg}{M0:Nat→Prop}{H0:HP}{n0:Nat}{s s':Fm}{a:Act}(hd:K5 E E' d)(hr0:∀ o p,ρ0 o=some p→o<n0)(hout:∀ o b c,memN o d.out=true→ρ o=some (b,c) → ¬ M0 b)
  (h:iJ d n0 s s'=true) (hW:∀ o,o<n0→(∀ x∈s'.wr,x≠o)→(∀ x∈s.wr,x≠o)∧lk s'.H o=lk s.H o) (hF:@FS E A W0 ρ0 M0 H0 n0 s ρ M a w):@FS E' A W0 ρ0 M0 H0 n0 s' (Kq d ρ) (Jj d ρ M) a w:=by
 unfold iJ at h;obtain ⟨Fsize,Fdef,Fslots,⟨Fobj,Finj⟩,Fdom,Fnx,Fbnd,Ffr,Ftr,Fsup,Fmon,Fold,Fkp⟩:=hF;simp only [Bool.and_eq_true] at h;obtain ⟨⟨⟨⟨⟨h1,h2⟩,h3⟩,h7⟩,h4⟩,h5⟩:=h;have h4:=Nat.eq_of_beq_eq_true h4;have h5:=Nat.le_of_ble_eq_true h5;have hrest:∀ o,memN o d.out=true→n0≤o∧∃ b,lk s.H o=some b:=λo hm=>by
  rcases List.mem_append.1 ((@CB E _ _).1 hm) with hm | hm
  ·obtain ⟨p,hp,rfl⟩:=List.mem_map.1 hm
   obtain ⟨k1,b,k2,_⟩:=LD h3 hp;exact ⟨k1,b,k2⟩
  ·obtain ⟨k1,b,k2,_⟩:=QS h7 hm
   exact ⟨k1,b,k2⟩
 have hro:Mp E d s.H ρ M w:=⟨λp hp g c hg=>by
  obtain ⟨k1,b,k2,k3⟩:=LD h3 hp;obtain ⟨g',c',arr,cs,⟨k_at,k_mut,k_own,k_blk,k_ty,k_cells,k_pre,k_cap⟩⟩:=Fobj p.1 b k2;have:=k_at;rw [hg] at this;simp only [Option.some.injEq,Prod.mk.injEq] at this;obtain ⟨tl,he,_⟩:=k_pre;have hc:=k_cells;unfold Bv at hc;rw [k3] at hc;refine ⟨cs,this.1 ▸ AJ k_blk,this.1 ▸ @EE E w arr b.ty g' cs tl k_blk he,?_⟩;exact (E.B p.2.2.1).st M (Jj d ρ M) w w cs (Bt.refl w) (λ_ _ _=>.inl rfl) (λ_ _ h=>h.1) hc,λo b g c _ hb hn hg=>by
  obtain ⟨g',c',arr,cs,⟨k_at,k_mut,k_own,k_blk,k_ty,k_cells,k_pre,k_cap⟩⟩:=Fobj o b hb;have:=k_at;rw [hg] at this;simp only [Option.some.injEq,Prod.mk.injEq] at this;obtain ⟨tl,he,_⟩:=k_pre;exact ⟨cs,this.1 ▸ AJ k_blk,this.1 ▸ @EE E w arr b.ty g' cs tl k_blk he,@Bv.rps E ρ M w b cs k_cells (Option.isNone_iff_eq_none.1 hn)⟩⟩
 have hkeep:∀{o},d.keep o=true→o<d.nx∧memN o d.out=false:=fun {o} hk=>by
  unfold Rd.keep at hk;rw [Bool.and_eq_true,Bool.not_eq_true'] at hk;exact ⟨Nat.le_of_ble_eq_true hk.1,hk.2⟩
 have hext:∀ o p,ρ0 o=some p→Kq d ρ o=some p:=λo p e=>by
  have ho:=hr0 o p e;unfold Kq;rw [if_pos,Ftr.ext o p e];unfold Rd.keep;rw [Bool.and_eq_true,Bool.not_eq_true'];refine ⟨Nat.ble_eq_true_of_le (by show o+1≤d.nx; omega),?_⟩
  cases hm:memN o d.out with
  | false=>rfl
  | true=>have:=(hrest o hm).1; omega
 refine ⟨?_,Fdef.imp λD _ _ h3 _=>⟨λhm=>h3 hm.1,rfl⟩,λt x' e=>?_,⟨λo b' e=>?_,λo o' b b' g c c' e e' r r'=>?_⟩,λo p e=>?_,?_,λb hb=>Fbnd b hb.1,Ffr,⟨Ftr.grow,Ftr.keep,λb hb hm=>Ftr.mono b hb hm.1,hext⟩,λb hb=>⟨Fsup b hb,λo c hm hg=>?_⟩,λb hb=>Fmon b hb.1,λo p e=>?_,λo ho hw=>?_⟩
 ·rw [Fsize,TC d s.H h1]
 ·obtain ⟨x,e1,e2⟩:=TN d s.H h1 e
  obtain ⟨v,e3,e4⟩:=Fslots t x e1;exact ⟨v,e3,AdK hd hro e2 e4⟩
 ·obtain ⟨k0,b,k1,k2⟩:=Jv d s.H h2 e
  obtain ⟨g,c,arr,cs,⟨k_at,k_mut,k_own,k_blk,k_ty,k_cells,k_pre,k_cap⟩⟩:=Fobj o b k1;unfold wkB at k2;simp only [Bool.and_eq_true] at k2;obtain ⟨⟨⟨q1,q2⟩,q3⟩,q4⟩:=k2;have q1:=Nat.eq_of_beq_eq_true q1;have q2:=Nat.eq_of_beq_eq_true q2;have q3:=of_decide_eq_true q3;refine ⟨g,c,arr,cs,(Ht k0).trans k_at,⟨k_mut,λo1 c1 hm hg=>?_⟩,k_own,q1 ▸ k_blk,q1 ▸ k_ty,?_,q3 ▸ k_pre,?_⟩
  ·obtain ⟨_,b1,hb1⟩:=hrest o1 hm
   have:=Finj o o1 b b1 g c c1 k1 hb1 k_at hg;subst this;have:=(hkeep k0).2;rw [hm] at this
   cases this
  ·have hc:=k_cells
   unfold Bv at hc ⊢;split at q4
   ·rename_i e1 e2
    rw [e1] at hc;rw [e2];exact Dh hd hro _ _ _ q4 hc
   ·rename_i c0 c1 e1 e2
    rw [e1] at hc;rw [e2];obtain ⟨p,hp,q4⟩:=List.any_eq_true.1 q4;rw [Bool.and_eq_true] at q4;have e3:=CE.beq_eq q4.1;have e4:=CE.beq_eq q4.2;have:=hd.bs p hp M w cs (e3 ▸ hc);rw [e4] at this;exact (E'.B c1).st M (Jj d ρ M) w w cs (Bt.refl w) (λ_ _ _=>.inl rfl) (λ_ _ h=>h.1) this
   ·cases q4
  ·rw [← q2,← q3]
   exact k_cap
 ·obtain ⟨k0,b1,k1,_⟩:=Jv d s.H h2 e
  obtain ⟨k0',b2,k2,_⟩:=Jv d s.H h2 e';exact Finj o o' b1 b2 g c c' k1 k2 ((Ht k0).symm.trans r) ((Ht k0').symm.trans r')
 ·unfold Kq at e
  split at e
  ·rename_i hk
   rw [h4];exact (hkeep hk).1
  ·cases e
 ·rw [h4]; exact h5
 ·exact hout o b c hm hg hb
 ·unfold Kq at e
  split at e
  ·exact Fold o p e
  ·cases e
 ·obtain ⟨a1,a2⟩:=hW o ho hw
  obtain ⟨k1,k2⟩:=Fkp o ho a1;exact ⟨a2.trans k1,k2⟩
theorem FS.move{W0:World}{ρ0:Bg}{M0:Nat→Prop}{H0:HP}{n0:Nat}{s s':Fm}{a:Act}(hd:K5 E E' d)(hr0:∀ o p,ρ0 o=some p→o<n0)(hm0:∀ b,M0 b→b<W0.heap.size)(hown:d.out=[] ∨ ∀ b,A b→W0.heap.size≤b ∨ ∃ o bo c,lk H0 o=some bo∧ρ0 o=some (b,c))
  (h:wkF d n0 s s'=true) (hb:below n0 s'.H=below n0 s.H) (hF:@FS E A W0 ρ0 M0 H0 n0 s ρ M a w):@FS E' A W0 ρ0 M0 H0 n0 s' (Kq d ρ) (Jj d ρ M) a w:=by
 have h0:=h;unfold wkF at h;rw [Bool.and_eq_true] at h;obtain ⟨h,h6⟩:=h;have hwr:∀ x∈s.wr,n0≤x:=λx hx=>Nat.le_of_ble_eq_true (List.all_eq_true.1 h6 x hx)
 refine FS.moveG hd hr0 (λo b c hm hg hb=>?_) h (λo ho _=>⟨λx hx=>by have:=hwr x hx; omega,by rw [← FW ho,hb,FW ho]⟩) hF;obtain ⟨_,_,_,⟨Fobj,Finj⟩,_,_,_,_,Ftr,_,_,_,Fkp⟩:=hF;unfold iJ at h;simp only [Bool.and_eq_true] at h;obtain ⟨⟨⟨⟨⟨_,_⟩,h3⟩,h7⟩,_⟩,_⟩:=h;have hrest:∀ o,memN o d.out=true→n0≤o∧∃ b,lk s.H o=some b:=λo hm=>by
  rcases List.mem_append.1 ((@CB E _ _).1 hm) with hm | hm
  ·obtain ⟨p,hp,rfl⟩:=List.mem_map.1 hm
   obtain ⟨k1,b,k2,_⟩:=LD h3 hp;exact ⟨k1,b,k2⟩
  ·obtain ⟨k1,b,k2,_⟩:=QS h7 hm
   exact ⟨k1,b,k2⟩
 rcases hown with e | hown
 ·rw [e] at hm
  cases hm
 ·obtain ⟨k1,b1,k2⟩:=hrest o hm
  obtain ⟨g',c',arr,cs,⟨k_at,k_mut,k_own,k_blk,k_ty,k_cells,k_pre,k_cap⟩⟩:=Fobj o b1 k2;have hA:A b:=by
   have:=k_at;rw [hg] at this;simp only [Option.some.injEq,Prod.mk.injEq] at this;rw [this.1];exact k_own
  rcases hown b hA with hlt | ⟨o',bo,c2,q1,q2⟩
  ·have:=hm0 b hb
   omega
  ·have ho':=hr0 o' _ q2
   have hl:lk s.H o'=some bo:=((Fkp o' ho' λx hx=>by have:=hwr x hx; omega).1).trans q1;have:=Finj o o' b1 bo b c c2 k2 hl hg (Ftr.ext _ _ q2);omega
end
end Go.Proofs.YtdopbgnkneeceaaGreat
