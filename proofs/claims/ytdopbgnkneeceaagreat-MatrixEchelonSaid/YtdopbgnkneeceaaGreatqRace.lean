/- 'a, b, c := made(x), made(y), made(z)': three calls and three new boxes, in whatever order; then the three stores. -/
import Derived.Test.YtdopbgnkneeceaaGreatqSan0
set_option linter.unusedSectionVars false
set_option linter.unusedVariables false
set_option linter.unusedSimpArgs false
set_option maxRecDepth 100000
namespace Go.Proofs.YtdopbgnkneeceaaGreat
open Go.RowKit
abbrev N7:Obj:=.cells #[.bool false,.slice none 0 0] 34 (0,0)
structure IG where
 b:Bool
 A:Option Addr
 k:Nat
 c:Nat
 ms:List Nat
def IG.val_(r:IG):Value:=.agg #[.slice r.A r.k r.c,.bool r.b]
def IG.int(r:IG):Int:=BK r.b (val (r.ms.take (min r.k 12)))
section
variable {a : Act} {w : World} {o : Oper}
theorem IH{t x g:Nat}{b0 b:Bool}{A0 A:Option Addr}{k0 c0 k c:Nat}(h:a.tmps[t]? = some (.pointer (some ⟨g,0,none⟩)))(hx:a.tmps[x]? = some (.agg #[.bool b,.slice A k c]))
  (hw:w.heap[g]? = some (.cells #[.bool b0,.slice A0 k0 c0] 34 (0,0))) (ho:o.op = .store 34 (.tmp t) (.tmp x)) :
  (execOp a.eval o).run Tryz.prog w = .ok .skip ((w.setCell ⟨g,0,none⟩ (.bool b)).setCell ⟨g,1,none⟩ (.slice A k c)):=by
 have h0:w.cell? ⟨g,0,none⟩=some (.bool b0):=by rw [cell_of_row w g 0 _ _ (0,0) hw]; rfl
 have h1:w.cell? ⟨g,1,none⟩=some (.slice A0 k0 c0):=by rw [cell_of_row w g 1 _ _ (0,0) hw]; rfl
 have f0:=AA hw 0;have f1:=AA hw 1;unfold execOp; rw [ho]; simp [go_sem,h,hx,h0,h1,f0,f1]
end
theorem Gl{w:World}{g:Nat}{b0 b:Bool}{A0 A:Option Addr}{k0 c0 k c:Nat}{z:Int}(hw:w.heap[g]? = some (.cells #[.bool b0,.slice A0 k0 c0] 34 (0,0)))(hi:Al w (.agg #[.bool b,.slice A k c]) z) :
  KA ((w.setCell ⟨g,0,none⟩ (.bool b)).setCell ⟨g,1,none⟩ (.slice A k c)) g (.agg #[.bool b,.slice A k c]) z:=by
 have hne:(34:TypeId)≠114:=by decide
 refine ⟨b,A,k,c,rfl,?_,(hi.far hw hne 0 _).far (Az hw 0 _) hne 1 _⟩;exact Az (Az hw 0 (.bool b)) 1 (.slice A k c)
theorem Ia{w:World}{g:Nat}{cs:Array Value}{u u' v:Value}{z:Int}(hw:w.heap[g]? = some (.cells cs 34 (0,0)))(hi:Al w v z):Al ((w.setCell ⟨g,0,none⟩ u).setCell ⟨g,1,none⟩ u') v z:=by
 have hne:(34:TypeId)≠114:=by decide
 exact (hi.far hw hne 0 _).far (Az hw 0 _) hne 1 _
theorem E0{w:World}{g j:Nat}{u u':Value}(h:j≠g):((w.setCell ⟨g,0,none⟩ u).setCell ⟨g,1,none⟩ u').heap[j]? = w.heap[j]? := by
 rw [Below.heap_setCell _ _ _ _ h,Below.heap_setCell _ _ _ _ h]
theorem I1{w:World}{g j:Nat}{cs:Array Value}{u u' v:Value}{z:Int}(hw:w.heap[g]? = some (.cells cs 34 (0,0)))(h:j≠g)(hb:KA w j v z):KA ((w.setCell ⟨g,0,none⟩ u).setCell ⟨g,1,none⟩ u') j v z:=by
 obtain ⟨b,A,k,c,e,hh,hi⟩:=hb;exact ⟨b,A,k,c,e,(E0 h).trans hh,Ia hw hi⟩
theorem G9{W0 w:World}{g:Nat}{u u':Value}(h:Below W0.heap.size W0 w)(hg:W0.heap.size≤g):Below W0.heap.size W0 ((w.setCell ⟨g,0,none⟩ u).setCell ⟨g,1,none⟩ u'):=
 (h.setCell hg u).setCell hg u'
section
variable {N : Nat} {W0 : World} {a0 : Act} {r0 r1 r2 : IG}
structure Aj4 (N:Nat) (W0:World) (a0:Act) (r0 r1 r2:IG) (c:Nat) (d0 d1 d2:Bool) (a:Act) (w:World):Prop where
 size:a.tmps.size=N
 low:∀ t,t<8→a.tmps[t]? = a0.tmps[t]?
 defers:a.defers=a0.defers
 x0:a.tmps[15]? = some r0.val_
 x1:a.tmps[17]? = some r1.val_
 x2:a.tmps[19]? = some r2.val_
 below:Below W0.heap.size W0 w
 v0:0<c→∃ v,a.tmps[16]? = some v∧Al w v r0.int
 v1:1<c→∃ v,a.tmps[18]? = some v∧Al w v r1.int
 v2:2<c→∃ v,a.tmps[20]? = some v∧Al w v r2.int
 p0:d0=true→∃ g,a.tmps[8]? = some (.pointer (some ⟨g,0,none⟩))∧w.heap[g]? = some N7∧W0.heap.size≤g
 p1:d1=true→∃ g,a.tmps[9]? = some (.pointer (some ⟨g,0,none⟩))∧w.heap[g]? = some N7∧W0.heap.size≤g
 p2:d2=true→∃ g,a.tmps[10]? = some (.pointer (some ⟨g,0,none⟩))∧w.heap[g]? = some N7∧W0.heap.size≤g
 n01:d0=true→d1=true→a.tmps[8]? ≠ a.tmps[9]?
 n02:d0=true→d2=true→a.tmps[8]? ≠ a.tmps[10]?
 n12:d1=true→d2=true→a.tmps[9]? ≠ a.tmps[10]?
theorem AJ{w:World}{g:Nat}{o:Obj}(h:w.heap[g]? = some o):g<w.heap.size:=by
 rcases Nat.lt_or_ge g w.heap.size with hlt | hge
 ·exact hlt
 ·rw [Array.getElem?_eq_none hge] at h; cases h
end
def MU(c:Nat)(d0 d1 d2:Bool):List Nat:=[0,2,4] ++ ([1,3,5].take c ++ ((if d0 then [6] else []) ++ ((if d1 then [7] else []) ++ (if d2 then [8] else []))))
section
variable {N : Nat} {ops : Array Oper} {Q : Exit → Act → World → Prop} {W0 : World} {a0 : Act} {r0 r1 r2 : IG}
def left(c:Nat)(d0 d1 d2:Bool):Nat:=(3 - c)+((if d0 then 0 else 1)+((if d1 then 0 else 1)+(if d2 then 0 else 1)))
theorem I2{k:Nat}{g:Option (Nat × Bool)}{op:Op}{a:Act}{w w1:World}{K:Act→World→Prop}(ho:(ops[k]?).map (λo=>(o.dst,o.guard,o.op))=some (none,g,op))
  (hg:∀ o:Oper,o.guard=g→Region.wanted o (yielded ops a.tmps)=true) (hr:∀ o:Oper,o.op=op→(execOp a.eval o).run Tryz.prog w = .ok .skip w1)
  (h:K a w1):wpOp Tryz.prog ops Q k K a w:=by
 rw [Option.map_eq_some_iff] at ho;obtain ⟨o,ho,hx⟩:=ho;simp only [Prod.mk.injEq] at hx;obtain ⟨hd,hgd,hop⟩:=hx;unfold wpOp;simp only [ho];rw [if_pos (hg o hgd)];left;unfold Oper.wp;rw [hr o hop,Oper.upon_skip,hd];exact h
structure Ajf (N:Nat) (W0:World) (a0:Act) (z0 z1 z2:Int) (a:Act) (w:World):Prop where
 size:a.tmps.size=N
 low:∀ t,t<8→a.tmps[t]? = a0.tmps[t]?
 defers:a.defers=a0.defers
 below:Below W0.heap.size W0 w
 box0:∃ g b A k c,a.tmps[8]? = some (.pointer (some ⟨g,0,none⟩))∧KA w g (.agg #[.bool b,.slice A k c]) z0
 box1:∃ g b A k c,a.tmps[9]? = some (.pointer (some ⟨g,0,none⟩))∧KA w g (.agg #[.bool b,.slice A k c]) z1
 NC:∃ g b A k c,a.tmps[10]? = some (.pointer (some ⟨g,0,none⟩))∧KA w g (.agg #[.bool b,.slice A k c]) z2
theorem stores{a:Act}{w:World}(hR:Aj4 N W0 a0 r0 r1 r2 3 true true true a w)
  (o9:(ops[9]?).map (λo=>(o.dst,o.guard,o.op))=some (none,none,.store 34 (.tmp 8) (.tmp 16))) (o10:(ops[10]?).map (λo=>(o.dst,o.guard,o.op))=some (none,none,.store 34 (.tmp 9) (.tmp 18))) (o11:(ops[11]?).map (λo=>(o.dst,o.guard,o.op))=some (none,none,.store 34 (.tmp 10) (.tmp 20)))
  (h9:Region.ready .any ops (Sh 12 (MU 3 true true true))=[9]) (h10:Region.ready .any ops ((Sh 12 (MU 3 true true true)).setIfInBounds 9 true)=[10]) (h11:Region.ready .any ops (((Sh 12 (MU 3 true true true)).setIfInBounds 9 true).setIfInBounds 10 true)=[11])
  (hend:Region.ready .any ops ((((Sh 12 (MU 3 true true true)).setIfInBounds 9 true).setIfInBounds 10 true).setIfInBounds 11 true)=[])
  (fin:∀ a' w',Ajf N W0 a0 r0.int r1.int r2.int a' w'→Q .normal a' w'):wpAnyH Tryz.prog .any ops Q (λw=>Below W0.heap.size W0 w) 3 (Sh 12 (MU 3 true true true)) a w:=by
 obtain ⟨v0,s16,i0⟩:=hR.v0 (by omega);obtain ⟨v1,s18,i1⟩:=hR.v1 (by omega);obtain ⟨v2,s20,i2⟩:=hR.v2 (by omega);obtain ⟨g0,s8,q0,e0⟩:=hR.p0 rfl;obtain ⟨g1,s9,q1,e1⟩:=hR.p1 rfl;obtain ⟨g2,s10,q2,e2⟩:=hR.p2 rfl;have n01:g0≠g1:=λe=>hR.n01 rfl rfl (by rw [s8,s9,e])
 have n02:g0≠g2:=λe=>hR.n02 rfl rfl (by rw [s8,s10,e])
 have n12:g1≠g2:=λe=>hR.n12 rfl rfl (by rw [s9,s10,e])
 obtain ⟨b0,A0,k0,c0,rfl,j0⟩:=i0.open_;obtain ⟨b1,A1,k1,c1,rfl,j1⟩:=i1.open_;obtain ⟨b2,A2,k2,c2,rfl,j2⟩:=i2.open_;refine wpAnyH_all (fuel:=2) h9 (by simp) λi hi=>?_
 obtain rfl:i=9:=by simpa using hi
 refine I2 o9 D0 (λo ho=>IH s8 s16 q0 ho) ?_;have B1:=G9 (u:=.bool b0) (u':=.slice A0 k0 c0) hR.below e0;have X0:=Gl q0 i0;have i1':=Ia (u:=.bool b0) (u':=.slice A0 k0 c0) q0 i1;have i2':=Ia (u:=.bool b0) (u':=.slice A0 k0 c0) q0 i2;have q1':=(E0 (w:=w) (g:=g0) (j:=g1) (u:=.bool b0) (u':=.slice A0 k0 c0) n01.symm).trans q1;have q2':=(E0 (w:=w) (g:=g0) (j:=g2) (u:=.bool b0) (u':=.slice A0 k0 c0) n02.symm).trans q2;generalize (w.setCell ⟨g0,0,none⟩ (.bool b0)).setCell ⟨g0,1,none⟩ (.slice A0 k0 c0)=w1 at *;refine ⟨B1,wpAnyH_all (fuel:=1) h10 (by simp) λi hi=>?_⟩;obtain rfl:i=10:=by simpa using hi
 refine I2 o10 D0 (λo ho=>IH s9 s18 q1' ho) ?_;have B2:=G9 (u:=.bool b1) (u':=.slice A1 k1 c1) B1 e1;have X1:=Gl q1' i1';have X0':=I1 (u:=.bool b1) (u':=.slice A1 k1 c1) q1' n01 X0;have i2'':=Ia (u:=.bool b1) (u':=.slice A1 k1 c1) q1' i2';have q2'':=(E0 (w:=w1) (g:=g1) (j:=g2) (u:=.bool b1) (u':=.slice A1 k1 c1) n12.symm).trans q2';generalize (w1.setCell ⟨g1,0,none⟩ (.bool b1)).setCell ⟨g1,1,none⟩ (.slice A1 k1 c1)=w2 at *;refine ⟨B2,wpAnyH_all (fuel:=0) h11 (by simp) λi hi=>?_⟩;obtain rfl:i=11:=by simpa using hi
 refine I2 o11 D0 (λo ho=>IH s10 s20 q2'' ho) ?_;have B3:=G9 (u:=.bool b2) (u':=.slice A2 k2 c2) B2 e2;have X2:=Gl q2'' i2'';have X0'':=I1 (u:=.bool b2) (u':=.slice A2 k2 c2) q2'' n02 X0';have X1':=I1 (u:=.bool b2) (u':=.slice A2 k2 c2) q2'' n12 X1;refine ⟨B3,wpAnyH_done hend ?_ _⟩;exact fin _ _ ⟨hR.size,hR.low,hR.defers,B3,⟨g0,b0,A0,k0,c0,s8,X0''⟩,⟨g1,b1,A1,k1,c1,s9,X1'⟩,⟨g2,b2,A2,k2,c2,s10,X2⟩⟩
end
structure Bt (w w':World):Prop where
 size:w.heap.size≤w'.heap.size
 rows:∀(b:Nat)(cs:Array Value)(fr:Nat × Nat),w.heap[b]? = some (.cells cs 114 fr)→w'.heap[b]? = some (.cells cs 114 fr)
 bytes:∀(b:Nat)(cs:Array Value)(fr:Nat × Nat),w.heap[b]? = some (.cells cs 5 fr)→w'.heap[b]? = some (.cells cs 5 fr)
theorem Bt.refl(w:World):Bt w w:=⟨Nat.le_refl _,λ_ _ _ h=>h,λ_ _ _ h=>h⟩
theorem Bt.trans{w w1 w2:World}(h:Bt w w1)(k:Bt w1 w2):Bt w w2:=⟨Nat.le_trans h.size k.size,λb cs fr e=>k.rows b cs fr (h.rows b cs fr e),λb cs fr e=>k.bytes b cs fr (h.bytes b cs fr e)⟩
theorem Bt.of_below{w w':World}(h:Below w.heap.size w w'):Bt w w':=⟨h.size,λb _ _ e=>(h.block b (AJ e)).trans e,λb _ _ e=>(h.block b (AJ e)).trans e⟩
theorem Bt.set{w:World}{g:Nat}{cs:Array Value}{T:TypeId}{fr:Nat × Nat}(hg:w.heap[g]? = some (.cells cs T fr))(hT:T≠114)(i:Nat)(u:Value)(h8:T≠5:=by decide):Bt w (w.setCell ⟨g,i,none⟩ u):=by
 have key:∀(X:TypeId),T≠X→∀(b:Nat)(cs':Array Value)(fr':Nat × Nat),w.heap[b]? = some (.cells cs' X fr')→(w.setCell ⟨g,i,none⟩ u).heap[b]? = some (.cells cs' X fr'):=λX hX b cs' fr' e=>by
  have hne:b≠g:=by
   rintro rfl
   rw [hg] at e;injection e with e
   injection e with _ h2 _
   exact hX h2
  exact (Below.heap_setCell w _ _ _ hne).trans e
 exact ⟨by simp [World.setCell],key _ hT,key _ h8⟩
theorem CQ.grow{w w':World}{A:Option Addr}{ms:List Nat}(h:CQ w w.heap.size A ms)(hg:Bt w w'):CQ w' w'.heap.size A ms:=λhn=>by
 obtain ⟨ad,e,hb,⟨cs,fr,ht⟩,hc⟩:=h hn;have hh:=hg.rows _ _ _ ht;exact ⟨ad,e,Nat.lt_of_lt_of_le hb hg.size,⟨cs,fr,hh⟩,λj u hu=>(World.cell?_of_block (w:=w) (by rw [Ap,hh,ht])).trans (hc j u hu)⟩
theorem AB.grow{w w':World}{v:Value}{n:Nat}(h:AB w v n)(hg:Bt w w'):AB w' v n:=by
 obtain ⟨A,c,e,hc,hm⟩:=h;exact ⟨A,c,e,hc,hm.grow hg⟩
theorem Al.grow{w w':World}{v:Value}{z:Int}(h:Al w v z)(hg:Bt w w'):Al w' v z:=by
 obtain ⟨s,e,hs⟩:=h;exact ⟨s,e,hs.grow hg⟩
structure PF where
 p:Value→World→Prop
 st:∀ v w w',Bt w w'→p v w→p v w'
structure CF where
 p:Nat→World→Prop
 st:∀ g w w',Bt w w'→w'.heap[g]? = w.heap[g]? → p g w→p g w'
 ty:∀ g w,p g w→∃ cs T,w.heap[g]? = some (.cells cs T (0,0))∧T≠114∧T≠5
def Ca:PF:=⟨λ_ _=>True,λ_ _ _ _ h=>h⟩
def Am(u:Value):PF:=⟨λv _=>v=u,λ_ _ _ _ h=>h⟩
def Af(z:Int):PF:=⟨λv w=>Al w v z,λ_ _ _ hg h=>h.grow hg⟩
def Aw(n:Nat):PF:=⟨λv w=>AB w v n,λ_ _ _ hg h=>h.grow hg⟩
def B7(x y:PF):PF:=⟨λv w=>∃ a b,v = .tuple #[a,b]∧x.p a w∧y.p b w,λ_ _ _ hg ⟨a,b,e,h,k⟩=>⟨a,b,e,x.st _ _ _ hg h,y.st _ _ _ hg k⟩⟩
def DS(x y z:PF):PF:=⟨λv w=>∃ a b c,v = .tuple #[a,b,c]∧x.p a w∧y.p b w∧z.p c w,λ_ _ _ hg ⟨a,b,c,e,h,k,l⟩=>⟨a,b,c,e,x.st _ _ _ hg h,y.st _ _ _ hg k,z.st _ _ _ hg l⟩⟩
def Afq(cs:Array Value)(T:TypeId)(hT:T≠114∧T≠5):CF:=⟨λg w=>w.heap[g]? = some (.cells cs T (0,0)),λ_ _ _ _ e h=>e.trans h,λ_ _ h=>⟨cs,T,h,hT⟩⟩
def Ak(z:Int):CF:=⟨λg w=>∃ b A k c,w.heap[g]? = some (.cells #[.bool b,.slice A k c] 34 (0,0))∧Al w (.agg #[.bool b,.slice A k c]) z,
 λ_ _ _ hg e ⟨b,A,k,c,h,hi⟩=>⟨b,A,k,c,e.trans h,hi.grow hg⟩,λ_ _ ⟨_,_,_,_,h,_⟩=>⟨_,_,h,by decide⟩⟩
theorem oH{w:World}{g:Nat}{v:Value}{z:Int}(h:KA w g v z):(Ak z).p g w:=by
 obtain ⟨b,A,k,c,e,hh,hi⟩:=h;subst e;exact ⟨b,A,k,c,hh,hi⟩
abbrev AS:CF:=Afq #[.bool false,.slice none 0 0] 34 (by decide)
def Aj(R:PF)(w:World)(e:Ending)(w':World):Prop:=∃ v,e = .returned v∧R.p v w'∧Below w.heap.size w w'
def Ey:List (Nat × PF)→Act→World→Prop
 | [],_,_=>True
 | x :: r,a,w=>(∃ v,a.tmps[x.1]? = some v∧x.2.p v w)∧Ey r a w
def DJ(Wb:World):List (Nat × CF)→Act→World→Prop
 | [],_,_=>True
 | x :: r,a,w=>(∃ g,a.tmps[x.1]? = some (.pointer (some ⟨g,0,none⟩))∧Wb.heap.size≤g∧x.2.p g w)∧DJ Wb r a w
structure St (Wb:World) (N:Nat) (S:List (Nat × PF)) (B:List (Nat × CF)) (a:Act) (w:World):Prop where
 size:a.tmps.size=N
 defers:a.defers=[]
 below:Below Wb.heap.size Wb w
 grow:Bt Wb w
 slots:Ey S a w
 boxes:DJ Wb B a w
 apart:B.Pairwise (λb c=>a.tmps[b.1]? ≠ a.tmps[c.1]?)
theorem Ey.get:∀{S:List (Nat × PF)}{a:Act}{w:World},Ey S a w→∀{k:Nat}{x:Nat × PF},S[k]? = some x→∃ v,a.tmps[x.1]? = some v∧x.2.p v w
 | [],_,_,_,_,_,h=>by simp at h
 | y :: r,a,w,⟨h1,h2⟩,k,x,h=>by
  cases k with
  | zero=>simp at h; subst h; exact h1
  | succ k=>exact h2.get (by simpa using h)
theorem DJ.get{Wb:World}:∀{B:List (Nat × CF)}{a:Act}{w:World},DJ Wb B a w→∀{k:Nat}{x:Nat × CF},B[k]? = some x→∃ g,a.tmps[x.1]? = some (.pointer (some ⟨g,0,none⟩))∧Wb.heap.size≤g∧x.2.p g w
 | [],_,_,_,_,_,h=>by simp at h
 | y :: r,a,w,⟨h1,h2⟩,k,x,h=>by
  cases k with
  | zero=>simp at h; subst h; exact h1
  | succ k=>exact h2.get (by simpa using h)
structure Bm where
 slot:Nat
 al:Option Nat
 st:Option Nat
 old:CF
 new:CF
def Bm.live(b:Bm)(m:Array Bool):Bool:=match b.al with | none=>true | some i=>m.getD i false
def Bm.cur(b:Bm)(m:Array Bool):CF:=match b.st with | none=>b.old | some s=>if m.getD s false then b.new else b.old
def Bm.fin(b:Bm):CF:=match b.st with | none=>b.old | some _=>b.new
def AF(ops:Array Oper)(i:Nat):Option Nat:=(ops[i]?).bind (·.dst)
def B_(ops:Array Oper)(i:Nat):List Nat:=((ops[i]?).map λo=>(o.after.toList.filter (Region.binds .any)).map (·.on)).getD []
def Sq(ops:Array Oper):Bool:=(List.range ops.size).all λi=>(B_ ops i).all λj=>decide (j<i)
def GH(ops:Array Oper):Bool:=decide ((ops.toList.filterMap fun (o:Oper)=>o.dst).Nodup)
section
variable {ops : Array Oper} {N : Nat} {Wb W0 : World} {a0 : Act} {F : List PF} {BX : List Bm} {AD : List (Nat × Nat × Nat)}
structure ES (ops:Array Oper) (N:Nat) (Wb W0:World) (a0:Act) (F:List PF) (BX:List Bm) (AD:List (Nat × Nat × Nat)) (m:Array Bool) (a:Act) (w:World):Prop where
 size:a.tmps.size=N
 low:∀ t,(∀ i,AF ops i=some t→m.getD i false=false)→a.tmps[t]? = a0.tmps[t]?
 defers:a.defers=[]
 below:Below Wb.heap.size Wb w
 grow:Bt W0 w
 len:m.size=ops.size
 closed:∀ i j,m.getD i false=true→j∈B_ ops i→m.getD j false=true
 facts:∀ i d,m.getD i false=true→AF ops i=some d→∃ v,a.tmps[d]? = some v∧(F.getD i Ca).p v w
 boxes:∀(k:Nat)(b:Bm),BX[k]? = some b→b.live m=true→∃ g,a.tmps[b.slot]? = some (.pointer (some ⟨g,0,none⟩))∧Wb.heap.size≤g∧(b.cur m).p g w
 apart:∀(k l:Nat)(b c:Bm),BX[k]? = some b→BX[l]? = some c→k≠l→b.live m=true→c.live m=true→a.tmps[b.slot]? ≠ a.tmps[c.slot]?
 addrs:∀ x∈AD,m.getD x.1 false=true→∀ d,AF ops x.1=some d→∃ g,a.tmps[x.2.1]? = some (.pointer (some ⟨g,0,none⟩))∧a.tmps[d]? = some (.pointer (some ⟨g,x.2.2,none⟩))
def CU(ops:Array Oper)(N:Nat)(Wb W0:World)(a0:Act)(F:List PF)(BX:List Bm)(AD:List (Nat × Nat × Nat))(i:Nat):Prop:=
 ∀ Q m a w,ES ops N Wb W0 a0 F BX AD m a w→i∈Region.ready .any ops m→wpOp Tryz.prog ops Q i (λa' w'=>ES ops N Wb W0 a0 F BX AD (m.setIfInBounds i true) a' w') a w
theorem CG{m:Array Bool}{i j:Nat}(hr:i∈Region.ready .any ops m)(hj:j∈B_ ops i):m.getD j false=true:=by
 obtain ⟨_,o,ho,h⟩:=mem_ready.1 hr;unfold B_ at hj;rw [ho] at hj;simp only [Option.map_some,Option.getD_some,List.mem_map,List.mem_filter] at hj;obtain ⟨e,⟨he,hb⟩,rfl⟩:=hj;exact h e (by simpa using he) hb
theorem CD{m:Array Bool}{i:Nat}(hr:i∈Region.ready .any ops m):m.getD i false=false:=by
 obtain ⟨h,_,ho,_⟩:=mem_ready.1 hr
 rcases Nat.lt_or_ge i m.size with hl | hl
 ·simpa [Array.getD_eq_getD_getElem?,hl] using h
 ·simp [Array.getD_eq_getD_getElem?,hl]
theorem ES.waits{m:Array Bool}{a:Act}{w:World}(h:ES ops N Wb W0 a0 F BX AD m a w){i s:Nat}(hi:m.getD i false=false)(hs:i∈B_ ops s):m.getD s false=false:=by
 cases e:m.getD s false with
 | false=>rfl
 | true=>rw [h.closed s i e hs] at hi; cases hi
theorem ES.get{m:Array Bool}{a:Act}{w:World}(h:ES ops N Wb W0 a0 F BX AD m a w){i:Nat}(hr:i∈Region.ready .any ops m)(j d:Nat)(f:PF)(hj:(B_ ops i).contains j=true)(hd:AF ops j=some d)(hf:F.getD j Ca=f):∃ v,a.tmps[d]? = some v∧f.p v w:=
 hf ▸ h.facts j d (CG hr (by simpa using hj)) hd
theorem Bk{m:Array Bool}{i j:Nat}(h:(m.setIfInBounds i true).getD j false=true):j=i ∨ m.getD j false=true:=by
 by_cases e:j=i
 ·exact .inl e
 ·exact .inr (by rwa [getD_set_ne false (Ne.symm e)] at h)
theorem Oy{m:Array Bool}{i j:Nat}(h:(m.setIfInBounds i true).getD j false=false):m.getD j false=false:=by
 cases e:m.getD j false with
 | false=>rfl
 | true=>rw [getD_set_true e] at h; cases h
theorem JO{m:Array Bool}{i:Nat}(h:i<m.size):(m.setIfInBounds i true).getD i false=true:=by
 simp [Array.getD_eq_getD_getElem?,h]
theorem Fi{m:Array Bool}{i:Nat}(hr:i∈Region.ready .any ops m):i<ops.size:=by
 obtain ⟨_,o,ho,_⟩:=mem_ready.1 hr;exact (Array.getElem?_eq_some_iff.1 ho).1
def reach(ops:Array Oper):Nat→Nat→Nat→Bool
 | 0,_,_=>false
 | n+1,i,s=>(B_ ops s).any λj=>j == i || reach ops n i j
theorem ES.reach{m:Array Bool}{a:Act}{w:World}(h:ES ops N Wb W0 a0 F BX AD m a w){i:Nat}(hi:m.getD i false=false):∀(n s:Nat),reach ops n i s=true→m.getD s false=false
 | 0,s,hs=>by cases hs
 | n+1,s,hs=>by
  unfold Go.Proofs.YtdopbgnkneeceaaGreat.reach at hs;obtain ⟨j,hj,h2⟩:=List.any_eq_true.1 hs;rw [Bool.or_eq_true] at h2
  rcases h2 with h2 | h2
  ·have:j=i:=by simpa using h2
   subst this;exact h.waits hi hj
  ·exact h.waits (h.reach hi n j h2) hj
theorem FT(h:GH ops=true){i j d:Nat}(hi:AF ops i=some d)(hj:AF ops j=some d):i=j:=by
 have key:∀(l:List Oper)(i j d:Nat),(l.filterMap fun (o:Oper)=>o.dst).Nodup→(l[i]?).bind (fun (o:Oper)=>o.dst)=some d→(l[j]?).bind (fun (o:Oper)=>o.dst)=some d→i=j:=by
  intro l
  induction l with
  | nil=>intro i j d _ h; simp at h
  | cons x r ih =>
   intro i j d hn hi hj;have hr:(r.filterMap fun (o:Oper)=>o.dst).Nodup:=by
    cases hx:x.dst with
    | none=>simpa [List.filterMap_cons,hx] using hn
    | some e=>rw [List.filterMap_cons,hx] at hn; exact (List.nodup_cons.1 hn).2
   have hm:∀(k:Nat),(r[k]?).bind (fun (o:Oper)=>o.dst)=some d→x.dst=some d→False:=λk hk hx=>by
    rw [List.filterMap_cons,hx] at hn;refine (List.nodup_cons.1 hn).1 ?_;rw [List.mem_filterMap]
    cases hrk:r[k]? with
    | none=>rw [hrk] at hk; cases hk
    | some o=>rw [hrk] at hk; exact ⟨o,List.mem_of_getElem? hrk,hk⟩
   cases i with
   | zero=>cases j with
    | zero=>rfl
    | succ j=>exact (hm j (by simpa using hj) (by simpa using hi)).elim
   | succ i=>cases j with
    | zero=>exact (hm i (by simpa using hi) (by simpa using hj)).elim
    | succ j=>exact congrArg (· + 1) (ih i j d hr (by simpa using hi) (by simpa using hj))
 unfold GH at h;unfold AF at hi hj;exact key ops.toList i j d (of_decide_eq_true h) (by simpa using hi) (by simpa using hj)
def BF(BX:List Bm)(i:Nat):Bool:=BX.all λb=>b.al != some i && b.st != some i
def Du(AD:List (Nat × Nat × Nat))(i:Nat):Bool:=AD.all λx=>x.1 != i
def adB(ops:Array Oper)(BX:List Bm)(AD:List (Nat × Nat × Nat)):Bool:=AD.all λx=>BX.any λb=>b.slot == x.2.1 && (match b.al with | none=>true | some q=>(B_ ops x.1).contains q)
def Ks(ops:Array Oper)(BX:List Bm):Bool:=BX.all λb=>match b.al with | none=>ops.all λo=>o.dst != some b.slot | some i=>AF ops i == some b.slot
theorem Ce{b:Bm}{m:Array Bool}{i:Nat}(h:b.al≠some i):b.live (m.setIfInBounds i true)=b.live m:=by
 unfold Bm.live
 cases e:b.al with
 | none=>rfl
 | some j=>exact getD_set_ne false (λh'=>h (by rw [e,h']))
theorem Lg{b:Bm}{m:Array Bool}{i:Nat}(h:b.st≠some i):b.cur (m.setIfInBounds i true)=b.cur m:=by
 unfold Bm.cur
 cases e:b.st with
 | none=>rfl
 | some j =>
  simp only [];rw [getD_set_ne false (λh'=>h (by rw [e,h']))]
theorem DE(hs:Ks ops BX=true)(hn:GH ops=true){k:Nat}{b:Bm}(hb:BX[k]? = some b){i d:Nat}(hd:AF ops i=some d)(hi:b.al≠some i):d≠b.slot:=by
 rintro rfl
 have:=List.all_eq_true.1 hs b (List.mem_of_getElem? hb)
 cases e:b.al with
 | none =>
  rw [e] at this;unfold AF at hd
  cases ho:ops[i]? with
  | none=>rw [ho] at hd; cases hd
  | some o =>
   rw [ho] at hd;have h2:=Array.all_eq_true.1 this i (Array.getElem?_eq_some_iff.1 ho).1;rw [(Array.getElem?_eq_some_iff.1 ho).2] at h2;have h3:o.dst=some b.slot:=hd;rw [h3] at h2;simp at h2
 | some j =>
  rw [e] at this;have h2:AF ops j=some b.slot:=by simpa using this
  exact hi (by rw [e,FT hn hd h2])
theorem Gu{m:Array Bool}{i:Nat}(hc:∀ i j,m.getD i false=true→j∈B_ ops i→m.getD j false=true)(hr:i∈Region.ready .any ops m) :
  ∀ k j,(m.setIfInBounds i true).getD k false=true→j∈B_ ops k→(m.setIfInBounds i true).getD j false=true:=λk j hk hj=>by
 rcases Bk hk with rfl | hk
 ·exact getD_set_true (CG hr hj)
 ·exact getD_set_true (hc k j hk hj)
theorem ES.addrs_put{m:Array Bool}{a:Act}{w:World}{i d:Nat}{v:Value}(h:ES ops N Wb W0 a0 F BX AD m a w)(hr:i∈Region.ready .any ops m)(hs:Ks ops BX=true)(hn:GH ops=true)(had:adB ops BX AD=true)
  (hd:AF ops i=some d) (hN:d<N) (hA:∀ x∈AD,x.1=i→∃ g,a.tmps[x.2.1]? = some (.pointer (some ⟨g,0,none⟩))∧v = .pointer (some ⟨g,x.2.2,none⟩)) :
  ∀ x∈AD,(m.setIfInBounds i true).getD x.1 false=true→∀ e,AF ops x.1=some e→∃ g,(a.put (some d) v).tmps[x.2.1]? = some (.pointer (some ⟨g,0,none⟩))∧(a.put (some d) v).tmps[e]? = some (.pointer (some ⟨g,x.2.2,none⟩)):=by
 intro x hx hm e he;have hbx:=List.all_eq_true.1 had x hx;obtain ⟨b,hb,hb2⟩:=List.any_eq_true.1 hbx;rw [Bool.and_eq_true] at hb2;obtain ⟨k,hk⟩:=List.getElem?_of_mem hb;have hbs:b.slot=x.2.1:=by simpa using hb2.1
 have hdep:∀ q,b.al=some q→q∈B_ ops x.1:=λq hq=>by
  have:=hb2.2;rw [hq] at this;simpa using this
 have hne:d≠x.2.1:=by
  rw [← hbs];refine DE hs hn hk hd λhal=>?_
  have hq:=hdep i hal
  rcases Bk hm with e1 | e1
  ·rw [e1] at hq
   have:=CG hr hq;rw [CD hr] at this
   cases this
  ·have:=h.closed x.1 i e1 hq
   rw [CD hr] at this
   cases this
 rcases Bk hm with e1 | e1
 ·rw [e1,hd] at he
  obtain rfl:=Option.some.inj he;obtain ⟨g,h1,h2⟩:=hA x hx e1;exact ⟨g,(Dk v hne).trans h1,by rw [EA v (by rw [h.size]; exact hN),h2]⟩
 ·obtain ⟨g,h1,h2⟩:=h.addrs x hx e1 e he
  refine ⟨g,(Dk v hne).trans h1,(Dk v ?_).trans h2⟩
  rintro rfl
  have:=FT hn hd he;rw [← this,CD hr] at e1
  cases e1
theorem ES.value{m:Array Bool}{a:Act}{w w':World}{i:Nat}{v:Value}(h:ES ops N Wb W0 a0 F BX AD m a w)(hr:i∈Region.ready .any ops m)(hs:Ks ops BX=true)(hn:GH ops=true)
  (hp:BF BX i=true) (had:adB ops BX AD=true) (hA:∀ x∈AD,x.1=i→∃ g,a.tmps[x.2.1]? = some (.pointer (some ⟨g,0,none⟩))∧v = .pointer (some ⟨g,x.2.2,none⟩)) (hb:Below w.heap.size w w') (hN:∀ d,AF ops i=some d→d<N) (hv:(F.getD i Ca).p v w'):ES ops N Wb W0 a0 F BX AD (m.setIfInBounds i true) (a.put (AF ops i) v) w':=by
 have hg:=Bt.of_below hb;have hB:Below Wb.heap.size Wb w':=Ac h.below hb;have hpl:∀ b∈BX,b.al≠some i∧b.st≠some i:=λb hb=>by
  have:=List.all_eq_true.1 hp b hb;simpa using this
 cases hd:AF ops i with
 | none =>
  refine ⟨h.size,λt ht=>h.low t λj hj=>Oy (ht j hj),h.defers,hB,h.grow.trans hg,by rw [Array.size_setIfInBounds]; exact h.len,Gu h.closed hr,?_,?_,?_,?_⟩
  ·intro j d hj hjd
   rcases Bk hj with rfl | hj
   ·rw [hd] at hjd; cases hjd
   ·obtain ⟨u,h1,h2⟩:=h.facts j d hj hjd
    exact ⟨u,h1,(F.getD j Ca).st _ _ _ hg h2⟩
  ·intro k b hk hl
   have hb':=hpl b (List.mem_of_getElem? hk);rw [Ce hb'.1] at hl;rw [Lg hb'.2];obtain ⟨g,h1,h2,h3⟩:=h.boxes k b hk hl;obtain ⟨cs,T,hc,_⟩:=(b.cur m).ty _ _ h3;exact ⟨g,h1,h2,(b.cur m).st _ _ _ hg (hb.block g (AJ hc)) h3⟩
  ·intro k l b c hk hl' hne hbl hcl
   rw [Ce (hpl b (List.mem_of_getElem? hk)).1] at hbl;rw [Ce (hpl c (List.mem_of_getElem? hl')).1] at hcl;exact h.apart k l b c hk hl' hne hbl hcl
  ·intro x hx hm e he
   rcases Bk hm with e1 | e1
   ·rw [e1,hd] at he; cases he
   ·exact h.addrs x hx e1 e he
 | some d =>
  have ne:∀ t,d≠t→(a.put (some d) v).tmps[t]? = a.tmps[t]? := λt ht=>Dk v ht
  refine ⟨by simp [Act.put,h.size],λt ht=>(ne t (λe=>by have h1:=ht i (by rw [hd,e]); rw [JO (by rw [h.len]; exact Fi hr)] at h1; cases h1)).trans (h.low t λj hj=>Oy (ht j hj)),h.defers,hB,h.grow.trans hg,by rw [Array.size_setIfInBounds]; exact h.len,Gu h.closed hr,?_,?_,?_,?_⟩
  ·intro j e hj hje
   rcases Bk hj with rfl | hj
   ·rw [hd] at hje
    obtain rfl:=Option.some.inj hje;exact ⟨v,EA v (by rw [h.size]; exact hN _ hd),hv⟩
   ·obtain ⟨u,h1,h2⟩:=h.facts j e hj hje
    refine ⟨u,(ne e ?_).trans h1,(F.getD j Ca).st _ _ _ hg h2⟩
    rintro rfl
    have:=FT hn hd hje;subst this;rw [CD hr] at hj
    cases hj
  ·intro k b hk hl
   have hb':=hpl b (List.mem_of_getElem? hk);rw [Ce hb'.1] at hl;rw [Lg hb'.2];obtain ⟨g,h1,h2,h3⟩:=h.boxes k b hk hl;obtain ⟨cs,T,hc,_⟩:=(b.cur m).ty _ _ h3;exact ⟨g,(ne _ (DE hs hn hk hd hb'.1)).trans h1,h2,(b.cur m).st _ _ _ hg (hb.block g (AJ hc)) h3⟩
  ·intro k l b c hk hl' hne hbl hcl
   have hb':=hpl b (List.mem_of_getElem? hk);have hc':=hpl c (List.mem_of_getElem? hl');rw [Ce hb'.1] at hbl;rw [Ce hc'.1] at hcl;rw [ne _ (DE hs hn hk hd hb'.1),ne _ (DE hs hn hl' hd hc'.1)];exact h.apart k l b c hk hl' hne hbl hcl
  ·exact h.addrs_put hr hs hn had hd (hN _ hd) hA
structure EV (ops:Array Oper) (N:Nat) (BX:List Bm) (AD:List (Nat × Nat × Nat)):Prop where
 dag:Sq ops=true
 dsts:GH ops=true
 slots:Ks ops BX=true
 ads:adB ops BX AD=true
 sts:(BX.all λb=>match b.st with | none=>true | some s=>decide (s<ops.size))=true
 below:(ops.all λo=>match o.dst with | none=>true | some d=>decide (d<N))=true
theorem EV.lt(hP:EV ops N BX AD){i d:Nat}(hd:AF ops i=some d):d<N:=by
 unfold AF at hd
 cases ho:ops[i]? with
 | none=>rw [ho] at hd; cases hd
 | some o =>
  rw [ho] at hd;have h2:=Array.all_eq_true.1 hP.below i (Array.getElem?_eq_some_iff.1 ho).1;rw [(Array.getElem?_eq_some_iff.1 ho).2] at h2;have h3:o.dst=some d:=hd;rw [h3] at h2;simpa using h2
def C7(ops:Array Oper)(i:Nat)(g:Option (Nat × Bool))(op:Op):Prop:=(ops[i]?).map (λo=>(o.guard,o.op))=some (g,op)
theorem Lw{i:Nat}{g:Option (Nat × Bool)}{op:Op}(h:(ops[i]?).map (λo=>(o.guard,o.op))=some (g,op)):C7 ops i g op:=h
theorem C7.get{i:Nat}{g:Option (Nat × Bool)}{op:Op}(h:C7 ops i g op):∃ o,ops[i]? = some o∧o.guard=g∧o.op=op:=by
 unfold C7 at h;rw [Option.map_eq_some_iff] at h;obtain ⟨o,ho,h⟩:=h;simp only [Prod.mk.injEq] at h;exact ⟨o,ho,h.1,h.2⟩
def DO(ops:Array Oper)(a:Act)(g:Option (Nat × Bool))(b:Bool):Prop:=∀ o:Oper,o.guard=g→Region.wanted o (yielded ops a.tmps)=b
theorem MG{a:Act}:DO ops a none true:=λo h=>D0 o h
theorem Tz{a:Act}{j d:Nat}{b c:Bool}(hd:AF ops j=some d)(h:a.tmps[d]? = some (.bool c)):DO ops a (some (j,b)) (c == b):=λo ho=>by
 unfold AF at hd;simp [Region.wanted,ho,yielded,hd,h]
theorem KP{a:Act}{j d:Nat}{b:Bool}(hd:AF ops j=some d)(h:a.tmps[d]? = some undef):DO ops a (some (j,b)) false:=λo ho=>by
 unfold AF at hd;simp [Region.wanted,ho,yielded,hd,h,undef]
theorem ES.guard{m:Array Bool}{a:Act}{w:World}(h:ES ops N Wb W0 a0 F BX AD m a w){i:Nat}(hr:i∈Region.ready .any ops m)(j d:Nat)(b c:Bool)(hj:(B_ ops i).contains j=true)(hd:AF ops j=some d)(hf:F.getD j Ca=Am (.bool c)):DO ops a (some (j,b)) (c == b):=by
 obtain ⟨v,h1,h2⟩:=h.get hr j d _ hj hd hf;have h2:v = .bool c:=h2;subst h2;exact Tz hd h1
theorem ES.guardU{m:Array Bool}{a:Act}{w:World}(h:ES ops N Wb W0 a0 F BX AD m a w){i:Nat}(hr:i∈Region.ready .any ops m)(j d:Nat)(b:Bool)(hj:(B_ ops i).contains j=true)(hd:AF ops j=some d)(hf:F.getD j Ca=Am undef):DO ops a (some (j,b)) false:=by
 obtain ⟨v,h1,h2⟩:=h.get hr j d _ hj hd hf;have h2:v=undef:=h2;subst h2;exact KP hd h1
theorem Ie{i:Nat}{Q:Nat × Nat × Nat→Prop}(h:Du AD i=true):∀ x∈AD,x.1=i→Q x:=λx hx e=>by
 have:=List.all_eq_true.1 h x hx;rw [e] at this;simp at this
theorem C9(hP:EV ops N BX AD){i:Nat}{g:Option (Nat × Bool)}{op:Op}(ho:C7 ops i g op)(hp:BF BX i=true)(hna:Du AD i=true)
  (h:∀ m a w,ES ops N Wb W0 a0 F BX AD m a w→i∈Region.ready .any ops m→DO ops a g true∧∃ v w',(∀ o:Oper,o.op=op→(execOp a.eval o).run Tryz.prog w = .ok (.value v) w')∧Below w.heap.size w w'∧(F.getD i Ca).p v w'):CU ops N Wb W0 a0 F BX AD i:=by
 intro Q m a w hI hr;obtain ⟨hg,v,w',hrun,hb,hv⟩:=h m a w hI hr;obtain ⟨o,hoo,hgo,hop⟩:=ho.get;unfold wpOp;simp only [hoo];rw [if_pos (hg o hgo)];left;unfold Oper.wp;rw [hrun o hop,Oper.upon_value];have:=hI.value hr hP.slots hP.dsts hp hP.ads (Ie hna) hb (λd hd=>hP.lt hd) hv;unfold AF at this;rw [hoo] at this;exact this
theorem SH(hP:EV ops N BX AD){i t d:Nat}{op:Op}{g:Option (Nat × Bool)}(ho:C7 ops i g op)(hd:AF ops i=some d)(hp:BF BX i=true)(off:Nat)(hx:(AD.filter λx=>x.1 == i)=[(i,t,off)])(hF:F.getD i Ca=Ca)
  (b:Bm) (kb:Nat) (hk:BX[kb]? = some b) (hbs:b.slot=t) (hlv:(match b.al with | none=>true | some j=>(B_ ops i).contains j)=true)
  (hg:∀ m a w,ES ops N Wb W0 a0 F BX AD m a w→i∈Region.ready .any ops m→DO ops a g true)
  (hrun:∀(ρ:Operand→Value)(q:Nat)(w:World),ρ (.tmp t) = .pointer (some ⟨q,0,none⟩)→(∀ v,ρ (.const v)=v)→∀ o:Oper,o.op=op→(execOp ρ o).run Tryz.prog w = .ok (.value (.pointer (some ⟨q,off,none⟩))) w):CU ops N Wb W0 a0 F BX AD i:=by
 intro Q m a w hI hr;obtain ⟨o,hoo,hgo,hop⟩:=ho.get;have hlive:b.live m=true:=by
  unfold Bm.live
  cases e:b.al with
  | none=>rfl
  | some j=>rw [e] at hlv; exact CG hr (by simpa using hlv)
 obtain ⟨q,h1,_,_⟩:=hI.boxes kb b hk hlive;rw [hbs] at h1;unfold wpOp;simp only [hoo];rw [if_pos (hg m a w hI hr o hgo)];left;unfold Oper.wp;rw [hrun a.eval q w (BZ h1) (λ_=>rfl) o hop,Oper.upon_value];have:=hI.value (v:=.pointer (some ⟨q,off,none⟩)) hr hP.slots hP.dsts hp hP.ads (λx hxm hxi=>by
  have hm:x∈AD.filter λx=>x.1 == i:=List.mem_filter.2 ⟨hxm,by simp [hxi]⟩
  rw [hx] at hm;have e:x=(i,t,off):=by simpa using hm
  subst e;exact ⟨q,h1,rfl⟩) (Below.refl _ _) (λd hd=>hP.lt hd) (by rw [hF]; trivial)
 rw [hd] at this;have hod:o.dst=some d:=by unfold AF at hd; rw [hoo] at hd; exact hd
 rw [hod];exact this
theorem fH(hP:EV ops N BX AD){i:Nat}{g:Option (Nat × Bool)}{op:Op}(ho:C7 ops i g op)(hp:BF BX i=true)(hna:Du AD i=true)
  (h:∀ m a w,ES ops N Wb W0 a0 F BX AD m a w→i∈Region.ready .any ops m→DO ops a g true∧∃ f vs,(∀ o:Oper,o.op=op→(execOp a.eval o).run Tryz.prog w = .ok (.enter f vs) w)∧Calls Tryz.prog f vs w (Aj (F.getD i Ca) w)):CU ops N Wb W0 a0 F BX AD i:=by
 intro Q m a w hI hr;obtain ⟨hg,f,vs,hrun,hc⟩:=h m a w hI hr;obtain ⟨o,hoo,hgo,hop⟩:=ho.get;unfold wpOp;simp only [hoo];rw [if_pos (hg o hgo)];left;unfold Oper.wp;rw [hrun o hop,Oper.upon_enter];refine hc.mono ?_
 rintro e w' ⟨v,rfl,hv,hb⟩
 have:=hI.value hr hP.slots hP.dsts hp hP.ads (Ie hna) hb (λd hd=>hP.lt hd) hv;unfold AF at this;rw [hoo] at this;exact this
theorem O6(hP:EV ops N BX AD){i:Nat}{g:Option (Nat × Bool)}{op:Op}(ho:C7 ops i g op)(hp:BF BX i=true)(hna:Du AD i=true)(hF:∀ w,(F.getD i Ca).p undef w)
  (h:∀ m a w,ES ops N Wb W0 a0 F BX AD m a w→i∈Region.ready .any ops m→DO ops a g false):CU ops N Wb W0 a0 F BX AD i:=by
 intro Q m a w hI hr;obtain ⟨o,hoo,hgo,hop⟩:=ho.get;unfold wpOp;simp only [hoo];rw [if_neg (by rw [h m a w hI hr o hgo]; exact Bool.false_ne_true)];have:=hI.value (v:=undef) hr hP.slots hP.dsts hp hP.ads (Ie hna) (Below.refl _ _) (λd hd=>hP.lt hd) (hF w);unfold AF at this;rw [hoo] at this;exact this
theorem ES.made{m:Array Bool}{a:Act}{w:World}{i d k:Nat}{b:Bm}{ob:Obj}(h:ES ops N Wb W0 a0 F BX AD m a w)(hr:i∈Region.ready .any ops m)(hs:Ks ops BX=true)(hn:GH ops=true)
  (hk:BX[k]? = some b) (ha:b.al=some i) (hd:AF ops i=some d) (hds:d=b.slot) (hst:(match b.st with | none=>true | some s=>(B_ ops s).contains i)=true) (hal:(BX.map (·.al)).count (some i)=1) (hsn:(BX.all λc=>c.st != some i)=true) (had:adB ops BX AD=true) (hna:Du AD i=true)
  (hN:d<N) (hv:(F.getD i Ca).p (.pointer (some ⟨w.heap.size,0,none⟩)) (w.alloc ob)) (hz:b.old.p w.heap.size (w.alloc ob)) :
  ES ops N Wb W0 a0 F BX AD (m.setIfInBounds i true) (a.put (some d) (.pointer (some ⟨w.heap.size,0,none⟩))) (w.alloc ob):=by
 have hb:=Ai w ob;have hg:=Bt.of_below hb;have ne:∀ t,d≠t→(a.put (some d) (.pointer (some ⟨w.heap.size,0,none⟩))).tmps[t]? = a.tmps[t]? := λt ht=>Dk _ ht
 have me:(a.put (some d) (.pointer (some ⟨w.heap.size,0,none⟩))).tmps[d]? = some (.pointer (some ⟨w.heap.size,0,none⟩)):=EA _ (by rw [h.size]; exact hN);have honly:∀(l:Nat)(c:Bm),BX[l]? = some c→c.al=some i→l=k:=by
  intro l c hl hc;have key:∀(L:List Bm)(k l:Nat)(b c:Bm),L[k]? = some b→L[l]? = some c→b.al=some i→c.al=some i→(L.map (·.al)).count (some i)≤1→l=k:=by
   intro L
   induction L with
   | nil=>intro k l b c h; simp at h
   | cons x r ih =>
    intro k l b c hk hl hb hc hcnt;have mem:∀(q:Nat)(y:Bm),r[q]? = some y→y.al=some i→0<(r.map (·.al)).count (some i):=λq y hq hy =>
     List.count_pos_iff.2 (List.mem_map.2 ⟨y,List.mem_of_getElem? hq,hy⟩)
    cases k with
    | zero=>cases l with
     | zero=>rfl
     | succ l =>
      exfalso;simp only [List.getElem?_cons_zero,Option.some.injEq] at hk;simp only [List.getElem?_cons_succ] at hl;have:=mem l c hl hc;rw [List.map_cons,hk,hb,List.count_cons_self] at hcnt;omega
    | succ k=>cases l with
     | zero =>
      exfalso;simp only [List.getElem?_cons_zero,Option.some.injEq] at hl;simp only [List.getElem?_cons_succ] at hk;have:=mem k b hk hb;rw [List.map_cons,hl,hc,List.count_cons_self] at hcnt;omega
     | succ l =>
      simp only [List.getElem?_cons_succ] at hk hl;refine congrArg (· + 1) (ih k l b c hk hl hb hc ?_);rw [List.map_cons] at hcnt;exact Nat.le_trans List.count_le_count_cons hcnt
  exact key BX k l b c hk hl ha hc (by omega)
 have hst':∀ c∈BX,c.st≠some i:=λc hc=>by
  have:=List.all_eq_true.1 hsn c hc;simpa using this
 refine ⟨by simp [Act.put,h.size],λt ht=>(ne t (λe=>by have h1:=ht i (by rw [hd,e]); rw [JO (by rw [h.len]; exact Fi hr)] at h1; cases h1)).trans (h.low t λj hj=>Oy (ht j hj)),h.defers,Ac h.below hb,h.grow.trans hg,by rw [Array.size_setIfInBounds]; exact h.len,Gu h.closed hr,?_,?_,?_,?_⟩
 ·intro j e hj hje
  rcases Bk hj with rfl | hj
  ·rw [hd] at hje
   obtain rfl:=Option.some.inj hje;exact ⟨_,me,hv⟩
  ·obtain ⟨u,h1,h2⟩:=h.facts j e hj hje
   refine ⟨u,(ne e ?_).trans h1,(F.getD j Ca).st _ _ _ hg h2⟩
   rintro rfl
   have:=FT hn hd hje;subst this;rw [CD hr] at hj
   cases hj
 ·intro l c hl hlive
  rw [Lg (hst' c (List.mem_of_getElem? hl))]
  by_cases e:l=k
  ·subst e
   rw [hk] at hl;obtain rfl:=Option.some.inj hl;refine ⟨w.heap.size,by rw [← hds]; exact me,h.below.size,?_⟩;have:b.cur m=b.old:=by
    unfold Bm.cur
    cases es:b.st with
    | none=>rfl
    | some s =>
     rw [es] at hst;simp only [];rw [h.waits (CD hr) (by simpa using hst)];rfl
   rw [this];exact hz
  ·have hca:c.al≠some i:=λhc=>e (honly l c hl hc)
   rw [Ce hca] at hlive;obtain ⟨g,h1,h2,h3⟩:=h.boxes l c hl hlive;obtain ⟨cs,T,hc,_⟩:=(c.cur m).ty _ _ h3;exact ⟨g,(ne _ (DE hs hn hl hd hca)).trans h1,h2,(c.cur m).st _ _ _ hg (hb.block g (AJ hc)) h3⟩
 ·have fresh:∀(l:Nat)(c:Bm),BX[l]? = some c→c.al≠some i→c.live m=true→some (Value.pointer (some ⟨w.heap.size,0,none⟩))≠a.tmps[c.slot]? := by
   intro l c hl hca hlive;obtain ⟨g,h1,_,h3⟩:=h.boxes l c hl hlive;obtain ⟨cs,T,hc,_⟩:=(c.cur m).ty _ _ h3;have:=AJ hc;rw [h1];intro e;simp only [Option.some.injEq,Value.pointer.injEq,Addr.mk.injEq] at e;omega
  intro x y bx by_ hx hy hne hlx hly
  by_cases ex:x=k
  ·subst ex
   have hya:by_.al≠some i:=λhc=>hne (honly y by_ hy hc).symm
   rw [hk] at hx;obtain rfl:=Option.some.inj hx;rw [Ce hya] at hly;rw [← hds,me,ne _ (DE hs hn hy hd hya)];exact fresh y by_ hy hya hly
  ·have hxa:bx.al≠some i:=λhc=>ex (honly x bx hx hc)
   rw [Ce hxa] at hlx
   by_cases ey:y=k
   ·subst ey
    rw [hk] at hy;obtain rfl:=Option.some.inj hy;rw [← hds,me,ne _ (DE hs hn hx hd hxa)];exact (fresh x bx hx hxa hlx).symm
   ·have hya:by_.al≠some i:=λhc=>ey (honly y by_ hy hc)
    rw [Ce hya] at hly;rw [ne _ (DE hs hn hx hd hxa),ne _ (DE hs hn hy hd hya)];exact h.apart x y bx by_ hx hy hne hlx hly
 ·exact h.addrs_put hr hs hn had hd hN (Ie hna)
theorem OT(hP:EV ops N BX AD){i d:Nat}{op:Op}(k:Nat)(b:Bm)(ho:C7 ops i none op)(hd:AF ops i=some d)(hk:BX[k]? = some b)(ha:b.al=some i)(hds:d=b.slot)
  (hst:(match b.st with | none=>true | some s=>(B_ ops s).contains i)=true) (hal:(BX.map (·.al)).count (some i)=1) (hsn:(BX.all λc=>c.st != some i)=true) (hna:Du AD i=true)
  (h:∀ m a w,ES ops N Wb W0 a0 F BX AD m a w→i∈Region.ready .any ops m→∃ ob,(∀ o:Oper,o.op=op→(execOp a.eval o).run Tryz.prog w = .ok (.value (.pointer (some ⟨w.heap.size,0,none⟩))) (w.alloc ob))∧(F.getD i Ca).p (.pointer (some ⟨w.heap.size,0,none⟩)) (w.alloc ob)∧b.old.p w.heap.size (w.alloc ob)):CU ops N Wb W0 a0 F BX AD i:=by
 intro Q m a w hI hr;obtain ⟨ob,hrun,hv,hz⟩:=h m a w hI hr;obtain ⟨o,hoo,hgo,hop⟩:=ho.get;unfold wpOp;simp only [hoo];rw [if_pos (D0 o hgo)];left;unfold Oper.wp;rw [hrun o hop,Oper.upon_value];have hod:o.dst=some d:=by unfold AF at hd; rw [hoo] at hd; exact hd
 rw [hod];exact hI.made hr hP.slots hP.dsts hk ha hd hds hst hal hsn hP.ads hna (hP.lt hd) hv hz
theorem ES.store{m:Array Bool}{a:Act}{w w':World}{i k g:Nat}{b:Bm}(h:ES ops N Wb W0 a0 F BX AD m a w)(hr:i∈Region.ready .any ops m)
  (hk:BX[k]? = some b) (hl:b.live m=true) (hb:b.st=some i) (hd:AF ops i=none) (hst:(BX.map (·.st)).count (some i)=1) (haln:(BX.all λc=>c.al != some i)=true)
  (hg:a.tmps[b.slot]? = some (.pointer (some ⟨g,0,none⟩))) (hB:Below Wb.heap.size Wb w') (hgr:Bt w w') (hoth:∀ j,j≠g→w'.heap[j]? = w.heap[j]?) (hnew:b.new.p g w') :
  ES ops N Wb W0 a0 F BX AD (m.setIfInBounds i true) a w':=by
 have honly:∀(l:Nat)(c:Bm),BX[l]? = some c→c.st=some i→l=k:=by
  intro l c hl hc;have key:∀(L:List Bm)(k l:Nat)(b c:Bm),L[k]? = some b→L[l]? = some c→b.st=some i→c.st=some i→(L.map (·.st)).count (some i)≤1→l=k:=by
   intro L
   induction L with
   | nil=>intro k l b c h; simp at h
   | cons x r ih =>
    intro k l b c hk hl hb hc hcnt;have mem:∀(q:Nat)(y:Bm),r[q]? = some y→y.st=some i→0<(r.map (·.st)).count (some i):=λq y hq hy =>
     List.count_pos_iff.2 (List.mem_map.2 ⟨y,List.mem_of_getElem? hq,hy⟩)
    cases k with
    | zero=>cases l with
     | zero=>rfl
     | succ l =>
      exfalso;simp only [List.getElem?_cons_zero,Option.some.injEq] at hk;simp only [List.getElem?_cons_succ] at hl;have:=mem l c hl hc;rw [List.map_cons,hk,hb,List.count_cons_self] at hcnt;omega
    | succ k=>cases l with
     | zero =>
      exfalso;simp only [List.getElem?_cons_zero,Option.some.injEq] at hl;simp only [List.getElem?_cons_succ] at hk;have:=mem k b hk hb;rw [List.map_cons,hl,hc,List.count_cons_self] at hcnt;omega
     | succ l =>
      simp only [List.getElem?_cons_succ] at hk hl;refine congrArg (· + 1) (ih k l b c hk hl hb hc ?_);rw [List.map_cons] at hcnt;exact Nat.le_trans List.count_le_count_cons hcnt
  exact key BX k l b c hk hl hb hc (by omega)
 have hal':∀ c∈BX,c.al≠some i:=λc hc=>by
  have:=List.all_eq_true.1 haln c hc;simpa using this
 refine ⟨h.size,λt ht=>h.low t λj hj=>Oy (ht j hj),h.defers,hB,h.grow.trans hgr,by rw [Array.size_setIfInBounds]; exact h.len,Gu h.closed hr,?_,?_,?_,?_⟩
 ·intro j d hj hjd
  rcases Bk hj with rfl | hj
  ·rw [hd] at hjd; cases hjd
  ·obtain ⟨u,h1,h2⟩:=h.facts j d hj hjd
   exact ⟨u,h1,(F.getD j Ca).st _ _ _ hgr h2⟩
 ·intro l c hl' hlive
  rw [Ce (hal' c (List.mem_of_getElem? hl'))] at hlive
  by_cases e:l=k
  ·subst e
   rw [hk] at hl';obtain rfl:=Option.some.inj hl';obtain ⟨g',h1,h2,h3⟩:=h.boxes l b hk hlive;rw [hg] at h1;simp only [Option.some.injEq,Value.pointer.injEq,Addr.mk.injEq,and_true] at h1;subst h1;refine ⟨g,hg,h2,?_⟩;have:b.cur (m.setIfInBounds i true)=b.new:=by
    unfold Bm.cur;rw [hb];simp only [];have hi:i<m.size:=by
     obtain ⟨_,o,ho,_⟩:=mem_ready.1 hr;rw [h.len];exact (Array.getElem?_eq_some_iff.1 ho).1
    rw [if_pos];simp [Array.getD_eq_getD_getElem?,hi]
   rw [this];exact hnew
  ·have hcs:c.st≠some i:=λhc=>e (honly l c hl' hc)
   rw [Lg hcs];obtain ⟨g',h1,h2,h3⟩:=h.boxes l c hl' hlive;have hne:g'≠g:=by
    rintro rfl
    exact h.apart l k c b hl' hk e hlive hl (h1.trans hg.symm)
   exact ⟨g',h1,h2,(c.cur m).st _ _ _ hgr (hoth g' hne) h3⟩
 ·intro x y bx by_ hx hy hne hlx hly
  rw [Ce (hal' bx (List.mem_of_getElem? hx))] at hlx;rw [Ce (hal' by_ (List.mem_of_getElem? hy))] at hly;exact h.apart x y bx by_ hx hy hne hlx hly
 ·intro x hx hm e he
  rcases Bk hm with e1 | e1
  ·rw [e1,hd] at he; cases he
  ·exact h.addrs x hx e1 e he
theorem Mt{i:Nat}{op:Op}(k:Nat)(b:Bm)(ho:C7 ops i none op)(hd:AF ops i=none)(hk:BX[k]? = some b)(hb:b.st=some i)(hst:(BX.map (·.st)).count (some i)=1)(haln:(BX.all λc=>c.al != some i)=true)
  (hlv:(match b.al with | none=>true | some j=>(B_ ops i).contains j)=true)
  (h:∀ m a w g,ES ops N Wb W0 a0 F BX AD m a w→i∈Region.ready .any ops m→a.tmps[b.slot]? = some (.pointer (some ⟨g,0,none⟩))→Wb.heap.size≤g→b.old.p g w →
   ∃ w',(∀ o:Oper,o.op=op→(execOp a.eval o).run Tryz.prog w = .ok .skip w')∧Below Wb.heap.size Wb w'∧Bt w w'∧(∀ j,j≠g→w'.heap[j]? = w.heap[j]?)∧b.new.p g w'):CU ops N Wb W0 a0 F BX AD i:=by
 intro Q m a w hI hr
 have hlive:b.live m=true:=by
  unfold Bm.live
  cases e:b.al with
  | none=>rfl
  | some j=>rw [e] at hlv; exact CG hr (by simpa using hlv)
 obtain ⟨g,h1,h2,h3⟩:=hI.boxes k b hk hlive
 have hcur:b.cur m=b.old:=by
  unfold Bm.cur
  rw [hb]
  simp only []
  rw [CD hr]
  rfl
 rw [hcur] at h3
 obtain ⟨w',hrun,hB,hgr,hoth,hnew⟩:=h m a w g hI hr h1 h2 h3
 obtain ⟨o,hoo,hgo,hop⟩:=ho.get
 unfold wpOp
 simp only [hoo]
 rw [if_pos (D0 o hgo)]
 left
 unfold Oper.wp
 rw [hrun o hop,Oper.upon_skip]
 have hod:o.dst=none:=by unfold AF at hd; rw [hoo] at hd; exact hd
 rw [hod]
 exact hI.store hr hk hlive hb hd hst haln h1 hB hgr hoth hnew
def M8(ops:Array Oper)(N:Nat)(Wb W0:World)(a0:Act)(F:List PF)(BX:List Bm)(AD:List (Nat × Nat × Nat))(k:Nat):Prop:=∀ i,i<k→CU ops N Wb W0 a0 F BX AD i
theorem Z0:M8 ops N Wb W0 a0 F BX AD 0:=λi hi=>absurd hi (Nat.not_lt_zero i)
theorem Gq{k:Nat}(h:M8 ops N Wb W0 a0 F BX AD k)(h':CU ops N Wb W0 a0 F BX AD k):M8 ops N Wb W0 a0 F BX AD (k+1):=λi hi=>by
 rcases Nat.lt_succ_iff_lt_or_eq.1 hi with hi | rfl
 ·exact h i hi
 ·exact h'
theorem jE(h:Sq ops=true){i:Nat}{o:Oper}(ho:ops[i]? = some o){e:Edge}(he:e∈o.after)(hb:Region.binds .any e=true):e.on<i:=by
 have h1:=List.all_eq_true.1 h i (List.mem_range.2 (Array.getElem?_eq_some_iff.1 ho).1);refine of_decide_eq_true (List.all_eq_true.1 h1 e.on ?_);unfold B_;rw [ho];simp only [Option.map_some,Option.getD_some,List.mem_map,List.mem_filter];exact ⟨e,⟨by simpa using he,hb⟩,rfl⟩
theorem Hf(hdag:Sq ops=true){m:Array Bool}(hm:m.size=ops.size)(hr:Region.ready .any ops m=[]):∀ i,i<ops.size→m.getD i false=true:=by
 intro i
 induction i using Nat.strongRecOn with
 | _ i ih =>
  intro hi
  cases e:m.getD i false with
  | true=>rfl
  | false =>
   exfalso;have:i∈Region.ready .any ops m:=by
    rw [mem_ready];refine ⟨by simpa [Array.getD_eq_getD_getElem?,show i<m.size by omega] using e,ops[i],Array.getElem?_eq_some_iff.2 ⟨hi,rfl⟩,λed he hb=>?_⟩;have:=jE hdag (Array.getElem?_eq_some_iff.2 ⟨hi,rfl⟩) he hb;exact ih ed.on this (by omega)
   rw [hr] at this
   cases this
def cnt(n:Nat)(m:Array Bool):Nat:=((List.range n).filter λi=>!m.getD i true).length
theorem O8{α:Type}(p q:α→Bool):∀(l:List α),(∀ x∈l,q x=true→p x=true)→(∃ x∈l,p x=true∧q x=false)→(l.filter q).length<(l.filter p).length
 | [],_,⟨x,hx,_⟩=>by cases hx
 | y :: r,himp,⟨x,hx,hp,hq⟩=>by
  have hle:∀(l:List α),(∀ x∈l,q x=true→p x=true)→(l.filter q).length≤(l.filter p).length:=λl=>by
   induction l with
   | nil=>intro _; exact Nat.le_refl _
   | cons z s ih =>
    intro h;have:=ih (λx hx=>h x (by simp [hx]))
    cases hqz:q z with
    | false=>rw [List.filter_cons_of_neg (by simp [hqz])]; cases hpz:p z with
     | false=>rw [List.filter_cons_of_neg (by simp [hpz])]; exact this
     | true=>rw [List.filter_cons_of_pos hpz]; simp only [List.length_cons]; omega
    | true=>rw [List.filter_cons_of_pos hqz,List.filter_cons_of_pos (h z (by simp) hqz)]; simp only [List.length_cons]; omega
  rcases List.mem_cons.1 hx with rfl | hx
  ·rw [List.filter_cons_of_neg (by simp [hq]),List.filter_cons_of_pos hp]
   have:=hle r (λx hx=>himp x (by simp [hx]));simp only [List.length_cons];omega
  ·have:=O8 p q r (λx hx=>himp x (by simp [hx])) ⟨x,hx,hp,hq⟩
   cases hqz:q y with
   | false=>rw [List.filter_cons_of_neg (by simp [hqz])]; cases hpz:p y with
    | false=>rw [List.filter_cons_of_neg (by simp [hpz])]; exact this
    | true=>rw [List.filter_cons_of_pos hpz]; simp only [List.length_cons]; omega
   | true=>rw [List.filter_cons_of_pos hqz,List.filter_cons_of_pos (himp y (by simp) hqz)]; simp only [List.length_cons]; omega
theorem Ll{n i:Nat}{m:Array Bool}(hi:i<n)(hn:m.size=n)(h:m.getD i true=false):cnt n (m.setIfInBounds i true)<cnt n m:=by
 unfold cnt;refine O8 _ _ _ ?_ ⟨i,List.mem_range.2 hi,by rw [h]; rfl,?_⟩
 ·intro j _ hj
  by_cases e:i=j
  ·subst e; rw [h]; rfl
  ·rwa [getD_set_ne true e] at hj
 ·simp [Array.getD_eq_getD_getElem?,show i<m.size by omega]
theorem Sb{Q:Exit→Act→World→Prop}(hdag:Sq ops=true)(hs:M8 ops N Wb W0 a0 F BX AD ops.size)
  (fin:∀ m a w,ES ops N Wb W0 a0 F BX AD m a w→(∀ i,i<ops.size→m.getD i false=true)→Q .normal a w) :
  ∀(fuel:Nat)(m:Array Bool)(a:Act)(w:World),cnt ops.size m≤fuel→ES ops N Wb W0 a0 F BX AD m a w→wpAny Tryz.prog .any ops Q fuel m a w:=by
 intro fuel
 induction fuel with
 | zero =>
  intro m a w hc hI;have hr:Region.ready .any ops m=[]:=by
   apply List.eq_nil_iff_forall_not_mem.2;intro i hi;obtain ⟨h0,o,ho,_⟩:=mem_ready.1 hi;have:=Ll (Array.getElem?_eq_some_iff.1 ho).1 hI.len h0;omega
  exact ⟨hr,fin m a w hI (Hf hdag hI.len hr)⟩
 | succ fuel ih =>
  intro m a w hc hI;refine ⟨λhr=>fin m a w hI (Hf hdag hI.len hr),λi hi=>?_⟩;obtain ⟨h0,o,ho,_⟩:=mem_ready.1 hi;have hlt:=(Array.getElem?_eq_some_iff.1 ho).1;refine wpOp_mono (λa' w' h=>ih _ a' w' ?_ h) (hs i hlt Q m a w hI hi);have:=Ll hlt hI.len h0;omega
theorem R7{Q:Exit→Act→World→Prop}(hdag:Sq ops=true)(hs:M8 ops N Wb W0 a0 F BX AD ops.size)
  (fin:∀ m a w,ES ops N Wb W0 a0 F BX AD m a w→(∀ i,i<ops.size→m.getD i false=true)→Q .normal a w) :
  ∀(j k:Nat)(m:Array Bool)(a:Act)(w:World),k+j=ops.size→(∀ i,m.getD i false=decide (i<k))→ES ops N Wb W0 a0 F BX AD m a w→wpOps Tryz.prog ops Q (List.range' k j) a w:=by
 intro j
 induction j with
 | zero =>
  intro k m a w hk hm hI;exact fin m a w hI (λi hi=>by rw [hm i]; simp; omega)
 | succ j ih =>
  intro k m a w hk hm hI;rw [List.range'_succ,wpOps_cons];have hlt:k<ops.size:=by omega
  refine wpOp_mono (λa' w' h=>ih (k+1) _ a' w' (by omega) ?_ h) (hs k hlt Q m a w hI ?_)
  ·intro i
   by_cases e:k=i
   ·subst e
    simp [Array.getD_eq_getD_getElem?,show k<m.size by rw [hI.len]; exact hlt]
   ·rw [getD_set_ne false e,hm i]
    simp; omega
  ·rw [mem_ready]
   refine ⟨?_,ops[k],Array.getElem?_eq_some_iff.2 ⟨hlt,rfl⟩,λe he hb=>?_⟩
   ·have:=hm k
    simp only [Nat.lt_irrefl,decide_false] at this;simpa [Array.getD_eq_getD_getElem?,show k<m.size by rw [hI.len]; exact hlt] using this
   ·have:=jE hdag (Array.getElem?_eq_some_iff.2 ⟨hlt,rfl⟩) he hb
    rw [hm];simpa using this
theorem GM{B:List (Nat × CF)}{BX:List Bm}{m:Array Bool}{a:Act}{w:World}(hB:DJ Wb B a w)(hm:∀ i,m.getD i false=false)(hx:BX.filter (·.al.isNone)=BX.take B.length)(hmap:(BX.take B.length).map (λb=>(b.slot,b.old))=B)
  (k:Nat) (b:Bm) (hk:BX[k]? = some b) (hl:b.live m=true):k<B.length∧B[k]? = some (b.slot,b.old)∧∃ g,a.tmps[b.slot]? = some (.pointer (some ⟨g,0,none⟩))∧Wb.heap.size≤g∧(b.cur m).p g w:=by
 have hal:b.al=none:=by
  unfold Bm.live at hl
  cases e:b.al with
  | none=>rfl
  | some j=>rw [e] at hl; simp only [hm j] at hl; cases hl
 have hlt:k<B.length:=by
  have key:∀(L:List Bm)(n k:Nat)(b:Bm),L.filter (·.al.isNone)=L.take n→L[k]? = some b→b.al=none→k<n:=by
   intro L
   induction L with
   | nil=>intro n k b _ h; simp at h
   | cons x r ih =>
    intro n k b hf hk hb
    cases n with
    | zero =>
     exfalso;rw [List.take_zero] at hf;have:b∈(x :: r).filter (·.al.isNone):=List.mem_filter.2 ⟨List.mem_of_getElem? hk,by simp [hb]⟩;rw [hf] at this
     cases this
    | succ n =>
     cases k with
     | zero=>omega
     | succ k =>
      rw [List.take_succ_cons] at hf;simp only [List.getElem?_cons_succ] at hk
      cases hx:x.al with
      | none =>
       rw [List.filter_cons_of_pos (by simp [hx])] at hf;have:=ih n k b (List.cons.inj hf).2 hk hb;omega
      | some j =>
       exfalso;rw [List.filter_cons_of_neg (by simp [hx])] at hf;have:x∈r.filter (·.al.isNone):=by rw [hf]; simp
       have:=(List.mem_filter.1 this).2;simp [hx] at this
  exact key BX B.length k b hx hk hal
 have hget:B[k]? = some (b.slot,b.old):=by
  rw [← hmap,List.getElem?_map,List.getElem?_take,if_pos hlt,hk];rfl
 refine ⟨hlt,hget,?_⟩;have:b.cur m=b.old:=by
  unfold Bm.cur
  cases e:b.st with
  | none=>rfl
  | some s=>simp only []; rw [hm s]; rfl
 rw [this];exact hB.get hget
theorem ES.start{S:List (Nat × PF)}{B:List (Nat × CF)}(n:Nat)(w0:World)(hW:w0=W0 ∨ w0=W0.drew)(h:St Wb N S B a0 W0)(hn:n=ops.size)(hx:BX.filter (·.al.isNone)=BX.take B.length)(hmap:(BX.take B.length).map (λb=>(b.slot,b.old))=B) :
  ES ops N Wb W0 a0 F BX AD (Array.replicate n false) a0 w0:=by
 have hm:∀ i,(Array.replicate n false).getD i false=false:=λi=>by
  simp [Array.getD_eq_getD_getElem?,Array.getElem?_replicate];split <;> rfl
 have hb:Below Wb.heap.size Wb w0:=by
  rcases hW with rfl | rfl
  ·exact h.below
  ·exact h.below.drew
 have hg:Bt W0 w0:=by
  rcases hW with rfl | rfl
  ·exact Bt.refl _
  ·exact ⟨Nat.le_refl _,λ_ _ _ e=>e,λ_ _ _ e=>e⟩
 have hheap:∀ g:Nat,w0.heap[g]? = W0.heap[g]? := by
  rcases hW with rfl | rfl
  ·intro g; rfl
  ·intro g; rfl
 refine ⟨h.size,λ_ _=>rfl,h.defers,hb,hg,by simp [hn],λi j hi=>by (rw [hm i] at hi; cases hi),λi d hi=>by (rw [hm i] at hi; cases hi),?_,?_,λx _ hx=>by (rw [hm] at hx; cases hx)⟩
 ·intro k b hk hl
  obtain ⟨_,_,g,h1,h2,h3⟩:=GM h.boxes hm hx hmap k b hk hl;exact ⟨g,h1,h2,(b.cur _).st _ _ _ hg (hheap g) h3⟩
 ·intro k l b c hk hl hne hbl hcl
  obtain ⟨lk,gk,_⟩:=GM h.boxes hm hx hmap k b hk hbl;obtain ⟨ll,gl,_⟩:=GM h.boxes hm hx hmap l c hl hcl;have hp:=List.pairwise_iff_getElem.1 h.apart;rw [List.getElem?_eq_getElem lk] at gk;rw [List.getElem?_eq_getElem ll] at gl;have ek:=Option.some.inj gk;have el:=Option.some.inj gl
  rcases Nat.lt_or_gt_of_ne hne with h1 | h1
  ·have:=hp k l lk ll h1
   rw [ek,el] at this;exact this
  ·have:=hp l k ll lk h1
   rw [ek,el] at this;exact this.symm
theorem Oq{Q:Exit→Act→World→Prop}{S S':List (Nat × PF)}{B:List (Nat × CF)}{id:Nat}{dr:Bool}(hP:EV ops N BX AD)(hst:St Wb N S B a0 W0)(hx:BX.filter (·.al.isNone)=BX.take B.length)(hmap:(BX.take B.length).map (λb=>(b.slot,b.old))=B)
  (hs:M8 ops N Wb W0 a0 F BX AD ops.size)
  (hS':∀ m a w,ES ops N Wb W0 a0 F BX AD m a w→(∀ i,i<ops.size→m.getD i false=true)→Ey S' a w)
  (fin:∀ a w,St Wb N S' (BX.map λb=>(b.slot,b.fin)) a w→Q .normal a w):(Code.region id ops dr).wp Tryz.prog Q a0 W0:=by
 have fin':∀ m a w,ES ops N Wb W0 a0 F BX AD m a w→(∀ i,i<ops.size→m.getD i false=true)→Bt Wb W0→Q .normal a w:=by
  intro m a w hI hm hG;have live:∀ b∈BX,b.live m=true:=λb hb=>by
   unfold Bm.live
   cases e:b.al with
   | none=>rfl
   | some i =>
    have:=List.all_eq_true.1 hP.slots b hb;rw [e] at this;have h2:AF ops i=some b.slot:=by simpa using this
    unfold AF at h2
    cases ho:ops[i]? with
    | none=>rw [ho] at h2; cases h2
    | some o=>exact hm i (Array.getElem?_eq_some_iff.1 ho).1
  have cur:∀ b∈BX,b.cur m=b.fin:=λb hb=>by
   have h1:=List.all_eq_true.1 hP.sts b hb;unfold Bm.cur Bm.fin
   cases e:b.st with
   | none=>rfl
   | some s =>
    rw [e] at h1;simp only [] at h1 ⊢;rw [hm s (of_decide_eq_true h1)];rfl
  refine fin a w ⟨hI.size,hI.defers,hI.below,hG.trans hI.grow,hS' m a w hI hm,?_,?_⟩
  ·have key:∀(L:List Bm),(∀ b∈L,∃ g,a.tmps[b.slot]? = some (.pointer (some ⟨g,0,none⟩))∧Wb.heap.size≤g∧b.fin.p g w)→DJ Wb (L.map λb=>(b.slot,b.fin)) a w:=by
    intro L
    induction L with
    | nil=>intro _; trivial
    | cons x r ih=>intro h; exact ⟨h x (by simp),ih λb hb=>h b (by simp [hb])⟩
   refine key BX λb hb=>?_
   obtain ⟨k,hk⟩:=List.getElem?_of_mem hb;obtain ⟨g,h1,h2,h3⟩:=hI.boxes k b hk (live b hb);rw [cur b hb] at h3;exact ⟨g,h1,h2,h3⟩
  ·rw [List.pairwise_map]
   refine List.pairwise_iff_getElem.2 λi j hi hj hij=>?_
   exact hI.apart i j _ _ (List.getElem?_eq_getElem hi) (List.getElem?_eq_getElem hj) (by omega) (live _ (List.getElem_mem hi)) (live _ (List.getElem_mem hj))
 cases dr with
 | true =>
  refine wp_region_any (by kernel_rfl) ?_;refine Sb hP.dag hs (λm a w hI hm=>fin' m a w hI hm hst.grow) _ _ _ _ ?_ (ES.start _ W0.drew (.inr rfl) hst rfl hx hmap);unfold cnt;exact Nat.le_trans (List.length_filter_le _ _) (by simp)
 | false =>
  refine wp_region ?_;rw [List.range_eq_range'];refine R7 hP.dag hs (λm a w hI hm=>fin' m a w hI hm hst.grow) _ 0 _ _ _ (by omega) ?_ (ES.start ops.size W0 (.inl rfl) hst rfl hx hmap);intro i;simp [Array.getD_eq_getD_getElem?,Array.getElem?_replicate];split <;> rfl
end
def DH(fn:Func):Code:=fn.body.getD .skip
def cl:Code→Code | .seq a _=>a | .cond _ a _=>a | .loop a=>a | .block _ a=>a | c=>c
def cr:Code→Code | .seq _ b=>b | .cond _ _ b=>b | c=>c
def Ba:Code→Array Oper | .region _ ops _=>ops | _=>#[]
theorem U4{args:Array Value}{n k:Nat}{v:Value}(h:args[k]? = some v):(args ++ Array.replicate n undef)[k]? = some v:=by
 rw [Array.getElem?_append_left (Array.getElem?_eq_some_iff.1 h).1];exact h
theorem mR{f:FuncId}{fn:Func}{N:Nat}{args:Array Value}{w:World}{R:Ending→World→Prop}{S:List (Nat × PF)}(hf:Tryz.prog.funcs[f]? = some fn)(hb:fn.body.isSome=true)(hN:fn.ntmps=N)(hs:args.size≤N)
  (hS:∀ x∈S,∃ v,args[x.1]? = some v∧x.2.p v w)
  (h:∀ a,St w N S [] a w→(DH fn).wp Tryz.prog (bodyPost Tryz.prog fn R) a w):Calls Tryz.prog f args w R:=by
 obtain ⟨c,hc⟩:=Option.isSome_iff_exists.1 hb;refine calls_of_wp hf hc ?_;have hbo:DH fn=c:=by unfold DH; rw [hc]; rfl
 rw [hbo] at h;refine h _ ⟨by simp [hN]; omega,rfl,Below.refl _ _,Bt.refl _,?_,trivial,List.Pairwise.nil⟩;have key:∀(L:List (Nat × PF)),(∀ x∈L,∃ v,args[x.1]? = some v∧x.2.p v w)→Ey L { tmps:=args ++ Array.replicate (fn.ntmps - args.size) undef,defers:=[] } w:=by
  intro L
  induction L with
  | nil=>intro _; trivial
  | cons x r ih =>
   intro h;obtain ⟨v,h1,h2⟩:=h x (by simp);exact ⟨⟨v,U4 h1,h2⟩,ih λy hy=>h y (by simp [hy])⟩
 exact key S hS
section
variable {Wb : World} {N : Nat} {S : List (Nat × PF)} {B : List (Nat × CF)} {a : Act} {w : World}
theorem Lu{fn:Func}{t:Nat}{R:PF}(hst:St Wb N S B a w)(hr:fn.results = #[.tmp t])(k:Nat)(hk:S[k]? = some (t,R)):bodyPost Tryz.prog fn (Aj R Wb) .ret a w:=by
 obtain ⟨v,h1,h2⟩:=hst.slots.get hk;refine bodyPost_ret (results_tmp hr a.tmps _ w) hst.defers ?_;have hv:a.tmps.getD t undef=v:=by
  have:=BZ h1;simpa [Act.eval] using this
 rw [hv];exact ⟨v,rfl,h2,hst.below⟩
theorem CN{α:Type}{c:Code}{Q:Exit→Act→World→Prop}(J:α→Act→World→Prop)(m:α→Nat)(round:∀ x a w,J x a w→c.wp Tryz.prog (Exit.then (λa' w'=>∃ x',J x' a' w'∧m x'<m x) Q) a w)(x:α)(h:J x a w):(Code.loop c).wp Tryz.prog Q a w:=by
 refine wp_loop_rounds (m x+1) ?_;have key:∀(n:Nat)(x:α)(a:Act)(w:World),m x<n→J x a w→Code.rounds Tryz.prog c Q n a w:=by
  intro n
  induction n with
  | zero=>intro x a w h; omega
  | succ n ih =>
   intro x a w hn hJ;rw [rounds_succ];refine Code.wp_mono ?_ (round x a w hJ);intro e a' w' he
   cases e <;> first | exact he | skip
   obtain ⟨x',hJ',hm⟩:=he;exact ih x' a' w' (by omega) hJ'
 exact key _ x a w (by omega) h
theorem iX{fn:Func}{t:Nat}{z:Int}(hst:St Wb N S B a w)(hr:fn.results = #[.cell t 34])(k:Nat)(hk:B[k]? = some (t,Ak z)):bodyPost Tryz.prog fn (Aj (Af z) Wb) .ret a w:=by
 obtain ⟨g,h1,_,b,A,n,c,hh,hi⟩:=hst.boxes.get hk;have h0:w.cell? ⟨g,0,none⟩=some (.bool b):=by rw [cell_of_row w g 0 _ _ (0,0) hh]; rfl
 have h2:w.cell? ⟨g,1,none⟩=some (.slice A n c):=by rw [cell_of_row w g 1 _ _ (0,0) hh]; rfl
 refine bodyPost_ret (v:=.agg #[.bool b,.slice A n c]) ?_ hst.defers ⟨_,rfl,hi,hst.below⟩;simp [results,hr,go_sem,h0,h2,Array.getD_eq_getD_getElem?,h1]
theorem A7{t:Nat}{b:Bool}(hst:St Wb N S B a w)(k:Nat)(hk:S[k]? = some (t,Am (.bool b))):a.eval (.tmp t) = .bool b:=by
 obtain ⟨v,h1,h2⟩:=hst.slots.get hk;have h2:v = .bool b:=h2;rw [BZ h1,h2]
end
section
variable {ops : Array Oper} {N : Nat} {Wb W0 : World} {a0 : Act} {F : List PF} {BX : List Bm} {AD : List (Nat × Nat × Nat)} {S : List (Nat × PF)} {B : List (Nat × CF)} {i : Nat} {g : Option (Nat × Bool)}
def RW(ops:Array Oper)(N:Nat)(Wb W0:World)(a0:Act)(F:List PF)(BX:List Bm)(AD:List (Nat × Nat × Nat))(i:Nat)(x:Operand)(f:PF):Prop:=∀ m a w,ES ops N Wb W0 a0 F BX AD m a w→i∈Region.ready .any ops m→f.p (a.eval x) w
theorem WA{t:Nat}{f:PF}(j:Nat)(hj:(B_ ops i).contains j=true)(hd:AF ops j=some t)(hf:F.getD j Ca=f):RW ops N Wb W0 a0 F BX AD i (.tmp t) f:=λm a w hI hr=>by
 obtain ⟨v,h1,h2⟩:=hI.get hr j t f hj hd hf;rw [BZ h1]; exact h2
theorem cT{t:Nat}(h:(ops.all λo=>o.dst != some t)=true):∀ i,AF ops i≠some t:=λi hd=>by
 unfold AF at hd
 cases ho:ops[i]? with
 | none=>rw [ho] at hd; cases hd
 | some o =>
  rw [ho] at hd;have h2:=Array.all_eq_true.1 h i (Array.getElem?_eq_some_iff.1 ho).1;rw [(Array.getElem?_eq_some_iff.1 ho).2] at h2;have h3:o.dst=some t:=hd;rw [h3] at h2;simp at h2
def AgW(ops:Array Oper)(i t:Nat):Bool:=(List.range ops.size).all λs=>AF ops s != some t || reach ops 4 i s
theorem EJ{t:Nat}{f:PF}(hst:St Wb N S B a0 W0)(k:Nat)(hk:S[k]? = some (t,f))(hw:(ops.all λo=>o.dst != some t)=true){m:Array Bool}{a:Act}{w:World}(hI:ES ops N Wb W0 a0 F BX AD m a w):∃ v,a.tmps[t]? = some v∧f.p v w:=by
 obtain ⟨v,h1,h2⟩:=hst.slots.get hk;exact ⟨v,(hI.low t λi hi=>absurd hi (cT hw i)).trans h1,f.st _ _ _ hI.grow h2⟩
theorem RK{t:Nat}{f:PF}(hst:St Wb N S B a0 W0)(k:Nat)(hk:S[k]? = some (t,f))(hw:AgW ops i t=true):RW ops N Wb W0 a0 F BX AD i (.tmp t) f:=λm a w hI hr=>by
 obtain ⟨v,h1,h2⟩:=hst.slots.get hk;have hl:=hI.low t λs hs=>by
  have hlt:s<ops.size:=by
   unfold AF at hs
   cases ho:ops[s]? with
   | none=>rw [ho] at hs; cases hs
   | some o=>exact (Array.getElem?_eq_some_iff.1 ho).1
  have:=List.all_eq_true.1 hw s (List.mem_range.2 hlt);rw [hs] at this;exact hI.reach (CD hr) 4 s (by simpa using this)
 rw [BZ (hl.trans h1)]; exact f.st _ _ _ hI.grow h2
theorem eI(v:Value):RW ops N Wb W0 a0 F BX AD i (.const v) (Am v):=λ_ _ _ _ _=>rfl
def Mh(ops:Array Oper)(N:Nat)(Wb W0:World)(a0:Act)(F:List PF)(BX:List Bm)(AD:List (Nat × Nat × Nat))(i:Nat)(g:Option (Nat × Bool))(b:Bool):Prop:=∀ m a w,ES ops N Wb W0 a0 F BX AD m a w→i∈Region.ready .any ops m→DO ops a g b
theorem Mu:Mh ops N Wb W0 a0 F BX AD i none true:=λ_ _ _ _ _=>MG
theorem Afh{j d:Nat}{b c r:Bool}(hj:(B_ ops i).contains j=true)(hd:AF ops j=some d)(hf:F.getD j Ca=Am (.bool c))(hr:(c == b)=r):Mh ops N Wb W0 a0 F BX AD i (some (j,b)) r:=λ_ _ _ hI hrd=>hr ▸ hI.guard hrd j d b c hj hd hf
theorem bE{j d:Nat}{b:Bool}(hj:(B_ ops i).contains j=true)(hd:AF ops j=some d)(hf:F.getD j Ca=Am undef):Mh ops N Wb W0 a0 F BX AD i (some (j,b)) false:=λ_ _ _ hI hrd=>hI.guardU hrd j d b hj hd hf
def Vg(ops:Array Oper)(N:Nat)(Wb W0:World)(a0:Act)(F:List PF)(BX:List Bm)(AD:List (Nat × Nat × Nat))(i t off:Nat)(c:CF):Prop:=∀ m a w,ES ops N Wb W0 a0 F BX AD m a w→i∈Region.ready .any ops m→∃ q,a.tmps[t]? = some (.pointer (some ⟨q,off,none⟩))∧c.p q w
theorem Aae(k:Nat)(b:Bm)(hk:BX[k]? = some b)(hlv:(match b.al with | none=>true | some j=>(B_ ops i).contains j)=true)(hst:(match b.st with | none=>true | some s=>reach ops 4 i s)=true)
  {m:Array Bool} {a:Act} {w:World} (hI:ES ops N Wb W0 a0 F BX AD m a w) (hr:i∈Region.ready .any ops m):∃ q,a.tmps[b.slot]? = some (.pointer (some ⟨q,0,none⟩))∧b.old.p q w:=by
 have hlive:b.live m=true:=by
  unfold Bm.live
  cases e:b.al with
  | none=>rfl
  | some j=>rw [e] at hlv; exact CG hr (by simpa using hlv)
 obtain ⟨q,h1,_,h3⟩:=hI.boxes k b hk hlive;have hcur:b.cur m=b.old:=by
  unfold Bm.cur
  cases e:b.st with
  | none=>rfl
  | some s =>
   rw [e] at hst;simp only [];rw [hI.reach (CD hr) 4 s hst];rfl
 rw [hcur] at h3;exact ⟨q,h1,h3⟩
theorem yW(k:Nat)(b:Bm)(s:Nat)(hk:BX[k]? = some b)(hs:b.st=some s)(hlv:(match b.al with | none=>true | some j=>(B_ ops s).contains j)=true)(hd:(B_ ops i).contains s=true)
  {m:Array Bool} {a:Act} {w:World} (hI:ES ops N Wb W0 a0 F BX AD m a w) (hr:i∈Region.ready .any ops m):∃ q,a.tmps[b.slot]? = some (.pointer (some ⟨q,0,none⟩))∧b.new.p q w:=by
 have hsm:m.getD s false=true:=CG hr (by simpa using hd);have hlive:b.live m=true:=by
  unfold Bm.live
  cases e:b.al with
  | none=>rfl
  | some j=>rw [e] at hlv; exact hI.closed s j hsm (by simpa using hlv)
 obtain ⟨q,h1,_,h3⟩:=hI.boxes k b hk hlive;have hcur:b.cur m=b.new:=by
  unfold Bm.cur;rw [hs];simp only [];rw [hsm];rfl
 rw [hcur] at h3;exact ⟨q,h1,h3⟩
theorem To{t:Nat}{c:CF}(k:Nat)(b:Bm)(hk:BX[k]? = some b)(ht:b.slot=t)(hc:b.old=c)(hlv:(match b.al with | none=>true | some j=>(B_ ops i).contains j)=true)(hst:(match b.st with | none=>true | some s=>reach ops 4 i s)=true):Vg ops N Wb W0 a0 F BX AD i t 0 c:=λm a w hI hr=>by
 obtain ⟨q,h1,h3⟩:=Aae k b hk hlv hst hI hr;exact ⟨q,ht ▸ h1,hc ▸ h3⟩
theorem kZ{t:Nat}{c:CF}(k:Nat)(b:Bm)(s:Nat)(hk:BX[k]? = some b)(ht:b.slot=t)(hc:b.new=c)(hs:b.st=some s)(hlv:(match b.al with | none=>true | some j=>(B_ ops s).contains j)=true)(hd:(B_ ops i).contains s=true):Vg ops N Wb W0 a0 F BX AD i t 0 c:=λm a w hI hr=>by
 obtain ⟨q,h1,h3⟩:=yW k b s hk hs hlv hd hI hr;exact ⟨q,ht ▸ h1,hc ▸ h3⟩
theorem zO{t d off:Nat}{c:CF}(j:Nat)(h:Vg ops N Wb W0 a0 F BX AD i t 0 c)(hx:AD.contains (j,t,off)=true)(hd:AF ops j=some d)(hj:(B_ ops i).contains j=true):Vg ops N Wb W0 a0 F BX AD i d off c:=λm a w hI hr=>by
 obtain ⟨q,h1,h2⟩:=h m a w hI hr;obtain ⟨q',h3,h4⟩:=hI.addrs (j,t,off) (by simpa using hx) (CG hr (by simpa using hj)) d hd;simp only [] at h3 h4;rw [h1] at h3;simp only [Option.some.injEq,Value.pointer.injEq,Addr.mk.injEq,and_true] at h3;subst h3;exact ⟨q,h4,h2⟩
theorem Adf(hP:EV ops N BX AD){x:Operand}{f:PF}(ho:C7 ops i g (.move x))(hp:BF BX i=true)(hna:Du AD i=true)(hg:Mh ops N Wb W0 a0 F BX AD i g true)(hx:RW ops N Wb W0 a0 F BX AD i x f)(hF:F.getD i Ca=f):CU ops N Wb W0 a0 F BX AD i:=
 C9 hP ho hp hna λm a w hI hr=>⟨hg m a w hI hr,a.eval x,w,λo ho=>by unfold execOp; rw [ho]; rfl,Below.refl _ _,hF ▸ hx m a w hI hr⟩
theorem oZ(hP:EV ops N BX AD){x:Operand}{f:PF}(ho:C7 ops i g (.assign x))(hp:BF BX i=true)(hna:Du AD i=true)(hg:Mh ops N Wb W0 a0 F BX AD i g true)(hx:RW ops N Wb W0 a0 F BX AD i x f)(hF:F.getD i Ca=f):CU ops N Wb W0 a0 F BX AD i:=
 C9 hP ho hp hna λm a w hI hr=>⟨hg m a w hI hr,a.eval x,w,λo ho=>by unfold execOp; rw [ho]; rfl,Below.refl _ _,hF ▸ hx m a w hI hr⟩
section
variable {ρ : Operand → Value} {o : Oper} {w : World}
theorem Ho{c x y:Operand}{b:Bool}(h:ρ c = .bool b)(ho:o.op = .pick c x y):(execOp ρ o).run Tryz.prog w = .ok (.value (if b then ρ x else ρ y)) w:=by
 unfold execOp; rw [ho]; simp [h,go_sem]
def Bf(f:Nat):Prop:=∀(args:Array Value)(w:World),(callFunc f args).run Tryz.prog w = .ok (.enter f args) w
theorem dN{f:Nat}{args:Array Operand}{T:Array TypeId}(ho:o.op = .call { callee:=.value (.func f),args:=args,argTypes:=T })(hf:ρ (.func f) = .func (.func f) #[] #[])(hpl:Bf f){vs:Array Value}(hv:args.map ρ=vs):(execOp ρ o).run Tryz.prog w = .ok (.enter f vs) w:=by
 subst hv;unfold execOp; rw [ho]; simp [go_sem,hf];exact hpl _ _
theorem CA{op:Sem Value}{v:Value}{w':World}(h:op.run Tryz.prog w = .ok v w'):(op >>= λx=>pure (Next.value x)).run Tryz.prog w = .ok (.value v) w':=by
 rw [Sem.run_bind,h]; rfl
theorem XM{op:Sem Unit}{w':World}(h:op.run Tryz.prog w = .ok () w'):(op >>= λ_=>pure Next.skip).run Tryz.prog w = .ok .skip w':=by
 rw [Sem.run_bind,h]; rfl
end
theorem zU(hP:EV ops N BX AD){c x y:Operand}{f:PF}(ho:C7 ops i g (.pick c x y))(hp:BF BX i=true)(hna:Du AD i=true)(hg:Mh ops N Wb W0 a0 F BX AD i g true)(hc:RW ops N Wb W0 a0 F BX AD i c (Am (.bool true)))(hx:RW ops N Wb W0 a0 F BX AD i x f)(hF:F.getD i Ca=f):CU ops N Wb W0 a0 F BX AD i:=
 C9 hP ho hp hna λm a w hI hr=>⟨hg m a w hI hr,a.eval x,w,λ_ ho=>Ho (hc m a w hI hr) ho,Below.refl _ _,hF ▸ hx m a w hI hr⟩
theorem uK(hP:EV ops N BX AD){c x y:Operand}{f:PF}(ho:C7 ops i g (.pick c x y))(hp:BF BX i=true)(hna:Du AD i=true)(hg:Mh ops N Wb W0 a0 F BX AD i g true)(hc:RW ops N Wb W0 a0 F BX AD i c (Am (.bool false)))(hx:RW ops N Wb W0 a0 F BX AD i y f)(hF:F.getD i Ca=f):CU ops N Wb W0 a0 F BX AD i:=
 C9 hP ho hp hna λm a w hI hr=>⟨hg m a w hI hr,a.eval y,w,λ_ ho=>Ho (hc m a w hI hr) ho,Below.refl _ _,hF ▸ hx m a w hI hr⟩
theorem Adc(hP:EV ops N BX AD){op:Op}(ho:C7 ops i g op)(hp:BF BX i=true)(hna:Du AD i=true)(hg:Mh ops N Wb W0 a0 F BX AD i g false)(hF:F.getD i Ca=Ca):CU ops N Wb W0 a0 F BX AD i:=
 O6 hP ho hp hna (λ_=>by rw [hF]; trivial) hg
theorem Aan(hP:EV ops N BX AD){op:Op}(ho:C7 ops i g op)(hp:BF BX i=true)(hna:Du AD i=true)(hg:Mh ops N Wb W0 a0 F BX AD i g false)(hF:F.getD i Ca=Am undef):CU ops N Wb W0 a0 F BX AD i:=
 O6 hP ho hp hna (λ_=>by rw [hF]; rfl) hg
theorem AiW(hP:EV ops N BX AD){op:Op}{x:Operand}{fx f:PF}(ho:C7 ops i g op)(hp:BF BX i=true)(hna:Du AD i=true)(hg:Mh ops N Wb W0 a0 F BX AD i g true)(hx:RW ops N Wb W0 a0 F BX AD i x fx)
  (h:∀(ρ:Operand→Value)(w:World),fx.p (ρ x) w→∃ v w',(∀ o:Oper,o.op=op→(execOp ρ o).run Tryz.prog w = .ok (.value v) w')∧Below w.heap.size w w'∧f.p v w') (hF:F.getD i Ca=f):CU ops N Wb W0 a0 F BX AD i:=
 C9 hP ho hp hna λm a w hI hr=>by
  obtain ⟨v,w',h1,h2,h3⟩:=h a.eval w (hx m a w hI hr);exact ⟨hg m a w hI hr,v,w',h1,h2,hF ▸ h3⟩
theorem Aja(hP:EV ops N BX AD){op:Op}{x y:Operand}{fx fy f:PF}(ho:C7 ops i g op)(hp:BF BX i=true)(hna:Du AD i=true)(hg:Mh ops N Wb W0 a0 F BX AD i g true)(hx:RW ops N Wb W0 a0 F BX AD i x fx)(hy:RW ops N Wb W0 a0 F BX AD i y fy)
  (h:∀(ρ:Operand→Value)(w:World),fx.p (ρ x) w→fy.p (ρ y) w→∃ v w',(∀ o:Oper,o.op=op→(execOp ρ o).run Tryz.prog w = .ok (.value v) w')∧Below w.heap.size w w'∧f.p v w') (hF:F.getD i Ca=f):CU ops N Wb W0 a0 F BX AD i:=
 C9 hP ho hp hna λm a w hI hr=>by
  obtain ⟨v,w',h1,h2,h3⟩:=h a.eval w (hx m a w hI hr) (hy m a w hI hr);exact ⟨hg m a w hI hr,v,w',h1,h2,hF ▸ h3⟩
theorem Agc(hP:EV ops N BX AD){T:TypeId}{t off:Nat}{c:CF}{f:PF}(ho:C7 ops i g (.load T (.tmp t)))(hp:BF BX i=true)(hna:Du AD i=true)(hg:Mh ops N Wb W0 a0 F BX AD i g true)(hb:Vg ops N Wb W0 a0 F BX AD i t off c)
  (h:∀(w:World)(q:Nat),c.p q w→∃ v,(Instr.loadAt T (.pointer (some ⟨q,off,none⟩))).run Tryz.prog w = .ok v w∧f.p v w) (hF:F.getD i Ca=f):CU ops N Wb W0 a0 F BX AD i:=
 C9 hP ho hp hna λm a w hI hr=>by
  obtain ⟨q,h1,h2⟩:=hb m a w hI hr;obtain ⟨v,h3,h4⟩:=h w q h2;refine ⟨hg m a w hI hr,v,w,λo ho=>?_,Below.refl _ _,hF ▸ h4⟩;unfold execOp;rw [ho];show Sem.run _ (Instr.loadAt T (a.eval (.tmp t)) >>= λx=>pure (Next.value x)) w=_;rw [BZ h1];exact CA h3
theorem X3(hP:EV ops N BX AD){T:TypeId}{d:Nat}{ob:Obj}(k:Nat)(b:Bm)(ho:C7 ops i none (.alloc T))(hd:AF ops i=some d)(hk:BX[k]? = some b)(ha:b.al=some i)(hds:d=b.slot)
  (hst:(match b.st with | none=>true | some s=>(B_ ops s).contains i)=true) (hal:(BX.map (·.al)).count (some i)=1) (hsn:(BX.all λc=>c.st != some i)=true) (hna:Du AD i=true) (hF:F.getD i Ca=Ca)
  (hrun:∀ w:World,(Instr.alloc T true (.tuple #[])).run Tryz.prog w = .ok (.pointer (some ⟨w.heap.size,0,none⟩)) (w.alloc ob)) (hz:∀ w:World,b.old.p w.heap.size (w.alloc ob)):CU ops N Wb W0 a0 F BX AD i:=
 OT hP k b ho hd hk ha hds hst hal hsn hna λm a w hI hr=>⟨ob,λo ho=>by
  unfold execOp;rw [ho];exact CA (hrun w),by rw [hF]; trivial,hz w⟩
theorem Ajn(hP:EV ops N BX AD){T:TypeId}{d:Nat}{x:Operand}{fx:PF}(k:Nat)(b:Bm)(ho:C7 ops i none (.box T x))(hd:AF ops i=some d)(hk:BX[k]? = some b)(ha:b.al=some i)(hds:d=b.slot)
  (hst:(match b.st with | none=>true | some s=>(B_ ops s).contains i)=true) (hal:(BX.map (·.al)).count (some i)=1) (hsn:(BX.all λc=>c.st != some i)=true) (hna:Du AD i=true) (hF:F.getD i Ca=Ca)
  (hx:RW ops N Wb W0 a0 F BX AD i x fx) (h:∀(w:World)(v:Value),fx.p v w→∃ ob,(Instr.box T v).run Tryz.prog w = .ok (.pointer (some ⟨w.heap.size,0,none⟩)) (w.alloc ob)∧b.old.p w.heap.size (w.alloc ob)):CU ops N Wb W0 a0 F BX AD i:=
 OT hP k b ho hd hk ha hds hst hal hsn hna λm a w hI hr=>by
  obtain ⟨ob,h1,h2⟩:=h w _ (hx m a w hI hr);exact ⟨ob,λo ho=>by
   unfold execOp;rw [ho];exact CA h1,by rw [hF]; trivial,h2⟩
def Fb(T:TypeId)(old:CF)(fx:PF)(new:CF):Prop:=∀(w:World)(q:Nat)(v:Value),old.p q w→fx.p v w→∃ w',(Instr.storeAt T (.pointer (some ⟨q,0,none⟩)) v).run Tryz.prog w = .ok () w'∧(∀ B:Nat,∀ W:World,B≤q→Below B W w→Below B W w')∧Bt w w'∧(∀ j,j≠q→w'.heap[j]? = w.heap[j]?)∧new.p q w'
theorem Yr{T:TypeId}{t:Nat}{x:Operand}{fx:PF}(k:Nat)(b:Bm)(ho:C7 ops i none (.store T (.tmp t) x))(hd:AF ops i=none)(hk:BX[k]? = some b)(ht:b.slot=t)(hb:b.st=some i)(hst:(BX.map (·.st)).count (some i)=1)(haln:(BX.all λc=>c.al != some i)=true)
  (hlv:(match b.al with | none=>true | some j=>(B_ ops i).contains j)=true) (hx:RW ops N Wb W0 a0 F BX AD i x fx) (h:Fb T b.old fx b.new):CU ops N Wb W0 a0 F BX AD i:=
 Mt k b ho hd hk hb hst haln hlv λm a w q hI hr h1 h2 h3=>by
  obtain ⟨w',g1,g2,g3,g4,g5⟩:=h w q _ h3 (hx m a w hI hr);refine ⟨w',λo ho=>?_,g2 _ _ h2 hI.below,g3,g4,g5⟩;unfold execOp;rw [ho];show Sem.run _ (Instr.storeAt T (a.eval (.tmp t)) (a.eval x) >>= λ_=>pure Next.skip) w=_;rw [BZ (ht ▸ h1)];exact XM g1
theorem Agk{m:Array Bool}{a:Act}{w:World}(hI:ES ops N Wb W0 a0 F BX AD m a w)(hm:∀ i,i<ops.size→m.getD i false=true)(j d:Nat)(f:PF)(hd:AF ops j=some d)(hf:F.getD j Ca=f):∃ v,a.tmps[d]? = some v∧f.p v w:=by
 refine hf ▸ hI.facts j d (hm j ?_) hd
 unfold AF at hd
 cases ho:ops[j]? with
 | none=>rw [ho] at hd; cases hd
 | some o=>exact (Array.getElem?_eq_some_iff.1 ho).1
end
theorem Ah{z:Int}(w:World)(q:Nat)(h:(Ak z).p q w):∃ v,(Instr.loadAt 34 (.pointer (some ⟨q,0,none⟩))).run Tryz.prog w = .ok v w∧(Af z).p v w:=by
 obtain ⟨b,A,k,c,hh,hi⟩:=h;have h0:w.cell? ⟨q,0,none⟩=some (.bool b):=by rw [cell_of_row w q 0 _ _ (0,0) hh]; rfl
 have h1:w.cell? ⟨q,1,none⟩=some (.slice A k c):=by rw [cell_of_row w q 1 _ _ (0,0) hh]; rfl
 exact ⟨.agg #[.bool b,.slice A k c],by simp [go_sem,h0,h1],hi⟩
theorem AU(w:World):(Instr.alloc 34 true (.tuple #[])).run Tryz.prog w = .ok (.pointer (some ⟨w.heap.size,0,none⟩)) (w.alloc N7):=by simp [go_sem]
theorem AT(w:World):AS.p w.heap.size (w.alloc N7):=Io w N7
theorem AW{z:Int}(w:World)(v:Value)(h:(Af z).p v w):∃ ob,(Instr.box 34 v).run Tryz.prog w = .ok (.pointer (some ⟨w.heap.size,0,none⟩)) (w.alloc ob)∧(Ak z).p w.heap.size (w.alloc ob):=by
 have h':Al w v z:=h;obtain ⟨b,A,k,c,rfl,H⟩:=h'.open_;exact ⟨.cells #[.bool b,.slice A k c] 34 (0,0),by simp [go_sem],b,A,k,c,Io w _,H.out.into (Ai w _)⟩
def oJ(w:World)(q:Nat):Prop:=∃ b A k c,w.heap[q]? = some (.cells #[.bool b,.slice A k c] 34 (0,0))
theorem Ow{old:CF}{z:Int}(ho:∀ q w,old.p q w→oJ w q):Fb 34 old (Af z) (Ak z):=by
 intro w q v h1 h2;have h2:Al w v z:=h2;obtain ⟨b0,A0,k0,c0,hh⟩:=ho q w h1;obtain ⟨b,A,k,c,rfl,H⟩:=h2.open_;have h0:w.cell? ⟨q,0,none⟩=some (.bool b0):=by rw [cell_of_row w q 0 _ _ (0,0) hh]; rfl
 have h1:w.cell? ⟨q,1,none⟩=some (.slice A0 k0 c0):=by rw [cell_of_row w q 1 _ _ (0,0) hh]; rfl
 have f0:=AA hh 0;have f1:=AA hh 1;have hne:(34:TypeId)≠114:=by decide
 refine ⟨(w.setCell ⟨q,0,none⟩ (.bool b)).setCell ⟨q,1,none⟩ (.slice A k c),by simp [go_sem,h0,h1,f0,f1],λB W hq hB=>(hB.setCell hq _).setCell hq _,?_,λj hj=>E0 hj,?_⟩
 ·exact (Bt.set hh hne 0 _).trans (Bt.set (Az hh 0 _) hne 1 _)
 ·exact oH (Gl hh H.out)
theorem Ag(z:Int):Fb 34 AS (Af z) (Ak z):=Ow λ_ _ h=>⟨_,_,_,_,h⟩
theorem AM(z z':Int):Fb 34 (Ak z') (Af z) (Ak z):=Ow λ_ _ ⟨b,A,k,c,h,_⟩=>⟨b,A,k,c,h⟩
end Go.Proofs.YtdopbgnkneeceaaGreat
