/- The steps, applied (written by wip/tools/gen_apply.py). -/
import Derived.Test.YtdopbgnkneeceaaGreatqSim
import Derived.Test.YtdopbgnkneeceaaGreatqComb
set_option linter.unusedSectionVars false
set_option linter.unusedVariables false
set_option linter.unusedSimpArgs false
set_option maxRecDepth 100000
namespace Go.Proofs.YtdopbgnkneeceaaGreat
open Go.RowKit
section
variable {ops : Array Oper} {N : Nat} {Wb W0 : World} {a0 : Act} {F : List PF} {BX : List Bh} {AD : List (Nat × Nat × Nat)} {i : Nat} {g : Option (Nat × Bool)}
end
def DT(a0 b0 a1 b1:Nat)(o:Bool):CF:=AaS #[.int .u64 (a0:Int),.int .u64 (b0:Int),.int .u64 (a1:Int),.int .u64 (b1:Int),.bool o] 134 (by decide)
theorem RB{a0 b0 a1 b1:Nat}{o:Bool}(w:World)(v:Value)(h:(Am (.agg #[.int .u64 (a0:Int),.int .u64 (b0:Int),.int .u64 (a1:Int),.int .u64 (b1:Int),.bool o])).p v w):∃ ob,(Instr.box 134 v).run Tryz.prog w = .ok (.pointer (some ⟨w.heap.size,0,none⟩)) (w.alloc ob)∧(DT a0 b0 a1 b1 o).p w.heap.size (w.alloc ob):=by
 have h:v = .agg #[.int .u64 (a0:Int),.int .u64 (b0:Int),.int .u64 (a1:Int),.int .u64 (b1:Int),.bool o]:=h;subst h;exact ⟨.cells #[.int .u64 (a0:Int),.int .u64 (b0:Int),.int .u64 (a1:Int),.int .u64 (b1:Int),.bool o] 134 (0,0),by simp [go_sem],Ho w _⟩
theorem uF(q:Nat)(w:World):(Instr.fieldAt 134 (.pointer (some ⟨q,0,none⟩)) 0).run Tryz.prog w = .ok (.pointer (some ⟨q,0,none⟩)) w:=by simp [go_sem]
theorem Zu{a0 b0 a1 b1:Nat}{o:Bool}(w:World)(q:Nat)(h:(DT a0 b0 a1 b1 o).p q w):∃ v,(Instr.loadAt 112 (.pointer (some ⟨q,0,none⟩))).run Tryz.prog w = .ok v w∧(Am (.int .u64 (a0:Int))).p v w:=by
 have hh:w.heap[q]? = some (.cells #[.int .u64 (a0:Int),.int .u64 (b0:Int),.int .u64 (a1:Int),.int .u64 (b1:Int),.bool o] 134 (0,0)):=h;have h0:w.cell? ⟨q,0,none⟩=some (.int .u64 (a0:Int)):=by rw [cell_of_row w q 0 _ _ (0,0) hh]; rfl
 exact ⟨_,by simp [go_sem,h0],rfl⟩
theorem W5(q:Nat)(w:World):(Instr.fieldAt 134 (.pointer (some ⟨q,0,none⟩)) 1).run Tryz.prog w = .ok (.pointer (some ⟨q,1,none⟩)) w:=by simp [go_sem]
theorem PI{a0 b0 a1 b1:Nat}{o:Bool}(w:World)(q:Nat)(h:(DT a0 b0 a1 b1 o).p q w):∃ v,(Instr.loadAt 112 (.pointer (some ⟨q,1,none⟩))).run Tryz.prog w = .ok v w∧(Am (.int .u64 (b0:Int))).p v w:=by
 have hh:w.heap[q]? = some (.cells #[.int .u64 (a0:Int),.int .u64 (b0:Int),.int .u64 (a1:Int),.int .u64 (b1:Int),.bool o] 134 (0,0)):=h;have h0:w.cell? ⟨q,1,none⟩=some (.int .u64 (b0:Int)):=by rw [cell_of_row w q 1 _ _ (0,0) hh]; rfl
 exact ⟨_,by simp [go_sem,h0],rfl⟩
theorem rR(q:Nat)(w:World):(Instr.fieldAt 134 (.pointer (some ⟨q,0,none⟩)) 2).run Tryz.prog w = .ok (.pointer (some ⟨q,2,none⟩)) w:=by simp [go_sem]
theorem eV{a0 b0 a1 b1:Nat}{o:Bool}(w:World)(q:Nat)(h:(DT a0 b0 a1 b1 o).p q w):∃ v,(Instr.loadAt 112 (.pointer (some ⟨q,2,none⟩))).run Tryz.prog w = .ok v w∧(Am (.int .u64 (a1:Int))).p v w:=by
 have hh:w.heap[q]? = some (.cells #[.int .u64 (a0:Int),.int .u64 (b0:Int),.int .u64 (a1:Int),.int .u64 (b1:Int),.bool o] 134 (0,0)):=h;have h0:w.cell? ⟨q,2,none⟩=some (.int .u64 (a1:Int)):=by rw [cell_of_row w q 2 _ _ (0,0) hh]; rfl
 exact ⟨_,by simp [go_sem,h0],rfl⟩
theorem uA(q:Nat)(w:World):(Instr.fieldAt 134 (.pointer (some ⟨q,0,none⟩)) 3).run Tryz.prog w = .ok (.pointer (some ⟨q,3,none⟩)) w:=by simp [go_sem]
theorem dA{a0 b0 a1 b1:Nat}{o:Bool}(w:World)(q:Nat)(h:(DT a0 b0 a1 b1 o).p q w):∃ v,(Instr.loadAt 112 (.pointer (some ⟨q,3,none⟩))).run Tryz.prog w = .ok v w∧(Am (.int .u64 (b1:Int))).p v w:=by
 have hh:w.heap[q]? = some (.cells #[.int .u64 (a0:Int),.int .u64 (b0:Int),.int .u64 (a1:Int),.int .u64 (b1:Int),.bool o] 134 (0,0)):=h;have h0:w.cell? ⟨q,3,none⟩=some (.int .u64 (b1:Int)):=by rw [cell_of_row w q 3 _ _ (0,0) hh]; rfl
 exact ⟨_,by simp [go_sem,h0],rfl⟩
theorem tC(q:Nat)(w:World):(Instr.fieldAt 134 (.pointer (some ⟨q,0,none⟩)) 4).run Tryz.prog w = .ok (.pointer (some ⟨q,4,none⟩)) w:=by simp [go_sem]
theorem fV{a0 b0 a1 b1:Nat}{o:Bool}(w:World)(q:Nat)(h:(DT a0 b0 a1 b1 o).p q w):∃ v,(Instr.loadAt 4 (.pointer (some ⟨q,4,none⟩))).run Tryz.prog w = .ok v w∧(Am (.bool o)).p v w:=by
 have hh:w.heap[q]? = some (.cells #[.int .u64 (a0:Int),.int .u64 (b0:Int),.int .u64 (a1:Int),.int .u64 (b1:Int),.bool o] 134 (0,0)):=h;have h0:w.cell? ⟨q,4,none⟩=some (.bool o):=by rw [cell_of_row w q 4 _ _ (0,0) hh]; rfl
 exact ⟨_,by simp [go_sem,h0],rfl⟩
theorem WO{w:World}{va vp vb vq:Value}{x y p q z:Nat}(ha:(Av x).p va w)(hvp:(Am (.int .u64 (p:Int))).p vp w)(hb:(Av y).p vb w)(hvq:(Am (.int .u64 (q:Int))).p vq w)(hp:p<4294967296)(hq:q<4294967296)(hz:z+q*y=p*x)(hm:max (len x) (len y)≤1099511627776)(hzl:len z≤max (len x) (len y)) :
  Calls Tryz.prog 141 #[va,vp,vb,vq] w (Aj (Av z) w):=by
 have hvp:vp = .int .u64 (p:Int):=hvp;have hvq:vq = .int .u64 (q:Int):=hvq;subst hvp hvq;have ha:AB w va x:=ha;have hb:AB w vb y:=hb;obtain ⟨A,c,rfl,HA⟩:=ha.open_;obtain ⟨B,d,rfl,HB⟩:=hb.open_
 rcases Nat.lt_or_ge (len x) (len y) with h | h
 ·exact Tl A B c d p q x y z w HA.out.mem.2.2 HB.out.mem.2.2 hp hq h (by omega) hz (by omega)
 ·exact Tc A B c d p q x y z w HA.out.mem.2.2 HB.out.mem.2.2 hp hq h (by omega) hz (by omega)
theorem QM{Wb:World}{N:Nat}{S:List (Nat × PF)}{B:List (Nat × CF)}{a:Act}{w:World}{fn:Func}{t t':Nat}{R R':PF}(hst:St Wb N S B a w)(hr:fn.results = #[.tmp t,.tmp t'])(k:Nat)(hk:S[k]? = some (t,R))(k':Nat)(hk':S[k']? = some (t',R')):bodyPost Tryz.prog fn (Aj (BT R R') Wb) .ret a w:=by
 obtain ⟨v,h1,h2⟩:=hst.slots.get hk;obtain ⟨v',h1',h2'⟩:=hst.slots.get hk';refine bodyPost_ret (v:=.tuple #[v,v']) ?_ hst.defers ⟨_,rfl,⟨_,_,rfl,h2,h2'⟩,hst.below⟩;simp [results,hr,go_sem,Array.getD_eq_getD_getElem?,h1,h1']
noncomputable def L9:=C9 Tryz.f127
noncomputable def S9:=cl L9
noncomputable def JJ:=cr L9
theorem Y_:L9 = .seq S9 JJ:=by kernel_rfl
noncomputable def T0:=A9 S9
theorem gS:S9 = .region 0 T0 false:=by kernel_rfl
noncomputable def Ql:=cl JJ
noncomputable def LG:=cr JJ
theorem fY:JJ = .seq Ql LG:=by kernel_rfl
noncomputable def Tn:=cl Ql
noncomputable def JW:=cr Ql
theorem aH:Ql = .seq Tn JW:=by kernel_rfl
noncomputable def Td:=A9 Tn
theorem gL:Tn = .region 1 Td false:=by kernel_rfl
noncomputable def Ly:=cl JW
noncomputable def UQ:=cr JW
theorem bC:JW = .cond (.tmp 9) Ly UQ:=by kernel_rfl
noncomputable def Te:=cl Ly
noncomputable def OH:=cr Ly
theorem vP:Ly = .seq Te OH:=by kernel_rfl
noncomputable def iV:=A9 Te
theorem yL:Te = .region 2 iV true:=by kernel_rfl
theorem pD:OH = .ret:=by kernel_rfl
theorem AaM:UQ = .skip:=by kernel_rfl
noncomputable def O5:=cl LG
noncomputable def QB:=cr LG
theorem vZ:LG = .seq O5 QB:=by kernel_rfl
noncomputable def iM:=A9 O5
theorem oT:O5 = .region 3 iM true:=by kernel_rfl
theorem oX:QB = .ret:=by kernel_rfl
section
set_option linter.unusedSectionVars false
variable {Wb : World} {mm nn c0 d0 c1 d1 U V : Nat} (l0 : c0 < 4294967296) (l1 : d0 < 4294967296) (l2 : c1 < 4294967296) (l3 : d1 < 4294967296) (hmx : max (len mm) (len nn) ≤ 1099511627776) (hU : len U ≤ max (len mm) (len nn)) (hV : len V ≤ max (len mm) (len nn))
include l0 l1 l2 l3 hmx hU hV
theorem wR(e1:U+c0*mm=d0*nn)(e2:V+d1*nn=c1*mm):RA 38 [(Am (.agg #[.int .u64 (c0:Int),.int .u64 (d0:Int),.int .u64 (c1:Int),.int .u64 (d1:Int),.bool true])),(Av mm),(Av nn)] [(DT c0 d0 c1 d1 true)] ⟨[(0,(.ref 0)),(1,(.ref 1)),(2,(.ref 2))],[]⟩ ⟨[(0,(.ref 0)),(1,(.ref 1)),(2,(.ref 2)),(6,.nil),(7,.nil)],[(3,0)]⟩ Wb 0 T0 false:=RA.of
   { boxes:=[⟨134,(.ref 0),0,λw v h=>RB w v h⟩] } (by kernel_rfl)
theorem zQ(e1:U+c0*mm=d0*nn)(e2:V+d1*nn=c1*mm):RA 38 [(Am (.agg #[.int .u64 (c0:Int),.int .u64 (d0:Int),.int .u64 (c1:Int),.int .u64 (d1:Int),.bool true])),(Av mm),(Av nn)] [(DT c0 d0 c1 d1 true)] ⟨[(0,(.ref 0)),(1,(.ref 1)),(2,(.ref 2)),(6,.nil),(7,.nil)],[(3,0)]⟩ ⟨[(0,(.ref 0)),(1,(.ref 1)),(2,(.ref 2)),(6,.nil),(7,.nil),(9,(.bool true))],[(3,0)]⟩ Wb 1 Td false:=RA.of
   { loads:=[⟨4,4,0,(.bool true),λw q h=>fV w q h⟩],
     flds:=[⟨134,4,4,tC⟩] } (by kernel_rfl)
theorem yJ(e1:U+c0*mm=d0*nn)(e2:V+d1*nn=c1*mm):RA 38 [(Am (.int .u64 (d0:Int))),(Am (.int .u64 (c0:Int))),(Av nn),(Av mm),(Av U),(Am (.int .u64 (c1:Int))),(Am (.int .u64 (d1:Int))),(Av V),(Am (.agg #[.int .u64 (c0:Int),.int .u64 (d0:Int),.int .u64 (c1:Int),.int .u64 (d1:Int),.bool true]))] [(DT c0 d0 c1 d1 true)] ⟨[(0,(.ref 8)),(1,(.ref 3)),(2,(.ref 2)),(6,.nil),(7,.nil),(9,(.bool true))],[(3,0)]⟩ ⟨[(0,(.ref 8)),(1,(.ref 3)),(2,(.ref 2)),(6,(.ref 4)),(7,(.ref 7)),(9,(.bool true))],[(3,0)]⟩ Wb 2 iV true:=RA.of
   { calls:=[c4 141 (.ref 2) (.ref 0) (.ref 3) (.ref 1) (.ref 4) λw v0 v1 v2 v3 hb h0 h1 h2 h3=>WO h0 h1 h2 h3 (by assumption) (by assumption) e1 (Nat.max_comm (len mm) (len nn) ▸ hmx) (Nat.max_comm (len mm) (len nn) ▸ hU),
      c4 141 (.ref 3) (.ref 5) (.ref 2) (.ref 6) (.ref 7) λw v0 v1 v2 v3 hb h0 h1 h2 h3=>WO h0 h1 h2 h3 (by assumption) (by assumption) e2 hmx hV],
     loads:=[⟨112,1,0,(.ref 0),λw q h=>PI w q h⟩,
      ⟨112,0,0,(.ref 1),λw q h=>Zu w q h⟩,
      ⟨112,2,0,(.ref 5),λw q h=>eV w q h⟩,
      ⟨112,3,0,(.ref 6),λw q h=>dA w q h⟩],
     flds:=[⟨134,1,1,W5⟩,
      ⟨134,0,0,uF⟩,
      ⟨134,2,2,rR⟩,
      ⟨134,3,3,uA⟩] } (by kernel_rfl)
theorem nR(e1:U+d0*nn=c0*mm)(e2:V+c1*mm=d1*nn):RA 38 [(Am (.agg #[.int .u64 (c0:Int),.int .u64 (d0:Int),.int .u64 (c1:Int),.int .u64 (d1:Int),.bool false])),(Av mm),(Av nn)] [(DT c0 d0 c1 d1 false)] ⟨[(0,(.ref 0)),(1,(.ref 1)),(2,(.ref 2))],[]⟩ ⟨[(0,(.ref 0)),(1,(.ref 1)),(2,(.ref 2)),(6,.nil),(7,.nil)],[(3,0)]⟩ Wb 0 T0 false:=RA.of
   { boxes:=[⟨134,(.ref 0),0,λw v h=>RB w v h⟩] } (by kernel_rfl)
theorem qZ(e1:U+d0*nn=c0*mm)(e2:V+c1*mm=d1*nn):RA 38 [(Am (.agg #[.int .u64 (c0:Int),.int .u64 (d0:Int),.int .u64 (c1:Int),.int .u64 (d1:Int),.bool false])),(Av mm),(Av nn)] [(DT c0 d0 c1 d1 false)] ⟨[(0,(.ref 0)),(1,(.ref 1)),(2,(.ref 2)),(6,.nil),(7,.nil)],[(3,0)]⟩ ⟨[(0,(.ref 0)),(1,(.ref 1)),(2,(.ref 2)),(6,.nil),(7,.nil),(9,(.bool false))],[(3,0)]⟩ Wb 1 Td false:=RA.of
   { loads:=[⟨4,4,0,(.bool false),λw q h=>fV w q h⟩],
     flds:=[⟨134,4,4,tC⟩] } (by kernel_rfl)
theorem wS(e1:U+d0*nn=c0*mm)(e2:V+c1*mm=d1*nn):RA 38 [(Am (.int .u64 (c0:Int))),(Am (.int .u64 (d0:Int))),(Av mm),(Av nn),(Av U),(Am (.int .u64 (d1:Int))),(Am (.int .u64 (c1:Int))),(Av V),(Am (.agg #[.int .u64 (c0:Int),.int .u64 (d0:Int),.int .u64 (c1:Int),.int .u64 (d1:Int),.bool false]))] [(DT c0 d0 c1 d1 false)] ⟨[(0,(.ref 8)),(1,(.ref 2)),(2,(.ref 3)),(6,.nil),(7,.nil),(9,(.bool false))],[(3,0)]⟩ ⟨[(0,(.ref 8)),(1,(.ref 2)),(2,(.ref 3)),(6,(.ref 4)),(7,(.ref 7)),(9,(.bool false))],[(3,0)]⟩ Wb 3 iM true:=RA.of
   { calls:=[c4 141 (.ref 2) (.ref 0) (.ref 3) (.ref 1) (.ref 4) λw v0 v1 v2 v3 hb h0 h1 h2 h3=>WO h0 h1 h2 h3 (by assumption) (by assumption) e1 hmx hU,
      c4 141 (.ref 3) (.ref 5) (.ref 2) (.ref 6) (.ref 7) λw v0 v1 v2 v3 hb h0 h1 h2 h3=>WO h0 h1 h2 h3 (by assumption) (by assumption) e2 (Nat.max_comm (len mm) (len nn) ▸ hmx) (Nat.max_comm (len mm) (len nn) ▸ hV)],
     loads:=[⟨112,0,0,(.ref 0),λw q h=>Zu w q h⟩,
      ⟨112,1,0,(.ref 1),λw q h=>PI w q h⟩,
      ⟨112,3,0,(.ref 5),λw q h=>dA w q h⟩,
      ⟨112,2,0,(.ref 6),λw q h=>eV w q h⟩],
     flds:=[⟨134,0,0,uF⟩,
      ⟨134,1,1,W5⟩,
      ⟨134,3,3,uA⟩,
      ⟨134,2,2,rR⟩] } (by kernel_rfl)
end
theorem Yj(va vb:Value)(mm nn c0 d0 c1 d1 U V:Nat)(W:World)(ha:AB W va mm)(hb:AB W vb nn)(l0:c0<4294967296)(l1:d0<4294967296)(l2:c1<4294967296)(l3:d1<4294967296)(hmx:max (len mm) (len nn)≤1099511627776)(hU:len U≤max (len mm) (len nn))(hV:len V≤max (len mm) (len nn))(e1:U+c0*mm=d0*nn)(e2:V+d1*nn=c1*mm) :
  Calls Tryz.prog 127 #[.agg #[.int .u64 (c0:Int),.int .u64 (d0:Int),.int .u64 (c1:Int),.int .u64 (d1:Int),.bool true],va,vb] W (Aj (BT (Av U) (Av V)) W):=by
 refine Db (S:=[(0,(Am (.agg #[.int .u64 (c0:Int),.int .u64 (d0:Int),.int .u64 (c1:Int),.int .u64 (d1:Int),.bool true]))),(1,(Av mm)),(2,(Av nn))]) Tryz.func127 (by kernel_rfl) Tryz.ntmps127 (by simp) (λx hx=>?_) λa w hst=>?_
 ·simp only [List.mem_cons,List.not_mem_nil,or_false] at hx
  rcases hx with rfl | rfl | rfl
  ·exact ⟨_,rfl,rfl⟩
  ·exact ⟨_,rfl,ha⟩
  ·exact ⟨_,rfl,hb⟩
 show Code.wp _ L9 _ a w;rw [Y_];refine wp_seq ?_;rw [gS];refine (wR l0 l1 l2 l3 hmx hU hV e1 e2).run hst ?_;clear hst;intro a w hst;show Code.wp _ JJ _ a w;rw [fY];refine wp_seq ?_;rw [aH];refine wp_seq ?_;rw [gL];refine (zQ l0 l1 l2 l3 hmx hU hV e1 e2).run hst ?_;clear hst;intro a w hst;show Code.wp _ JW _ a w;rw [bC];refine wp_cond_true (AZ hst 5 rfl) ?_;show Code.wp _ Ly _ a w;rw [vP];refine wp_seq ?_;rw [yL];refine (yJ l0 l1 l2 l3 hmx hU hV e1 e2).run hst ?_;clear hst;intro a w hst;show Code.wp _ OH _ a w;rw [pD];refine wp_ret ?_;exact QM hst rfl 3 rfl 4 rfl
theorem TB(va vb:Value)(mm nn c0 d0 c1 d1 U V:Nat)(W:World)(ha:AB W va mm)(hb:AB W vb nn)(l0:c0<4294967296)(l1:d0<4294967296)(l2:c1<4294967296)(l3:d1<4294967296)(hmx:max (len mm) (len nn)≤1099511627776)(hU:len U≤max (len mm) (len nn))(hV:len V≤max (len mm) (len nn))(e1:U+d0*nn=c0*mm)(e2:V+c1*mm=d1*nn) :
  Calls Tryz.prog 127 #[.agg #[.int .u64 (c0:Int),.int .u64 (d0:Int),.int .u64 (c1:Int),.int .u64 (d1:Int),.bool false],va,vb] W (Aj (BT (Av U) (Av V)) W):=by
 refine Db (S:=[(0,(Am (.agg #[.int .u64 (c0:Int),.int .u64 (d0:Int),.int .u64 (c1:Int),.int .u64 (d1:Int),.bool false]))),(1,(Av mm)),(2,(Av nn))]) Tryz.func127 (by kernel_rfl) Tryz.ntmps127 (by simp) (λx hx=>?_) λa w hst=>?_
 ·simp only [List.mem_cons,List.not_mem_nil,or_false] at hx
  rcases hx with rfl | rfl | rfl
  ·exact ⟨_,rfl,rfl⟩
  ·exact ⟨_,rfl,ha⟩
  ·exact ⟨_,rfl,hb⟩
 show Code.wp _ L9 _ a w;rw [Y_];refine wp_seq ?_;rw [gS];refine (nR l0 l1 l2 l3 hmx hU hV e1 e2).run hst ?_;clear hst;intro a w hst;show Code.wp _ JJ _ a w;rw [fY];refine wp_seq ?_;rw [aH];refine wp_seq ?_;rw [gL];refine (qZ l0 l1 l2 l3 hmx hU hV e1 e2).run hst ?_;clear hst;intro a w hst;show Code.wp _ JW _ a w;rw [bC];refine wp_cond_false (AZ hst 5 rfl) ?_;show Code.wp _ UQ _ a w;rw [AaM];refine wp_skip ?_;show Code.wp _ LG _ a w;rw [vZ];refine wp_seq ?_;rw [oT];refine (wS l0 l1 l2 l3 hmx hU hV e1 e2).run hst ?_;clear hst;intro a w hst;show Code.wp _ QB _ a w;rw [oX];refine wp_ret ?_;exact QM hst rfl 3 rfl 4 rfl
section
variable {ops : Array Oper} {N : Nat} {Wb W0 : World} {a0 : Act} {F : List PF} {BX : List Bh} {AD : List (Nat × Nat × Nat)} {i : Nat} {g : Option (Nat × Bool)}
end
def D8(p q a0 b0 a1 b1:Nat)(o:Bool):Prop:=a0<4294967296∧b0<4294967296∧a1<4294967296∧b1<4294967296∧(b0≠0→mZ p q a0 b0 a1 b1 o)
def yT(p q:Nat):PF:=⟨λv _=>∃(a0 b0 a1 b1:Nat)(o:Bool),v = .agg #[.int .u64 (a0:Int),.int .u64 (b0:Int),.int .u64 (a1:Int),.int .u64 (b1:Int),.bool o]∧D8 p q a0 b0 a1 b1 o,λ_ _ _ _ h=>h⟩
def jQ(p q:Nat):CF:=⟨λg w=>∃(a0 b0 a1 b1:Nat)(o:Bool),D8 p q a0 b0 a1 b1 o∧(DT a0 b0 a1 b1 o).p g w,
 λg w w' hg e ⟨a0,b0,a1,b1,o,hk,h⟩=>⟨a0,b0,a1,b1,o,hk,(DT a0 b0 a1 b1 o).st g w w' hg e h⟩,λg w ⟨a0,b0,a1,b1,o,_,h⟩=>(DT a0 b0 a1 b1 o).ty g w h⟩
theorem Wa{Wb:World}{N p q:Nat}{S:List (Nat × PF)}{a:Act}{w:World}(hst:St Wb N S [(5,jQ p q)] a w):∃(a0 b0 a1 b1:Nat)(o:Bool),D8 p q a0 b0 a1 b1 o∧St Wb N S [(5,DT a0 b0 a1 b1 o)] a w:=by
 obtain ⟨s1,s2,s3,s4,s5,s6,s7⟩:=hst;obtain ⟨⟨g,h1,h2,a0,b0,a1,b1,o,hk,hb⟩,_⟩:=s6;exact ⟨a0,b0,a1,b1,o,hk,s1,s2,s3,s4,s5,⟨⟨g,h1,h2,hb⟩,trivial⟩,by simp⟩
theorem SU(w:World):(Instr.alloc 134 true (.tuple #[])).run Tryz.prog w = .ok (.pointer (some ⟨w.heap.size,0,none⟩)) (w.alloc (.cells #[.int .u64 0,.int .u64 0,.int .u64 0,.int .u64 0,.bool false] 134 (0,0))):=by simp [go_sem]
theorem SR(w:World):(DT 0 0 0 0 false).p w.heap.size (w.alloc (.cells #[.int .u64 0,.int .u64 0,.int .u64 0,.int .u64 0,.bool false] 134 (0,0))):=Ho w _
theorem wE{p q:Nat}:EM 134 (DT 0 0 0 0 false) (yT p q) (jQ p q):=by
 intro w g v h1 h2;obtain ⟨a0,b0,a1,b1,o,rfl,hk⟩:=h2;have hh:w.heap[g]? = some (.cells #[.int .u64 0,.int .u64 0,.int .u64 0,.int .u64 0,.bool false] 134 (0,0)):=h1;have c0:w.cell? ⟨g,0,none⟩=some (.int .u64 0):=by rw [cell_of_row w g 0 _ _ (0,0) hh]; rfl
 have c1:w.cell? ⟨g,1,none⟩=some (.int .u64 0):=by rw [cell_of_row w g 1 _ _ (0,0) hh]; rfl
 have c2:w.cell? ⟨g,2,none⟩=some (.int .u64 0):=by rw [cell_of_row w g 2 _ _ (0,0) hh]; rfl
 have c3:w.cell? ⟨g,3,none⟩=some (.int .u64 0):=by rw [cell_of_row w g 3 _ _ (0,0) hh]; rfl
 have c4:w.cell? ⟨g,4,none⟩=some (.bool false):=by rw [cell_of_row w g 4 _ _ (0,0) hh]; rfl
 have f0:=AA hh 0;have f1:=AA hh 1;have f2:=AA hh 2;have f3:=AA hh 3;have f4:=AA hh 4;have hne:(134:TypeId)≠114:=by decide
 have k1:=Ax hh 0 (.int .u64 (a0:Int));have k2:=Ax k1 1 (.int .u64 (b0:Int));have k3:=Ax k2 2 (.int .u64 (a1:Int));have k4:=Ax k3 3 (.int .u64 (b1:Int));have k5:=Ax k4 4 (.bool o);refine ⟨((((w.setCell ⟨g,0,none⟩ (.int .u64 a0)).setCell ⟨g,1,none⟩ (.int .u64 b0)).setCell ⟨g,2,none⟩ (.int .u64 a1)).setCell ⟨g,3,none⟩ (.int .u64 b1)).setCell ⟨g,4,none⟩ (.bool o),by simp [go_sem,c0,c1,c2,c3,c4,f0,f1,f2,f3,f4],
  λB W hq hB=>((((hB.setCell hq _).setCell hq _).setCell hq _).setCell hq _).setCell hq _,?_,λj hj=>?_,⟨a0,b0,a1,b1,o,hk,k5⟩⟩
 ·exact ((((Bl.set hh hne 0 _).trans (Bl.set k1 hne 1 _)).trans (Bl.set k2 hne 2 _)).trans (Bl.set k3 hne 3 _)).trans (Bl.set k4 hne 4 _)
 ·exact (Below.heap_setCell _ _ _ j (by simpa using hj)).trans ((Below.heap_setCell _ _ _ j (by simpa using hj)).trans ((Below.heap_setCell _ _ _ j (by simpa using hj)).trans ((Below.heap_setCell _ _ _ j (by simpa using hj)).trans (Below.heap_setCell _ _ _ j (by simpa using hj)))))
theorem Ad5{a0 b0 a1 b1:Nat}{o:Bool}(w:World)(q:Nat)(h:(DT a0 b0 a1 b1 o).p q w):∃ v,(Instr.loadAt 134 (.pointer (some ⟨q,0,none⟩))).run Tryz.prog w = .ok v w∧(Am (.agg #[.int .u64 (a0:Int),.int .u64 (b0:Int),.int .u64 (a1:Int),.int .u64 (b1:Int),.bool o])).p v w:=by
 have hh:w.heap[q]? = some (.cells #[.int .u64 (a0:Int),.int .u64 (b0:Int),.int .u64 (a1:Int),.int .u64 (b1:Int),.bool o] 134 (0,0)):=h;have c0:w.cell? ⟨q,0,none⟩=some (.int .u64 (a0:Int)):=by rw [cell_of_row w q 0 _ _ (0,0) hh]; rfl
 have c1:w.cell? ⟨q,1,none⟩=some (.int .u64 (b0:Int)):=by rw [cell_of_row w q 1 _ _ (0,0) hh]; rfl
 have c2:w.cell? ⟨q,2,none⟩=some (.int .u64 (a1:Int)):=by rw [cell_of_row w q 2 _ _ (0,0) hh]; rfl
 have c3:w.cell? ⟨q,3,none⟩=some (.int .u64 (b1:Int)):=by rw [cell_of_row w q 3 _ _ (0,0) hh]; rfl
 have c4:w.cell? ⟨q,4,none⟩=some (.bool o):=by rw [cell_of_row w q 4 _ _ (0,0) hh]; rfl
 exact ⟨_,by simp [go_sem,c0,c1,c2,c3,c4],rfl⟩
theorem Qw{ρ:Operand→Value}{w:World}{x:Operand}{n:Nat}(hx:(Av n).p (ρ x) w):Fo (.call { callee:=.builtin .len,args:=#[x],argTypes:=#[32] }) ρ w (Am (.int .i64 (len n:Int))):=by
 have hx:AB w (ρ x) n:=hx;obtain ⟨A,c,e,_⟩:=hx;exact NA (show (Am (.slice A (len n) c)).p (ρ x) w from e)
theorem oK{x y:Nat}(h:y≤x):decide (Gj x y<0)=false:=by
 rcases Nat.lt_or_eq_of_le h with h | h
 ·rw [EZ h]; decide
 ·rw [FT h.symm]; decide
theorem zB{q:Nat}(h:0<q):((len q:Int) == 0)=false:=by
 have:len q≠0:=λe=>by have:=AY.1 e; omega
 simp;omega
section
variable {w : World} {va vb : Value} {x y : Nat}
theorem Rk(ha:(Av x).p va w)(hb:(Av y).p vb w)(hx:len x≤1099511627776)(hy:len y≤1099511627776):Calls Tryz.prog 124 #[va,vb] w (Aj (Am (.int .i64 (Gj x y))) w):=by
 have ha:AB w va x:=ha;have hb:AB w vb y:=hb;obtain ⟨A,c,rfl,HA⟩:=ha.open_;obtain ⟨B,d,rfl,HB⟩:=hb.open_;exact (Gy A B c d x y w HA.out HB.out hx hy).mono λ_ _ ⟨he,hb⟩=>⟨_,he,rfl,hb⟩
theorem XR(ha:(Av x).p va w)(hb:(Av y).p vb w)(h3:3≤len x)(hla:len x≤1099511627776)(hba:y≤x):Calls Tryz.prog 125 #[va,vb] w (Aj (yT x y) w):=
 (O7 va vb x y w ha hb h3 hla hba).mono λ_ _ ⟨a0,b0,a1,b1,o,he,k0,k1,k2,k3,k4,hb⟩=>⟨_,he,⟨a0,b0,a1,b1,o,rfl,k0,k1,k2,k3,k4⟩,hb⟩
theorem Xa(ha:(Av x).p va w)(hb:(Av y).p vb w)(hx:len x≤1099511627775)(hy:len y≤1099511627775)(h0:0<y):Calls Tryz.prog 126 #[va,vb] w (Aj (BT (Av (x / y)) (Av (x % y))) w):=
 (L5 va vb x y w ha hb hx hy h0).mono λ_ _ ⟨vq,vr,he,hq,hr,hb⟩=>⟨_,he,⟨vq,vr,rfl,hq,hr⟩,hb⟩
theorem V7(ha:(Av x).p va w)(hx:x<18446744073709551616):Calls Tryz.prog 129 #[va] w (Aj (Am (.int .u64 (x:Int))) w):=by
 have ha:AB w va x:=ha;obtain ⟨A,c,rfl,HA⟩:=ha.open_;exact (If A c x w HA.out.mem.2.2 hx).mono λ_ _ ⟨he,hw⟩=>⟨_,he,rfl,hw ▸ Below.refl _ _⟩
theorem Oj(ha:(Am (.int .u64 (x:Int))).p va w)(hb:(Am (.int .u64 (y:Int))).p vb w)(hx:x<18446744073709551616)(hy:y<18446744073709551616):Calls Tryz.prog 128 #[va,vb] w (Aj (Am (.int .u64 (Nat.gcd x y:Nat))) w):=by
 have ha:va = .int .u64 (x:Int):=ha;have hb:vb = .int .u64 (y:Int):=hb;subst ha hb;exact (Kq x y w hx hy).mono λ_ _ ⟨he,hb⟩=>⟨_,he,rfl,hb⟩
theorem XC(ha:(Am (.int .u64 (x:Int))).p va w)(hx:x<18446744073709551616):Calls Tryz.prog 103 #[va] w (Aj (Av x) w):=by
 have ha:va = .int .u64 (x:Int):=ha;subst ha;exact CM x w hx
theorem Aae{vs:Value}{p q c0 d0 c1 d1 U V:Nat}{o:Bool}(hs:(Am (.agg #[.int .u64 (c0:Int),.int .u64 (d0:Int),.int .u64 (c1:Int),.int .u64 (d1:Int),.bool o])).p vs w)(ha:(Av p).p va w)(hb:(Av q).p vb w)(hok:D8 p q c0 d0 c1 d1 o)(hUV:if o then U+c0*p=d0*q∧V+d1*q=c1*p else U+d0*q=c0*p∧V+c1*p=d1*q)(hU:U<p)(hV:V<q)(bp:len p≤1099511627775)(bq:len q≤1099511627775) :
  Calls Tryz.prog 127 #[vs,va,vb] w (Aj (BT (Av U) (Av V)) w):=by
 have hs:vs = .agg #[.int .u64 (c0:Int),.int .u64 (d0:Int),.int .u64 (c1:Int),.int .u64 (d1:Int),.bool o]:=hs;subst hs;have h1:=AW (Nat.le_of_lt hU);have h2:=AW (Nat.le_of_lt hV);obtain ⟨k0,k1,k2,k3,_⟩:=hok
 cases o
 ·simp only [Bool.false_eq_true,if_false] at hUV
  exact TB va vb p q c0 d0 c1 d1 U V w ha hb k0 k1 k2 k3 (by omega) (by omega) (by omega) hUV.1 hUV.2
 ·simp only [if_true] at hUV
  exact Yj va vb p q c0 d0 c1 d1 U V w ha hb k0 k1 k2 k3 (by omega) (by omega) (by omega) hUV.1 hUV.2
end
noncomputable def Qa:=C9 Tryz.f118
noncomputable def TG:=cl Qa
noncomputable def JA:=cr Qa
theorem ZD:Qa = .seq TG JA:=by kernel_rfl
noncomputable def TP:=A9 TG
theorem Z1:TG = .region 0 TP false:=by kernel_rfl
noncomputable def O6:=cl JA
noncomputable def JD:=cr JA
theorem jH:JA = .seq O6 JD:=by kernel_rfl
noncomputable def Ui:=cl O6
noncomputable def Js:=cr O6
theorem dZ:O6 = .seq Ui Js:=by kernel_rfl
noncomputable def Ua:=A9 Ui
theorem dI:Ui = .region 1 Ua false:=by kernel_rfl
noncomputable def Qe:=cl Js
noncomputable def T_:=cr Js
theorem cQ:Js = .cond (.tmp 13) Qe T_:=by kernel_rfl
noncomputable def iS:=A9 Qe
theorem wT:Qe = .region 2 iS false:=by kernel_rfl
theorem wO:T_ = .skip:=by kernel_rfl
noncomputable def Uf:=cl JD
noncomputable def EY:=cr JD
theorem fX:JD = .seq Uf EY:=by kernel_rfl
noncomputable def IY:=cl Uf
theorem Zr:Uf = .block 0 IY:=by kernel_rfl
noncomputable def GM:=cl IY
theorem Xk:IY = .loop GM:=by kernel_rfl
noncomputable def Kx:=cl GM
noncomputable def IW:=cr GM
theorem K6:GM = .seq Kx IW:=by kernel_rfl
noncomputable def Pd:=cl Kx
noncomputable def EJ:=cr Kx
theorem KX:Kx = .seq Pd EJ:=by kernel_rfl
noncomputable def Uv:=A9 Pd
theorem Ks:Pd = .region 3 Uv false:=by kernel_rfl
noncomputable def KQ:=cl EJ
noncomputable def Kz:=cr EJ
theorem Ku:EJ = .cond (.tmp 18) KQ Kz:=by kernel_rfl
theorem U6:KQ = .skip:=by kernel_rfl
theorem Wt:Kz = .exit 0:=by kernel_rfl
noncomputable def GD:=cl IW
theorem WA:IW = .block 1 GD:=by kernel_rfl
noncomputable def PO:=cl GD
noncomputable def ET:=cr GD
theorem VX:GD = .seq PO ET:=by kernel_rfl
noncomputable def jF:=A9 PO
theorem VP:PO = .region 4 jF false:=by kernel_rfl
noncomputable def P6:=cl ET
noncomputable def EE:=cr ET
theorem KP:ET = .seq P6 EE:=by kernel_rfl
noncomputable def UM:=A9 P6
theorem KH:P6 = .region 5 UM false:=by kernel_rfl
noncomputable def Ha:=cl EE
noncomputable def IV:=cr EE
theorem KR:EE = .cond (.tmp 24) Ha IV:=by kernel_rfl
noncomputable def QD:=cl Ha
noncomputable def Jd:=cr Ha
theorem Wo:Ha = .seq QD Jd:=by kernel_rfl
noncomputable def dY:=A9 QD
theorem V8:QD = .region 6 dY false:=by kernel_rfl
noncomputable def bL:=A9 Jd
theorem VU:Jd = .region 7 bL false:=by kernel_rfl
noncomputable def ZI:=A9 IV
theorem Vz:IV = .region 8 ZI false:=by kernel_rfl
noncomputable def KT:=cl EY
noncomputable def GC:=cr EY
theorem KD:EY = .seq KT GC:=by kernel_rfl
noncomputable def OV:=cl KT
noncomputable def EH:=cr KT
theorem La:KT = .seq OV EH:=by kernel_rfl
noncomputable def UT:=A9 OV
theorem K5:OV = .region 9 UT false:=by kernel_rfl
noncomputable def Gz:=cl EH
noncomputable def KC:=cr EH
theorem KO:EH = .cond (.tmp 42) Gz KC:=by kernel_rfl
noncomputable def Qu:=cl Gz
noncomputable def K4:=cr Gz
theorem Wv:Gz = .seq Qu K4:=by kernel_rfl
noncomputable def Wf:=A9 Qu
theorem Wi:Qu = .region 10 Wf false:=by kernel_rfl
theorem Wd:K4 = .ret:=by kernel_rfl
theorem VB:KC = .skip:=by kernel_rfl
noncomputable def Ox:=cl GC
noncomputable def G3:=cr GC
theorem VC:GC = .seq Ox G3:=by kernel_rfl
noncomputable def Vk:=A9 Ox
theorem Xg:Ox = .region 11 Vk false:=by kernel_rfl
noncomputable def QG:=cl G3
noncomputable def KK:=cr G3
theorem WR:G3 = .seq QG KK:=by kernel_rfl
noncomputable def Wg:=A9 QG
theorem VR:QG = .region 12 Wg false:=by kernel_rfl
theorem VG:KK = .ret:=by kernel_rfl
section
set_option linter.unusedSectionVars false
variable {Wb : World}
theorem xW{pp qq:Nat}(hlp:len pp≤1099511627775)(hlq:len qq≤1099511627775)(lt:pp<qq):RA 56 [(Av pp),(Av qq)] [] ⟨[(0,(.ref 0)),(1,(.ref 1))],[]⟩ ⟨[(0,(.ref 0)),(1,(.ref 1)),(4,.nil)],[]⟩ Wb 0 TP false:=RA.of
   {  } (by kernel_rfl)
theorem wN{pp qq:Nat}(hlp:len pp≤1099511627775)(hlq:len qq≤1099511627775)(lt:pp<qq):RA 56 [(Av pp),(Av qq),(Am (.int .i64 (Gj pp qq)))] [] ⟨[(0,(.ref 0)),(1,(.ref 1)),(4,.nil)],[]⟩ ⟨[(0,(.ref 0)),(1,(.ref 1)),(4,.nil),(13,(.bool true))],[]⟩ Wb 1 Ua false:=RA.of
   { pures:=[p2 (.bin .lss 3 3) (.ref 2) (.int .i64 0) (.bool true) λ_ _ _ _ _ hx hy=>Gi (r:=true) (by rw [G5 lt]; decide) hx hy],
     calls:=[c2 124 (.ref 0) (.ref 1) (.ref 2) λw v0 v1 hb h0 h1=>Rk h0 h1 (by omega) (by omega)] } (by kernel_rfl)
theorem AaL{pp qq:Nat}(hlp:len pp≤1099511627775)(hlq:len qq≤1099511627775)(lt:pp<qq):RA 56 [(Av pp),(Av qq)] [] ⟨[(0,(.ref 0)),(1,(.ref 1)),(4,.nil),(13,(.bool true))],[]⟩ ⟨[(0,(.ref 1)),(1,(.ref 0)),(4,.nil),(13,(.bool true))],[]⟩ Wb 2 iS false:=RA.of
   {  } (by kernel_rfl)
theorem Z6{p q:Nat}(hqp:q≤p)(bp:len p≤1099511627775)(bq:len q≤1099511627775)(h3:3≤len q):RA 56 [(Av q),(Am (.int .i64 (len q:Int))),(Av p)] [] ⟨[(0,(.ref 2)),(1,(.ref 0))],[]⟩ ⟨[(0,(.ref 2)),(1,(.ref 0)),(18,(.bool true))],[]⟩ Wb 3 Uv false:=RA.of
   { pures:=[p1 (.blt .len [32]) (.ref 0) (.ref 1) λ_ _ _ _ hx=>Qw hx,
      p2 (.bin .gtr 3 3) (.ref 1) (.int .i64 2) (.bool true) λ_ _ _ _ _ hx hy=>EK (r:=true) (by simp; omega) hx hy] } (by kernel_rfl)
theorem jN{p q:Nat}(hqp:q≤p)(bp:len p≤1099511627775)(bq:len q≤1099511627775)(h3:3≤len q):RA 56 [(Av p),(Av q),(yT p q)] [(DT 0 0 0 0 false),(jQ p q)] ⟨[(0,(.ref 0)),(1,(.ref 1)),(18,(.bool true))],[]⟩ ⟨[(0,(.ref 0)),(1,(.ref 1)),(18,(.bool true))],[(5,1)]⟩ Wb 4 jF false:=RA.of
   { calls:=[c2 125 (.ref 0) (.ref 1) (.ref 2) λw v0 v1 hb h0 h1=>XR h0 h1 (by have:=AW hqp; omega) (by omega) hqp],
     allocs:=[⟨134,0,_,SU,SR⟩],
     stores:=[⟨134,0,0,(.ref 2),1,wE⟩] } (by kernel_rfl)
theorem Z7{p q:Nat}(hqp:q≤p)(bp:len p≤1099511627775)(bq:len q≤1099511627775)(h3:3≤len q){c0 d0 c1 d1:Nat}{o:Bool}(hok:D8 p q c0 d0 c1 d1 o)(hz:d0=0)(q0:0<q):RA 56 [(Am (.int .u64 (d0:Int))),(Av p),(Av q)] [(DT c0 d0 c1 d1 o)] ⟨[(0,(.ref 1)),(1,(.ref 2)),(18,(.bool true))],[(5,0)]⟩ ⟨[(0,(.ref 1)),(1,(.ref 2)),(18,(.bool true)),(24,(.bool true))],[(5,0)]⟩ Wb 5 UM false:=RA.of
   { pures:=[p2 (.bin .eql 112 112) (.ref 0) (.int .u64 0) (.bool true) λ_ _ _ _ _ hx hy=>Cj (r:=true) (by simp; omega) hx hy],
     loads:=[⟨112,1,0,(.ref 0),λw q h=>PI w q h⟩],
     flds:=[⟨134,1,1,W5⟩] } (by kernel_rfl)
theorem jI{p q:Nat}(hqp:q≤p)(bp:len p≤1099511627775)(bq:len q≤1099511627775)(h3:3≤len q){c0 d0 c1 d1:Nat}{o:Bool}(hok:D8 p q c0 d0 c1 d1 o)(hz:d0=0)(q0:0<q):RA 56 [(Av p),(Av q),(Av (p / q)),(Av (p % q))] [(DT c0 d0 c1 d1 o)] ⟨[(0,(.ref 0)),(1,(.ref 1)),(18,(.bool true)),(24,(.bool true))],[(5,0)]⟩ ⟨[(0,(.ref 0)),(1,(.ref 1)),(7,(.ref 3)),(18,(.bool true)),(24,(.bool true))],[(5,0)]⟩ Wb 6 dY false:=RA.of
   { calls:=[c2 126 (.ref 0) (.ref 1) (.tup2 (.ref 2) (.ref 3)) λw v0 v1 hb h0 h1=>Xa h0 h1 (by omega) (by omega) q0] } (by kernel_rfl)
theorem gW{p q:Nat}(hqp:q≤p)(bp:len p≤1099511627775)(bq:len q≤1099511627775)(h3:3≤len q){c0 d0 c1 d1:Nat}{o:Bool}(hok:D8 p q c0 d0 c1 d1 o)(hz:d0=0)(q0:0<q):RA 56 [(Av p),(Av q),(Av (p % q))] [(DT c0 d0 c1 d1 o)] ⟨[(0,(.ref 0)),(1,(.ref 1)),(7,(.ref 2)),(18,(.bool true)),(24,(.bool true))],[(5,0)]⟩ ⟨[(0,(.ref 1)),(1,(.ref 2)),(7,(.ref 2)),(18,(.bool true)),(24,(.bool true))],[(5,0)]⟩ Wb 7 bL false:=RA.of
   {  } (by kernel_rfl)
theorem VT{p q:Nat}(hqp:q≤p)(bp:len p≤1099511627775)(bq:len q≤1099511627775)(h3:3≤len q){c0 d0 c1 d1:Nat}{o:Bool}(hok:D8 p q c0 d0 c1 d1 o)(hz:d0≠0){U V:Nat}(hUV:if o then U+c0*p=d0*q∧V+d1*q=c1*p else U+d0*q=c0*p∧V+c1*p=d1*q)(hU:U<p)(hV:V<q):RA 56 [(Am (.int .u64 (d0:Int))),(Av p),(Av q)] [(DT c0 d0 c1 d1 o)] ⟨[(0,(.ref 1)),(1,(.ref 2)),(18,(.bool true))],[(5,0)]⟩ ⟨[(0,(.ref 1)),(1,(.ref 2)),(18,(.bool true)),(24,(.bool false))],[(5,0)]⟩ Wb 5 UM false:=RA.of
   { pures:=[p2 (.bin .eql 112 112) (.ref 0) (.int .u64 0) (.bool false) λ_ _ _ _ _ hx hy=>Cj (r:=false) (by simp; omega) hx hy],
     loads:=[⟨112,1,0,(.ref 0),λw q h=>PI w q h⟩],
     flds:=[⟨134,1,1,W5⟩] } (by kernel_rfl)
theorem fF{p q:Nat}(hqp:q≤p)(bp:len p≤1099511627775)(bq:len q≤1099511627775)(h3:3≤len q){c0 d0 c1 d1:Nat}{o:Bool}(hok:D8 p q c0 d0 c1 d1 o)(hz:d0≠0){U V:Nat}(hUV:if o then U+c0*p=d0*q∧V+d1*q=c1*p else U+d0*q=c0*p∧V+c1*p=d1*q)(hU:U<p)(hV:V<q):RA 56 [(Am (.agg #[.int .u64 (c0:Int),.int .u64 (d0:Int),.int .u64 (c1:Int),.int .u64 (d1:Int),.bool o])),(Av p),(Av q),(Av U),(Av V)] [(DT c0 d0 c1 d1 o)] ⟨[(0,(.ref 1)),(1,(.ref 2)),(18,(.bool true)),(24,(.bool false))],[(5,0)]⟩ ⟨[(0,(.ref 3)),(1,(.ref 4)),(18,(.bool true)),(24,(.bool false))],[(5,0)]⟩ Wb 8 ZI false:=RA.of
   { calls:=[c3 127 (.ref 0) (.ref 1) (.ref 2) (.tup2 (.ref 3) (.ref 4)) λw v0 v1 v2 hb h0 h1 h2=>Aae h0 h1 h2 hok hUV hU hV bp bq],
     loads:=[⟨134,0,0,(.ref 0),λw q h=>Ad5 w q h⟩] } (by kernel_rfl)
theorem VD{p q:Nat}(hqp:q≤p)(bp:len p≤1099511627775)(bq:len q≤1099511627775)(h3:len q≤2):RA 56 [(Av q),(Am (.int .i64 (len q:Int))),(Av p)] [] ⟨[(0,(.ref 2)),(1,(.ref 0))],[]⟩ ⟨[(0,(.ref 2)),(1,(.ref 0)),(18,(.bool false))],[]⟩ Wb 3 Uv false:=RA.of
   { pures:=[p1 (.blt .len [32]) (.ref 0) (.ref 1) λ_ _ _ _ hx=>Qw hx,
      p2 (.bin .gtr 3 3) (.ref 1) (.int .i64 2) (.bool false) λ_ _ _ _ _ hx hy=>EK (r:=false) (by simp; omega) hx hy] } (by kernel_rfl)
theorem fA{p q:Nat}(hqp:q≤p)(bp:len p≤1099511627775)(bq:len q≤1099511627775)(q0:q=0):RA 56 [(Av q),(Am (.int .i64 (len q:Int))),(Av p)] [] ⟨[(0,(.ref 2)),(1,(.ref 0)),(18,(.bool false))],[]⟩ ⟨[(0,(.ref 2)),(1,(.ref 0)),(18,(.bool false)),(42,(.bool true))],[]⟩ Wb 9 UT false:=RA.of
   { pures:=[p1 (.blt .len [32]) (.ref 0) (.ref 1) λ_ _ _ _ hx=>Qw hx,
      p2 (.bin .eql 3 3) (.ref 1) (.int .i64 0) (.bool true) λ_ _ _ _ _ hx hy=>Cj (r:=true) (by rw [q0,AX]; rfl) hx hy] } (by kernel_rfl)
theorem Vr{p q:Nat}(hqp:q≤p)(bp:len p≤1099511627775)(bq:len q≤1099511627775)(q0:q=0):RA 56 [(Av p),(Av q)] [] ⟨[(0,(.ref 0)),(1,(.ref 1)),(18,(.bool false)),(42,(.bool true))],[]⟩ ⟨[(0,(.ref 0)),(1,(.ref 1)),(4,(.ref 0)),(18,(.bool false)),(42,(.bool true))],[]⟩ Wb 10 Wf false:=RA.of
   {  } (by kernel_rfl)
theorem Vu{p q:Nat}(hqp:q≤p)(bp:len p≤1099511627775)(bq:len q≤1099511627775)(q0:0<q)(q64:q<18446744073709551616):RA 56 [(Av q),(Am (.int .i64 (len q:Int))),(Av p)] [] ⟨[(0,(.ref 2)),(1,(.ref 0)),(18,(.bool false))],[]⟩ ⟨[(0,(.ref 2)),(1,(.ref 0)),(18,(.bool false)),(42,(.bool false))],[]⟩ Wb 9 UT false:=RA.of
   { pures:=[p1 (.blt .len [32]) (.ref 0) (.ref 1) λ_ _ _ _ hx=>Qw hx,
      p2 (.bin .eql 3 3) (.ref 1) (.int .i64 0) (.bool false) λ_ _ _ _ _ hx hy=>Cj (r:=false) (zB q0) hx hy] } (by kernel_rfl)
theorem VA{p q:Nat}(hqp:q≤p)(bp:len p≤1099511627775)(bq:len q≤1099511627775)(q0:0<q)(q64:q<18446744073709551616):RA 56 [(Av p),(Av q),(Av (p / q)),(Av (p % q))] [] ⟨[(0,(.ref 0)),(1,(.ref 1)),(18,(.bool false)),(42,(.bool false))],[]⟩ ⟨[(0,(.ref 0)),(1,(.ref 1)),(9,(.ref 3)),(18,(.bool false)),(42,(.bool false))],[]⟩ Wb 11 Vk false:=RA.of
   { calls:=[c2 126 (.ref 0) (.ref 1) (.tup2 (.ref 2) (.ref 3)) λw v0 v1 hb h0 h1=>Xa h0 h1 (by omega) (by omega) q0] } (by kernel_rfl)
theorem WD{p q:Nat}(hqp:q≤p)(bp:len p≤1099511627775)(bq:len q≤1099511627775)(q0:0<q)(q64:q<18446744073709551616):RA 56 [(Av q),(Am (.int .u64 ((q:Nat):Int))),(Av (p % q)),(Am (.int .u64 (((p % q):Nat):Int))),(Am (.int .u64 ((Nat.gcd q (p % q):Nat):Int))),(Av (Nat.gcd q (p % q))),(Av p)] [] ⟨[(0,(.ref 6)),(1,(.ref 0)),(9,(.ref 2)),(18,(.bool false)),(42,(.bool false))],[]⟩ ⟨[(0,(.ref 6)),(1,(.ref 0)),(4,(.ref 5)),(9,(.ref 2)),(18,(.bool false)),(42,(.bool false))],[]⟩ Wb 12 Wg false:=RA.of
   { calls:=[c1 129 (.ref 0) (.ref 1) λw v0 hb h0=>V7 h0 q64,
      c1 129 (.ref 2) (.ref 3) λw v0 hb h0=>V7 h0 (Nat.lt_trans (Nat.mod_lt _ q0) q64),
      c2 128 (.ref 1) (.ref 3) (.ref 4) λw v0 v1 hb h0 h1=>Oj h0 h1 q64 (Nat.lt_trans (Nat.mod_lt _ q0) q64),
      c1 103 (.ref 4) (.ref 5) λw v0 hb h0=>XC h0 (Nat.lt_of_le_of_lt (Nat.le_of_dvd q0 (Nat.gcd_dvd_left _ _)) q64)] } (by kernel_rfl)
theorem qH{pp qq:Nat}(hlp:len pp≤1099511627775)(hlq:len qq≤1099511627775)(lt:qq≤pp):RA 56 [(Av pp),(Av qq)] [] ⟨[(0,(.ref 0)),(1,(.ref 1))],[]⟩ ⟨[(0,(.ref 0)),(1,(.ref 1)),(4,.nil)],[]⟩ Wb 0 TP false:=RA.of
   {  } (by kernel_rfl)
theorem nO{pp qq:Nat}(hlp:len pp≤1099511627775)(hlq:len qq≤1099511627775)(lt:qq≤pp):RA 56 [(Av pp),(Av qq),(Am (.int .i64 (Gj pp qq)))] [] ⟨[(0,(.ref 0)),(1,(.ref 1)),(4,.nil)],[]⟩ ⟨[(0,(.ref 0)),(1,(.ref 1)),(4,.nil),(13,(.bool false))],[]⟩ Wb 1 Ua false:=RA.of
   { pures:=[p2 (.bin .lss 3 3) (.ref 2) (.int .i64 0) (.bool false) λ_ _ _ _ _ hx hy=>Gi (r:=false) (oK lt) hx hy],
     calls:=[c2 124 (.ref 0) (.ref 1) (.ref 2) λw v0 v1 hb h0 h1=>Rk h0 h1 (by omega) (by omega)] } (by kernel_rfl)
end
theorem RN(va vb:Value)(pp qq:Nat)(W:World)(ha:AB W va pp)(hb:AB W vb qq)(hlp:len pp≤1099511627775)(hlq:len qq≤1099511627775) :
  Calls Tryz.prog 118 #[va,vb] W (Aj (Av (Nat.gcd pp qq)) W):=by
 refine Db (S:=[(0,(Av pp)),(1,(Av qq))]) Tryz.func118 (by kernel_rfl) Tryz.ntmps118 (by simp) (λx hx=>?_) λa w hst=>?_
 ·simp only [List.mem_cons,List.not_mem_nil,or_false] at hx
  rcases hx with rfl | rfl
  ·exact ⟨_,rfl,ha⟩
  ·exact ⟨_,rfl,hb⟩
 show Code.wp _ Qa _ a w
 rcases Nat.lt_or_ge pp qq with lt | lt
 ·rw [ZD]
  refine wp_seq ?_;rw [Z1];refine (xW hlp hlq lt).run hst ?_;clear hst;intro a w hst;show Code.wp _ JA _ a w;rw [jH];refine wp_seq ?_;rw [dZ];refine wp_seq ?_;rw [dI];refine (wN hlp hlq lt).run hst ?_;clear hst;intro a w hst;show Code.wp _ Js _ a w;rw [cQ];refine wp_cond_true (AZ hst 3 rfl) ?_;show Code.wp _ Qe _ a w;rw [wT];refine (AaL hlp hlq lt).run hst ?_;clear hst;intro a w hst;show Code.wp _ JD _ a w;rw [fX];refine wp_seq ?_;rw [Zr];refine wp_block ?_;show Code.wp _ IY _ a w;rw [Xk];refine Cz (fun (z:Nat × Nat) a w=>St W 56 [(0,(Av z.1)),(1,(Av z.2))] [] a w∧z.2≤z.1∧z.1≤max pp qq∧Nat.gcd z.1 z.2=Nat.gcd pp qq) (λz=>z.2) ?_ (qq,pp) ⟨hst.to ⟨hst.slots.get (k:=0) rfl,hst.slots.get (k:=1) rfl,trivial⟩,by show pp≤qq; omega,by show qq≤max pp qq; omega,Nat.gcd_comm _ _⟩
  rintro ⟨p,q⟩ a w ⟨hst,hqp,hpm,hg⟩
  simp only [] at hst hqp hpm hg;have bm:len (max pp qq)≤1099511627775:=by rcases Nat.le_total pp qq with h | h; (rw [Nat.max_eq_right h]; exact hlq); (rw [Nat.max_eq_left h]; exact hlp)
  have bp:len p≤1099511627775:=Nat.le_trans (AW hpm) bm;have bq:len q≤1099511627775:=Nat.le_trans (AW hqp) bp;show Code.wp _ GM _ a w
  rcases Nat.lt_or_ge 2 (len q) with h3 | h3
  ·have h3:3≤len q:=h3
   rw [K6];refine wp_seq ?_;rw [KX];refine wp_seq ?_;rw [Ks];refine (Z6 hqp bp bq h3).run hst ?_;clear hst;intro a w hst;show Code.wp _ EJ _ a w;rw [Ku];refine wp_cond_true (AZ hst 2 rfl) ?_;show Code.wp _ KQ _ a w;rw [U6];refine wp_skip ?_;show Code.wp _ IW _ a w;rw [WA];refine wp_block ?_;show Code.wp _ GD _ a w;rw [VX];refine wp_seq ?_;rw [VP];refine (jN hqp bp bq h3).run hst ?_;clear hst;intro a w hst;obtain ⟨c0,d0,c1,d1,o,hok,hst⟩:=Wa hst
   by_cases hz:d0=0
   ·have q0:0<q:=by rcases Nat.eq_zero_or_pos q with h | h; (rw [h,AX] at h3; omega); exact h
    show Code.wp _ ET _ a w;rw [KP];refine wp_seq ?_;rw [KH];refine (Z7 hqp bp bq h3 hok hz q0).run hst ?_;clear hst;intro a w hst;show Code.wp _ EE _ a w;rw [KR];refine wp_cond_true (AZ hst 3 rfl) ?_;show Code.wp _ Ha _ a w;rw [Wo];refine wp_seq ?_;rw [V8];refine (jI hqp bp bq h3 hok hz q0).run hst ?_;clear hst;intro a w hst;show Code.wp _ Jd _ a w;rw [VU];refine (gW hqp bp bq h3 hok hz q0).run hst ?_;clear hst;intro a w hst;exact ⟨(q,p % q),⟨((hst.to (S':=[(0,(Av q)),(1,(Av (p % q)))]) ⟨hst.slots.get (k:=0) rfl,hst.slots.get (k:=1) rfl,trivial⟩).firstB 0),Nat.le_of_lt (Nat.mod_lt _ q0),by show q≤max pp qq; omega,by show Nat.gcd q (p % q)=_; rw [← hg,Nat.gcd_comm p q,Nat.gcd_rec q p,Nat.gcd_comm]⟩,Nat.mod_lt _ q0⟩
   ·obtain ⟨U,V,hUV,hgU,hU,hV,hVU⟩:=hok.2.2.2.2 hz
    show Code.wp _ ET _ a w;rw [KP];refine wp_seq ?_;rw [KH];refine (VT hqp bp bq h3 hok hz hUV hU hV).run hst ?_;clear hst;intro a w hst;show Code.wp _ EE _ a w;rw [KR];refine wp_cond_false (AZ hst 3 rfl) ?_;show Code.wp _ IV _ a w;rw [Vz];refine (fF hqp bp bq h3 hok hz hUV hU hV).run hst ?_;clear hst;intro a w hst;exact ⟨(U,V),⟨((hst.to (S':=[(0,(Av U)),(1,(Av V))]) ⟨hst.slots.get (k:=0) rfl,hst.slots.get (k:=1) rfl,trivial⟩).firstB 0),hVU,by show U≤max pp qq; omega,by show Nat.gcd U V=_; rw [hgU,hg]⟩,hV⟩
  ·rw [K6]
   refine wp_seq ?_;rw [KX];refine wp_seq ?_;rw [Ks];refine (VD hqp bp bq h3).run hst ?_;clear hst;intro a w hst;show Code.wp _ EJ _ a w;rw [Ku];refine wp_cond_false (AZ hst 2 rfl) ?_;show Code.wp _ Kz _ a w;rw [Wt];refine wp_exit ?_
   rcases Nat.eq_zero_or_pos q with q0 | q0
   ·have e0:p=Nat.gcd pp qq:=by rw [← hg,q0,Nat.gcd_zero_right]
    show Code.wp _ EY _ a w;rw [KD];refine wp_seq ?_;rw [La];refine wp_seq ?_;rw [K5];refine (fA hqp bp bq q0).run hst ?_;clear hst;intro a w hst;show Code.wp _ EH _ a w;rw [KO];refine wp_cond_true (AZ hst 3 rfl) ?_;show Code.wp _ Gz _ a w;rw [Wv];refine wp_seq ?_;rw [Wi];refine (Vr hqp bp bq q0).run hst ?_;clear hst;intro a w hst;show Code.wp _ K4 _ a w;rw [Wd];refine wp_ret ?_;rw [e0] at hst;exact Lc hst rfl 2 rfl
   ·have q64:q<18446744073709551616:=Nat.lt_of_lt_of_le (BC q) (Nat.pow_le_pow_right (n:=4294967296) (by decide) h3)
    show Code.wp _ EY _ a w;rw [KD];refine wp_seq ?_;rw [La];refine wp_seq ?_;rw [K5];refine (Vu hqp bp bq q0 q64).run hst ?_;clear hst;intro a w hst;show Code.wp _ EH _ a w;rw [KO];refine wp_cond_false (AZ hst 3 rfl) ?_;show Code.wp _ KC _ a w;rw [VB];refine wp_skip ?_;show Code.wp _ GC _ a w;rw [VC];refine wp_seq ?_;rw [Xg];refine (VA hqp bp bq q0 q64).run hst ?_;clear hst;intro a w hst;show Code.wp _ G3 _ a w;rw [WR];refine wp_seq ?_;rw [VR];refine (WD hqp bp bq q0 q64).run hst ?_;clear hst;intro a w hst;show Code.wp _ KK _ a w;rw [VG];refine wp_ret ?_;have e0:Nat.gcd q (p % q)=Nat.gcd pp qq:=by rw [← hg,Nat.gcd_comm p q,Nat.gcd_rec q p,Nat.gcd_comm]
    rw [e0] at hst;exact Lc hst rfl 2 rfl
 ·rw [ZD]
  refine wp_seq ?_;rw [Z1];refine (qH hlp hlq lt).run hst ?_;clear hst;intro a w hst;show Code.wp _ JA _ a w;rw [jH];refine wp_seq ?_;rw [dZ];refine wp_seq ?_;rw [dI];refine (nO hlp hlq lt).run hst ?_;clear hst;intro a w hst;show Code.wp _ Js _ a w;rw [cQ];refine wp_cond_false (AZ hst 3 rfl) ?_;show Code.wp _ T_ _ a w;rw [wO];refine wp_skip ?_;show Code.wp _ JD _ a w;rw [fX];refine wp_seq ?_;rw [Zr];refine wp_block ?_;show Code.wp _ IY _ a w;rw [Xk];refine Cz (fun (z:Nat × Nat) a w=>St W 56 [(0,(Av z.1)),(1,(Av z.2))] [] a w∧z.2≤z.1∧z.1≤max pp qq∧Nat.gcd z.1 z.2=Nat.gcd pp qq) (λz=>z.2) ?_ (pp,qq) ⟨hst.to ⟨hst.slots.get (k:=0) rfl,hst.slots.get (k:=1) rfl,trivial⟩,by show qq≤pp; omega,by show pp≤max pp qq; omega,rfl⟩
  rintro ⟨p,q⟩ a w ⟨hst,hqp,hpm,hg⟩
  simp only [] at hst hqp hpm hg;have bm:len (max pp qq)≤1099511627775:=by rcases Nat.le_total pp qq with h | h; (rw [Nat.max_eq_right h]; exact hlq); (rw [Nat.max_eq_left h]; exact hlp)
  have bp:len p≤1099511627775:=Nat.le_trans (AW hpm) bm;have bq:len q≤1099511627775:=Nat.le_trans (AW hqp) bp;show Code.wp _ GM _ a w
  rcases Nat.lt_or_ge 2 (len q) with h3 | h3
  ·have h3:3≤len q:=h3
   rw [K6];refine wp_seq ?_;rw [KX];refine wp_seq ?_;rw [Ks];refine (Z6 hqp bp bq h3).run hst ?_;clear hst;intro a w hst;show Code.wp _ EJ _ a w;rw [Ku];refine wp_cond_true (AZ hst 2 rfl) ?_;show Code.wp _ KQ _ a w;rw [U6];refine wp_skip ?_;show Code.wp _ IW _ a w;rw [WA];refine wp_block ?_;show Code.wp _ GD _ a w;rw [VX];refine wp_seq ?_;rw [VP];refine (jN hqp bp bq h3).run hst ?_;clear hst;intro a w hst;obtain ⟨c0,d0,c1,d1,o,hok,hst⟩:=Wa hst
   by_cases hz:d0=0
   ·have q0:0<q:=by rcases Nat.eq_zero_or_pos q with h | h; (rw [h,AX] at h3; omega); exact h
    show Code.wp _ ET _ a w;rw [KP];refine wp_seq ?_;rw [KH];refine (Z7 hqp bp bq h3 hok hz q0).run hst ?_;clear hst;intro a w hst;show Code.wp _ EE _ a w;rw [KR];refine wp_cond_true (AZ hst 3 rfl) ?_;show Code.wp _ Ha _ a w;rw [Wo];refine wp_seq ?_;rw [V8];refine (jI hqp bp bq h3 hok hz q0).run hst ?_;clear hst;intro a w hst;show Code.wp _ Jd _ a w;rw [VU];refine (gW hqp bp bq h3 hok hz q0).run hst ?_;clear hst;intro a w hst;exact ⟨(q,p % q),⟨((hst.to (S':=[(0,(Av q)),(1,(Av (p % q)))]) ⟨hst.slots.get (k:=0) rfl,hst.slots.get (k:=1) rfl,trivial⟩).firstB 0),Nat.le_of_lt (Nat.mod_lt _ q0),by show q≤max pp qq; omega,by show Nat.gcd q (p % q)=_; rw [← hg,Nat.gcd_comm p q,Nat.gcd_rec q p,Nat.gcd_comm]⟩,Nat.mod_lt _ q0⟩
   ·obtain ⟨U,V,hUV,hgU,hU,hV,hVU⟩:=hok.2.2.2.2 hz
    show Code.wp _ ET _ a w;rw [KP];refine wp_seq ?_;rw [KH];refine (VT hqp bp bq h3 hok hz hUV hU hV).run hst ?_;clear hst;intro a w hst;show Code.wp _ EE _ a w;rw [KR];refine wp_cond_false (AZ hst 3 rfl) ?_;show Code.wp _ IV _ a w;rw [Vz];refine (fF hqp bp bq h3 hok hz hUV hU hV).run hst ?_;clear hst;intro a w hst;exact ⟨(U,V),⟨((hst.to (S':=[(0,(Av U)),(1,(Av V))]) ⟨hst.slots.get (k:=0) rfl,hst.slots.get (k:=1) rfl,trivial⟩).firstB 0),hVU,by show U≤max pp qq; omega,by show Nat.gcd U V=_; rw [hgU,hg]⟩,hV⟩
  ·rw [K6]
   refine wp_seq ?_;rw [KX];refine wp_seq ?_;rw [Ks];refine (VD hqp bp bq h3).run hst ?_;clear hst;intro a w hst;show Code.wp _ EJ _ a w;rw [Ku];refine wp_cond_false (AZ hst 2 rfl) ?_;show Code.wp _ Kz _ a w;rw [Wt];refine wp_exit ?_
   rcases Nat.eq_zero_or_pos q with q0 | q0
   ·have e0:p=Nat.gcd pp qq:=by rw [← hg,q0,Nat.gcd_zero_right]
    show Code.wp _ EY _ a w;rw [KD];refine wp_seq ?_;rw [La];refine wp_seq ?_;rw [K5];refine (fA hqp bp bq q0).run hst ?_;clear hst;intro a w hst;show Code.wp _ EH _ a w;rw [KO];refine wp_cond_true (AZ hst 3 rfl) ?_;show Code.wp _ Gz _ a w;rw [Wv];refine wp_seq ?_;rw [Wi];refine (Vr hqp bp bq q0).run hst ?_;clear hst;intro a w hst;show Code.wp _ K4 _ a w;rw [Wd];refine wp_ret ?_;rw [e0] at hst;exact Lc hst rfl 2 rfl
   ·have q64:q<18446744073709551616:=Nat.lt_of_lt_of_le (BC q) (Nat.pow_le_pow_right (n:=4294967296) (by decide) h3)
    show Code.wp _ EY _ a w;rw [KD];refine wp_seq ?_;rw [La];refine wp_seq ?_;rw [K5];refine (Vu hqp bp bq q0 q64).run hst ?_;clear hst;intro a w hst;show Code.wp _ EH _ a w;rw [KO];refine wp_cond_false (AZ hst 3 rfl) ?_;show Code.wp _ KC _ a w;rw [VB];refine wp_skip ?_;show Code.wp _ GC _ a w;rw [VC];refine wp_seq ?_;rw [Xg];refine (VA hqp bp bq q0 q64).run hst ?_;clear hst;intro a w hst;show Code.wp _ G3 _ a w;rw [WR];refine wp_seq ?_;rw [VR];refine (WD hqp bp bq q0 q64).run hst ?_;clear hst;intro a w hst;show Code.wp _ KK _ a w;rw [VG];refine wp_ret ?_;have e0:Nat.gcd q (p % q)=Nat.gcd pp qq:=by rw [← hg,Nat.gcd_comm p q,Nat.gcd_rec q p,Nat.gcd_comm]
    rw [e0] at hst;exact Lc hst rfl 2 rfl
end Go.Proofs.YtdopbgnkneeceaaGreat
