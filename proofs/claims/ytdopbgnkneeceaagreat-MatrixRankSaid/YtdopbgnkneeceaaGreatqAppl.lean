/- The steps, applied (written by wip/tools/gen_apply.py). -/
import Derived.Test.YtdopbgnkneeceaaGreatqSim
import Derived.Test.YtdopbgnkneeceaaGreatqComb
set_option linter.unusedSectionVars false
set_option linter.unusedVariables false
set_option linter.unusedSimpArgs false
set_option maxRecDepth 100000
namespace Go.Proofs.YtdopbgnkneeceaaGreat
open Go.RowKit
section
variable {ops : Array Oper} {N : Nat} {Wb W0 : World} {a0 : Act} {F : List PF} {BX : List Bg} {AD : List (Nat × Nat × Nat)} {i : Nat} {g : Option (Nat × Bool)}
end
def DT(a0 b0 a1 b1:Nat)(o:Bool):CF:=Aa5 #[.int .u64 (a0:Int),.int .u64 (b0:Int),.int .u64 (a1:Int),.int .u64 (b1:Int),.bool o] 134 (by decide)
theorem R5{a0 b0 a1 b1:Nat}{o:Bool}(w:World)(v:Value)(h:(Am (.agg #[.int .u64 (a0:Int),.int .u64 (b0:Int),.int .u64 (a1:Int),.int .u64 (b1:Int),.bool o])).p v w):∃ ob,(Instr.box 134 v).run Tryz.prog w = .ok (.pointer (some ⟨w.heap.size,0,none⟩)) (w.alloc ob)∧(DT a0 b0 a1 b1 o).p w.heap.size (w.alloc ob):=by
 have h:v = .agg #[.int .u64 (a0:Int),.int .u64 (b0:Int),.int .u64 (a1:Int),.int .u64 (b1:Int),.bool o]:=h;subst h;exact ⟨.cells #[.int .u64 (a0:Int),.int .u64 (b0:Int),.int .u64 (a1:Int),.int .u64 (b1:Int),.bool o] 134 (0,0),by simp [go_sem],Hm w _⟩
theorem rS(q:Nat)(w:World):(Instr.fieldAt 134 (.pointer (some ⟨q,0,none⟩)) 0).run Tryz.prog w = .ok (.pointer (some ⟨q,0,none⟩)) w:=by simp [go_sem]
theorem jK{a0 b0 a1 b1:Nat}{o:Bool}(w:World)(q:Nat)(h:(DT a0 b0 a1 b1 o).p q w):∃ v,(Instr.loadAt 112 (.pointer (some ⟨q,0,none⟩))).run Tryz.prog w = .ok v w∧(Am (.int .u64 (a0:Int))).p v w:=by
 have hh:w.heap[q]? = some (.cells #[.int .u64 (a0:Int),.int .u64 (b0:Int),.int .u64 (a1:Int),.int .u64 (b1:Int),.bool o] 134 (0,0)):=h;have h0:w.cell? ⟨q,0,none⟩=some (.int .u64 (a0:Int)):=by rw [cell_of_row w q 0 _ _ (0,0) hh]; rfl
 exact ⟨_,by simp [go_sem,h0],rfl⟩
theorem W_(q:Nat)(w:World):(Instr.fieldAt 134 (.pointer (some ⟨q,0,none⟩)) 1).run Tryz.prog w = .ok (.pointer (some ⟨q,1,none⟩)) w:=by simp [go_sem]
theorem PR{a0 b0 a1 b1:Nat}{o:Bool}(w:World)(q:Nat)(h:(DT a0 b0 a1 b1 o).p q w):∃ v,(Instr.loadAt 112 (.pointer (some ⟨q,1,none⟩))).run Tryz.prog w = .ok v w∧(Am (.int .u64 (b0:Int))).p v w:=by
 have hh:w.heap[q]? = some (.cells #[.int .u64 (a0:Int),.int .u64 (b0:Int),.int .u64 (a1:Int),.int .u64 (b1:Int),.bool o] 134 (0,0)):=h;have h0:w.cell? ⟨q,1,none⟩=some (.int .u64 (b0:Int)):=by rw [cell_of_row w q 1 _ _ (0,0) hh]; rfl
 exact ⟨_,by simp [go_sem,h0],rfl⟩
theorem rR(q:Nat)(w:World):(Instr.fieldAt 134 (.pointer (some ⟨q,0,none⟩)) 2).run Tryz.prog w = .ok (.pointer (some ⟨q,2,none⟩)) w:=by simp [go_sem]
theorem Z9{a0 b0 a1 b1:Nat}{o:Bool}(w:World)(q:Nat)(h:(DT a0 b0 a1 b1 o).p q w):∃ v,(Instr.loadAt 112 (.pointer (some ⟨q,2,none⟩))).run Tryz.prog w = .ok v w∧(Am (.int .u64 (a1:Int))).p v w:=by
 have hh:w.heap[q]? = some (.cells #[.int .u64 (a0:Int),.int .u64 (b0:Int),.int .u64 (a1:Int),.int .u64 (b1:Int),.bool o] 134 (0,0)):=h;have h0:w.cell? ⟨q,2,none⟩=some (.int .u64 (a1:Int)):=by rw [cell_of_row w q 2 _ _ (0,0) hh]; rfl
 exact ⟨_,by simp [go_sem,h0],rfl⟩
theorem sW(q:Nat)(w:World):(Instr.fieldAt 134 (.pointer (some ⟨q,0,none⟩)) 3).run Tryz.prog w = .ok (.pointer (some ⟨q,3,none⟩)) w:=by simp [go_sem]
theorem bU{a0 b0 a1 b1:Nat}{o:Bool}(w:World)(q:Nat)(h:(DT a0 b0 a1 b1 o).p q w):∃ v,(Instr.loadAt 112 (.pointer (some ⟨q,3,none⟩))).run Tryz.prog w = .ok v w∧(Am (.int .u64 (b1:Int))).p v w:=by
 have hh:w.heap[q]? = some (.cells #[.int .u64 (a0:Int),.int .u64 (b0:Int),.int .u64 (a1:Int),.int .u64 (b1:Int),.bool o] 134 (0,0)):=h;have h0:w.cell? ⟨q,3,none⟩=some (.int .u64 (b1:Int)):=by rw [cell_of_row w q 3 _ _ (0,0) hh]; rfl
 exact ⟨_,by simp [go_sem,h0],rfl⟩
theorem sZ(q:Nat)(w:World):(Instr.fieldAt 134 (.pointer (some ⟨q,0,none⟩)) 4).run Tryz.prog w = .ok (.pointer (some ⟨q,4,none⟩)) w:=by simp [go_sem]
theorem iU{a0 b0 a1 b1:Nat}{o:Bool}(w:World)(q:Nat)(h:(DT a0 b0 a1 b1 o).p q w):∃ v,(Instr.loadAt 4 (.pointer (some ⟨q,4,none⟩))).run Tryz.prog w = .ok v w∧(Am (.bool o)).p v w:=by
 have hh:w.heap[q]? = some (.cells #[.int .u64 (a0:Int),.int .u64 (b0:Int),.int .u64 (a1:Int),.int .u64 (b1:Int),.bool o] 134 (0,0)):=h;have h0:w.cell? ⟨q,4,none⟩=some (.bool o):=by rw [cell_of_row w q 4 _ _ (0,0) hh]; rfl
 exact ⟨_,by simp [go_sem,h0],rfl⟩
theorem Wd{w:World}{va vp vb vq:Value}{x y p q z:Nat}(ha:(Av x).p va w)(hvp:(Am (.int .u64 (p:Int))).p vp w)(hb:(Av y).p vb w)(hvq:(Am (.int .u64 (q:Int))).p vq w)(hp:p<4294967296)(hq:q<4294967296)(hz:z+q*y=p*x)(hm:max (len x) (len y)≤1099511627776)(hzl:len z≤max (len x) (len y)) :
  Calls Tryz.prog 141 #[va,vp,vb,vq] w (Aj (Av z) w):=by
 have hvp:vp = .int .u64 (p:Int):=hvp;have hvq:vq = .int .u64 (q:Int):=hvq;subst hvp hvq;have ha:AB w va x:=ha;have hb:AB w vb y:=hb;obtain ⟨A,c,rfl,HA⟩:=ha.open_;obtain ⟨B,d,rfl,HB⟩:=hb.open_
 rcases Nat.lt_or_ge (len x) (len y) with h | h
 ·exact UE A B c d p q x y z w HA.out.mem.2.2 HB.out.mem.2.2 hp hq h (by omega) hz (by omega)
 ·exact SZ A B c d p q x y z w HA.out.mem.2.2 HB.out.mem.2.2 hp hq h (by omega) hz (by omega)
theorem Ri{Wb:World}{N:Nat}{S:List (Nat × PF)}{B:List (Nat × CF)}{a:Act}{w:World}{fn:Func}{t t':Nat}{R R':PF}(hst:St Wb N S B a w)(hr:fn.results = #[.tmp t,.tmp t'])(k:Nat)(hk:S[k]? = some (t,R))(k':Nat)(hk':S[k']? = some (t',R')):bodyPost Tryz.prog fn (Aj (BT R R') Wb) .ret a w:=by
 obtain ⟨v,h1,h2⟩:=hst.slots.get hk;obtain ⟨v',h1',h2'⟩:=hst.slots.get hk';refine bodyPost_ret (v:=.tuple #[v,v']) ?_ hst.defers ⟨_,rfl,⟨_,_,rfl,h2,h2'⟩,hst.below⟩;simp [results,hr,go_sem,Array.getD_eq_getD_getElem?,h1,h1']
noncomputable def LS:=C_ Tryz.f127
noncomputable def UK:=cl LS
noncomputable def Ji:=cr LS
theorem dS:LS = .seq UK Ji:=by kernel_rfl
noncomputable def TC:=A_ UK
theorem eL:UK = .region 0 TC false:=by kernel_rfl
noncomputable def PT:=cl Ji
noncomputable def ME:=cr Ji
theorem ZX:Ji = .seq PT ME:=by kernel_rfl
noncomputable def SO:=cl PT
noncomputable def Jp:=cr PT
theorem aY:PT = .seq SO Jp:=by kernel_rfl
noncomputable def TD:=A_ SO
theorem dT:SO = .region 1 TD false:=by kernel_rfl
noncomputable def Lq:=cl Jp
noncomputable def T7:=cr Jp
theorem fP:Jp = .cond (.tmp 9) Lq T7:=by kernel_rfl
noncomputable def Up:=cl Lq
noncomputable def P7:=cr Lq
theorem yG:Lq = .seq Up P7:=by kernel_rfl
noncomputable def cJ:=A_ Up
theorem Aa1:Up = .region 2 cJ true:=by kernel_rfl
theorem pK:P7 = .ret:=by kernel_rfl
theorem Abg:T7 = .skip:=by kernel_rfl
noncomputable def OX:=cl ME
noncomputable def O0:=cr ME
theorem vV:ME = .seq OX O0:=by kernel_rfl
noncomputable def Zq:=A_ OX
theorem pQ:OX = .region 3 Zq true:=by kernel_rfl
theorem mP:O0 = .ret:=by kernel_rfl
section
set_option linter.unusedSectionVars false
variable {Wb : World} {mm nn c0 d0 c1 d1 U V : Nat} (l0 : c0 < 4294967296) (l1 : d0 < 4294967296) (l2 : c1 < 4294967296) (l3 : d1 < 4294967296) (hmx : max (len mm) (len nn) ≤ 1099511627776) (hU : len U ≤ max (len mm) (len nn)) (hV : len V ≤ max (len mm) (len nn))
include l0 l1 l2 l3 hmx hU hV
theorem xO(e1:U+c0*mm=d0*nn)(e2:V+d1*nn=c1*mm):RA 38 [(Am (.agg #[.int .u64 (c0:Int),.int .u64 (d0:Int),.int .u64 (c1:Int),.int .u64 (d1:Int),.bool true])),(Av mm),(Av nn)] [(DT c0 d0 c1 d1 true)] ⟨[(0,(.ref 0)),(1,(.ref 1)),(2,(.ref 2))],[]⟩ ⟨[(0,(.ref 0)),(1,(.ref 1)),(2,(.ref 2)),(6,.nil),(7,.nil)],[(3,0)]⟩ Wb 0 TC false:=RA.of
   { boxes:=[⟨134,(.ref 0),0,λw v h=>R5 w v h⟩] } (by kernel_rfl)
theorem wA(e1:U+c0*mm=d0*nn)(e2:V+d1*nn=c1*mm):RA 38 [(Am (.agg #[.int .u64 (c0:Int),.int .u64 (d0:Int),.int .u64 (c1:Int),.int .u64 (d1:Int),.bool true])),(Av mm),(Av nn)] [(DT c0 d0 c1 d1 true)] ⟨[(0,(.ref 0)),(1,(.ref 1)),(2,(.ref 2)),(6,.nil),(7,.nil)],[(3,0)]⟩ ⟨[(0,(.ref 0)),(1,(.ref 1)),(2,(.ref 2)),(6,.nil),(7,.nil),(9,(.bool true))],[(3,0)]⟩ Wb 1 TD false:=RA.of
   { loads:=[⟨4,4,0,(.bool true),λw q h=>iU w q h⟩],
     flds:=[⟨134,4,4,sZ⟩] } (by kernel_rfl)
theorem uY(e1:U+c0*mm=d0*nn)(e2:V+d1*nn=c1*mm):RA 38 [(Am (.int .u64 (d0:Int))),(Am (.int .u64 (c0:Int))),(Av nn),(Av mm),(Av U),(Am (.int .u64 (c1:Int))),(Am (.int .u64 (d1:Int))),(Av V),(Am (.agg #[.int .u64 (c0:Int),.int .u64 (d0:Int),.int .u64 (c1:Int),.int .u64 (d1:Int),.bool true]))] [(DT c0 d0 c1 d1 true)] ⟨[(0,(.ref 8)),(1,(.ref 3)),(2,(.ref 2)),(6,.nil),(7,.nil),(9,(.bool true))],[(3,0)]⟩ ⟨[(0,(.ref 8)),(1,(.ref 3)),(2,(.ref 2)),(6,(.ref 4)),(7,(.ref 7)),(9,(.bool true))],[(3,0)]⟩ Wb 2 cJ true:=RA.of
   { calls:=[c4 141 (.ref 2) (.ref 0) (.ref 3) (.ref 1) (.ref 4) λw v0 v1 v2 v3 hb h0 h1 h2 h3=>Wd h0 h1 h2 h3 (by assumption) (by assumption) e1 (Nat.max_comm (len mm) (len nn) ▸ hmx) (Nat.max_comm (len mm) (len nn) ▸ hU),
      c4 141 (.ref 3) (.ref 5) (.ref 2) (.ref 6) (.ref 7) λw v0 v1 v2 v3 hb h0 h1 h2 h3=>Wd h0 h1 h2 h3 (by assumption) (by assumption) e2 hmx hV],
     loads:=[⟨112,1,0,(.ref 0),λw q h=>PR w q h⟩,
      ⟨112,0,0,(.ref 1),λw q h=>jK w q h⟩,
      ⟨112,2,0,(.ref 5),λw q h=>Z9 w q h⟩,
      ⟨112,3,0,(.ref 6),λw q h=>bU w q h⟩],
     flds:=[⟨134,1,1,W_⟩,
      ⟨134,0,0,rS⟩,
      ⟨134,2,2,rR⟩,
      ⟨134,3,3,sW⟩] } (by kernel_rfl)
theorem mE(e1:U+d0*nn=c0*mm)(e2:V+c1*mm=d1*nn):RA 38 [(Am (.agg #[.int .u64 (c0:Int),.int .u64 (d0:Int),.int .u64 (c1:Int),.int .u64 (d1:Int),.bool false])),(Av mm),(Av nn)] [(DT c0 d0 c1 d1 false)] ⟨[(0,(.ref 0)),(1,(.ref 1)),(2,(.ref 2))],[]⟩ ⟨[(0,(.ref 0)),(1,(.ref 1)),(2,(.ref 2)),(6,.nil),(7,.nil)],[(3,0)]⟩ Wb 0 TC false:=RA.of
   { boxes:=[⟨134,(.ref 0),0,λw v h=>R5 w v h⟩] } (by kernel_rfl)
theorem lX(e1:U+d0*nn=c0*mm)(e2:V+c1*mm=d1*nn):RA 38 [(Am (.agg #[.int .u64 (c0:Int),.int .u64 (d0:Int),.int .u64 (c1:Int),.int .u64 (d1:Int),.bool false])),(Av mm),(Av nn)] [(DT c0 d0 c1 d1 false)] ⟨[(0,(.ref 0)),(1,(.ref 1)),(2,(.ref 2)),(6,.nil),(7,.nil)],[(3,0)]⟩ ⟨[(0,(.ref 0)),(1,(.ref 1)),(2,(.ref 2)),(6,.nil),(7,.nil),(9,(.bool false))],[(3,0)]⟩ Wb 1 TD false:=RA.of
   { loads:=[⟨4,4,0,(.bool false),λw q h=>iU w q h⟩],
     flds:=[⟨134,4,4,sZ⟩] } (by kernel_rfl)
theorem xY(e1:U+d0*nn=c0*mm)(e2:V+c1*mm=d1*nn):RA 38 [(Am (.int .u64 (c0:Int))),(Am (.int .u64 (d0:Int))),(Av mm),(Av nn),(Av U),(Am (.int .u64 (d1:Int))),(Am (.int .u64 (c1:Int))),(Av V),(Am (.agg #[.int .u64 (c0:Int),.int .u64 (d0:Int),.int .u64 (c1:Int),.int .u64 (d1:Int),.bool false]))] [(DT c0 d0 c1 d1 false)] ⟨[(0,(.ref 8)),(1,(.ref 2)),(2,(.ref 3)),(6,.nil),(7,.nil),(9,(.bool false))],[(3,0)]⟩ ⟨[(0,(.ref 8)),(1,(.ref 2)),(2,(.ref 3)),(6,(.ref 4)),(7,(.ref 7)),(9,(.bool false))],[(3,0)]⟩ Wb 3 Zq true:=RA.of
   { calls:=[c4 141 (.ref 2) (.ref 0) (.ref 3) (.ref 1) (.ref 4) λw v0 v1 v2 v3 hb h0 h1 h2 h3=>Wd h0 h1 h2 h3 (by assumption) (by assumption) e1 hmx hU,
      c4 141 (.ref 3) (.ref 5) (.ref 2) (.ref 6) (.ref 7) λw v0 v1 v2 v3 hb h0 h1 h2 h3=>Wd h0 h1 h2 h3 (by assumption) (by assumption) e2 (Nat.max_comm (len mm) (len nn) ▸ hmx) (Nat.max_comm (len mm) (len nn) ▸ hV)],
     loads:=[⟨112,0,0,(.ref 0),λw q h=>jK w q h⟩,
      ⟨112,1,0,(.ref 1),λw q h=>PR w q h⟩,
      ⟨112,3,0,(.ref 5),λw q h=>bU w q h⟩,
      ⟨112,2,0,(.ref 6),λw q h=>Z9 w q h⟩],
     flds:=[⟨134,0,0,rS⟩,
      ⟨134,1,1,W_⟩,
      ⟨134,3,3,sW⟩,
      ⟨134,2,2,rR⟩] } (by kernel_rfl)
end
theorem Yi(va vb:Value)(mm nn c0 d0 c1 d1 U V:Nat)(W:World)(ha:AB W va mm)(hb:AB W vb nn)(l0:c0<4294967296)(l1:d0<4294967296)(l2:c1<4294967296)(l3:d1<4294967296)(hmx:max (len mm) (len nn)≤1099511627776)(hU:len U≤max (len mm) (len nn))(hV:len V≤max (len mm) (len nn))(e1:U+c0*mm=d0*nn)(e2:V+d1*nn=c1*mm) :
  Calls Tryz.prog 127 #[.agg #[.int .u64 (c0:Int),.int .u64 (d0:Int),.int .u64 (c1:Int),.int .u64 (d1:Int),.bool true],va,vb] W (Aj (BT (Av U) (Av V)) W):=by
 refine Dc (S:=[(0,(Am (.agg #[.int .u64 (c0:Int),.int .u64 (d0:Int),.int .u64 (c1:Int),.int .u64 (d1:Int),.bool true]))),(1,(Av mm)),(2,(Av nn))]) Tryz.func127 (by kernel_rfl) Tryz.ntmps127 (by simp) (λx hx=>?_) λa w hst=>?_
 ·simp only [List.mem_cons,List.not_mem_nil,or_false] at hx
  rcases hx with rfl | rfl | rfl
  ·exact ⟨_,rfl,rfl⟩
  ·exact ⟨_,rfl,ha⟩
  ·exact ⟨_,rfl,hb⟩
 show Code.wp _ LS _ a w;rw [dS];refine wp_seq ?_;rw [eL];refine (xO l0 l1 l2 l3 hmx hU hV e1 e2).run hst ?_;clear hst;intro a w hst;show Code.wp _ Ji _ a w;rw [ZX];refine wp_seq ?_;rw [aY];refine wp_seq ?_;rw [dT];refine (wA l0 l1 l2 l3 hmx hU hV e1 e2).run hst ?_;clear hst;intro a w hst;show Code.wp _ Jp _ a w;rw [fP];refine wp_cond_true (AZ hst 5 rfl) ?_;show Code.wp _ Lq _ a w;rw [yG];refine wp_seq ?_;rw [Aa1];refine (uY l0 l1 l2 l3 hmx hU hV e1 e2).run hst ?_;clear hst;intro a w hst;show Code.wp _ P7 _ a w;rw [pK];refine wp_ret ?_;exact Ri hst rfl 3 rfl 4 rfl
theorem Us(va vb:Value)(mm nn c0 d0 c1 d1 U V:Nat)(W:World)(ha:AB W va mm)(hb:AB W vb nn)(l0:c0<4294967296)(l1:d0<4294967296)(l2:c1<4294967296)(l3:d1<4294967296)(hmx:max (len mm) (len nn)≤1099511627776)(hU:len U≤max (len mm) (len nn))(hV:len V≤max (len mm) (len nn))(e1:U+d0*nn=c0*mm)(e2:V+c1*mm=d1*nn) :
  Calls Tryz.prog 127 #[.agg #[.int .u64 (c0:Int),.int .u64 (d0:Int),.int .u64 (c1:Int),.int .u64 (d1:Int),.bool false],va,vb] W (Aj (BT (Av U) (Av V)) W):=by
 refine Dc (S:=[(0,(Am (.agg #[.int .u64 (c0:Int),.int .u64 (d0:Int),.int .u64 (c1:Int),.int .u64 (d1:Int),.bool false]))),(1,(Av mm)),(2,(Av nn))]) Tryz.func127 (by kernel_rfl) Tryz.ntmps127 (by simp) (λx hx=>?_) λa w hst=>?_
 ·simp only [List.mem_cons,List.not_mem_nil,or_false] at hx
  rcases hx with rfl | rfl | rfl
  ·exact ⟨_,rfl,rfl⟩
  ·exact ⟨_,rfl,ha⟩
  ·exact ⟨_,rfl,hb⟩
 show Code.wp _ LS _ a w;rw [dS];refine wp_seq ?_;rw [eL];refine (mE l0 l1 l2 l3 hmx hU hV e1 e2).run hst ?_;clear hst;intro a w hst;show Code.wp _ Ji _ a w;rw [ZX];refine wp_seq ?_;rw [aY];refine wp_seq ?_;rw [dT];refine (lX l0 l1 l2 l3 hmx hU hV e1 e2).run hst ?_;clear hst;intro a w hst;show Code.wp _ Jp _ a w;rw [fP];refine wp_cond_false (AZ hst 5 rfl) ?_;show Code.wp _ T7 _ a w;rw [Abg];refine wp_skip ?_;show Code.wp _ ME _ a w;rw [vV];refine wp_seq ?_;rw [pQ];refine (xY l0 l1 l2 l3 hmx hU hV e1 e2).run hst ?_;clear hst;intro a w hst;show Code.wp _ O0 _ a w;rw [mP];refine wp_ret ?_;exact Ri hst rfl 3 rfl 4 rfl
section
variable {ops : Array Oper} {N : Nat} {Wb W0 : World} {a0 : Act} {F : List PF} {BX : List Bg} {AD : List (Nat × Nat × Nat)} {i : Nat} {g : Option (Nat × Bool)}
end
def D8(p q a0 b0 a1 b1:Nat)(o:Bool):Prop:=a0<4294967296∧b0<4294967296∧a1<4294967296∧b1<4294967296∧(b0≠0→lK p q a0 b0 a1 b1 o)
def yI(p q:Nat):PF:=⟨λv _=>∃(a0 b0 a1 b1:Nat)(o:Bool),v = .agg #[.int .u64 (a0:Int),.int .u64 (b0:Int),.int .u64 (a1:Int),.int .u64 (b1:Int),.bool o]∧D8 p q a0 b0 a1 b1 o,λ_ _ _ _ h=>h⟩
def jX(p q:Nat):CF:=⟨λg w=>∃(a0 b0 a1 b1:Nat)(o:Bool),D8 p q a0 b0 a1 b1 o∧(DT a0 b0 a1 b1 o).p g w,
 λg w w' hg e ⟨a0,b0,a1,b1,o,hk,h⟩=>⟨a0,b0,a1,b1,o,hk,(DT a0 b0 a1 b1 o).st g w w' hg e h⟩,λg w ⟨a0,b0,a1,b1,o,_,h⟩=>(DT a0 b0 a1 b1 o).ty g w h⟩
theorem VB{Wb:World}{N p q:Nat}{S:List (Nat × PF)}{a:Act}{w:World}(hst:St Wb N S [(5,jX p q)] a w):∃(a0 b0 a1 b1:Nat)(o:Bool),D8 p q a0 b0 a1 b1 o∧St Wb N S [(5,DT a0 b0 a1 b1 o)] a w:=by
 obtain ⟨s1,s2,s3,s4,s5,s6,s7⟩:=hst;obtain ⟨⟨g,h1,h2,a0,b0,a1,b1,o,hk,hb⟩,_⟩:=s6;exact ⟨a0,b0,a1,b1,o,hk,s1,s2,s3,s4,s5,⟨⟨g,h1,h2,hb⟩,trivial⟩,by simp⟩
theorem Ua(w:World):(Instr.alloc 134 true (.tuple #[])).run Tryz.prog w = .ok (.pointer (some ⟨w.heap.size,0,none⟩)) (w.alloc (.cells #[.int .u64 0,.int .u64 0,.int .u64 0,.int .u64 0,.bool false] 134 (0,0))):=by simp [go_sem]
theorem TM(w:World):(DT 0 0 0 0 false).p w.heap.size (w.alloc (.cells #[.int .u64 0,.int .u64 0,.int .u64 0,.int .u64 0,.bool false] 134 (0,0))):=Hm w _
theorem AaK{p q:Nat}:EN 134 (DT 0 0 0 0 false) (yI p q) (jX p q):=by
 intro w g v h1 h2;obtain ⟨a0,b0,a1,b1,o,rfl,hk⟩:=h2;have hh:w.heap[g]? = some (.cells #[.int .u64 0,.int .u64 0,.int .u64 0,.int .u64 0,.bool false] 134 (0,0)):=h1;have c0:w.cell? ⟨g,0,none⟩=some (.int .u64 0):=by rw [cell_of_row w g 0 _ _ (0,0) hh]; rfl
 have c1:w.cell? ⟨g,1,none⟩=some (.int .u64 0):=by rw [cell_of_row w g 1 _ _ (0,0) hh]; rfl
 have c2:w.cell? ⟨g,2,none⟩=some (.int .u64 0):=by rw [cell_of_row w g 2 _ _ (0,0) hh]; rfl
 have c3:w.cell? ⟨g,3,none⟩=some (.int .u64 0):=by rw [cell_of_row w g 3 _ _ (0,0) hh]; rfl
 have c4:w.cell? ⟨g,4,none⟩=some (.bool false):=by rw [cell_of_row w g 4 _ _ (0,0) hh]; rfl
 have f0:=AA hh 0;have f1:=AA hh 1;have f2:=AA hh 2;have f3:=AA hh 3;have f4:=AA hh 4;have hne:(134:TypeId)≠114:=by decide
 have k1:=Ax hh 0 (.int .u64 (a0:Int));have k2:=Ax k1 1 (.int .u64 (b0:Int));have k3:=Ax k2 2 (.int .u64 (a1:Int));have k4:=Ax k3 3 (.int .u64 (b1:Int));have k5:=Ax k4 4 (.bool o);refine ⟨((((w.setCell ⟨g,0,none⟩ (.int .u64 a0)).setCell ⟨g,1,none⟩ (.int .u64 b0)).setCell ⟨g,2,none⟩ (.int .u64 a1)).setCell ⟨g,3,none⟩ (.int .u64 b1)).setCell ⟨g,4,none⟩ (.bool o),by simp [go_sem,c0,c1,c2,c3,c4,f0,f1,f2,f3,f4],
  λB W hq hB=>((((hB.setCell hq _).setCell hq _).setCell hq _).setCell hq _).setCell hq _,?_,λj hj=>?_,⟨a0,b0,a1,b1,o,hk,k5⟩⟩
 ·exact ((((Bl.set hh hne 0 _).trans (Bl.set k1 hne 1 _)).trans (Bl.set k2 hne 2 _)).trans (Bl.set k3 hne 3 _)).trans (Bl.set k4 hne 4 _)
 ·exact (Below.heap_setCell _ _ _ j (by simpa using hj)).trans ((Below.heap_setCell _ _ _ j (by simpa using hj)).trans ((Below.heap_setCell _ _ _ j (by simpa using hj)).trans ((Below.heap_setCell _ _ _ j (by simpa using hj)).trans (Below.heap_setCell _ _ _ j (by simpa using hj)))))
theorem Acu{a0 b0 a1 b1:Nat}{o:Bool}(w:World)(q:Nat)(h:(DT a0 b0 a1 b1 o).p q w):∃ v,(Instr.loadAt 134 (.pointer (some ⟨q,0,none⟩))).run Tryz.prog w = .ok v w∧(Am (.agg #[.int .u64 (a0:Int),.int .u64 (b0:Int),.int .u64 (a1:Int),.int .u64 (b1:Int),.bool o])).p v w:=by
 have hh:w.heap[q]? = some (.cells #[.int .u64 (a0:Int),.int .u64 (b0:Int),.int .u64 (a1:Int),.int .u64 (b1:Int),.bool o] 134 (0,0)):=h;have c0:w.cell? ⟨q,0,none⟩=some (.int .u64 (a0:Int)):=by rw [cell_of_row w q 0 _ _ (0,0) hh]; rfl
 have c1:w.cell? ⟨q,1,none⟩=some (.int .u64 (b0:Int)):=by rw [cell_of_row w q 1 _ _ (0,0) hh]; rfl
 have c2:w.cell? ⟨q,2,none⟩=some (.int .u64 (a1:Int)):=by rw [cell_of_row w q 2 _ _ (0,0) hh]; rfl
 have c3:w.cell? ⟨q,3,none⟩=some (.int .u64 (b1:Int)):=by rw [cell_of_row w q 3 _ _ (0,0) hh]; rfl
 have c4:w.cell? ⟨q,4,none⟩=some (.bool o):=by rw [cell_of_row w q 4 _ _ (0,0) hh]; rfl
 exact ⟨_,by simp [go_sem,c0,c1,c2,c3,c4],rfl⟩
theorem PV{ρ:Operand→Value}{w:World}{x:Operand}{n:Nat}(hx:(Av n).p (ρ x) w):FB (.call { callee:=.builtin .len,args:=#[x],argTypes:=#[32] }) ρ w (Am (.int .i64 (len n:Int))):=by
 have hx:AB w (ρ x) n:=hx;obtain ⟨A,c,e,_⟩:=hx;exact Oc (show (Am (.slice A (len n) c)).p (ρ x) w from e)
theorem oT{x y:Nat}(h:y≤x):decide (Gj x y<0)=false:=by
 rcases Nat.lt_or_eq_of_le h with h | h
 ·rw [EZ h]; decide
 ·rw [FU h.symm]; decide
theorem wY{q:Nat}(h:0<q):((len q:Int) == 0)=false:=by
 have:len q≠0:=λe=>by have:=AY.1 e; omega
 simp;omega
section
variable {w : World} {va vb : Value} {x y : Nat}
theorem QN(ha:(Av x).p va w)(hb:(Av y).p vb w)(hx:len x≤1099511627776)(hy:len y≤1099511627776):Calls Tryz.prog 124 #[va,vb] w (Aj (Am (.int .i64 (Gj x y))) w):=by
 have ha:AB w va x:=ha;have hb:AB w vb y:=hb;obtain ⟨A,c,rfl,HA⟩:=ha.open_;obtain ⟨B,d,rfl,HB⟩:=hb.open_;exact (GO A B c d x y w HA.out HB.out hx hy).mono λ_ _ ⟨he,hb⟩=>⟨_,he,rfl,hb⟩
theorem YQ(ha:(Av x).p va w)(hb:(Av y).p vb w)(h3:3≤len x)(hla:len x≤1099511627776)(hba:y≤x):Calls Tryz.prog 125 #[va,vb] w (Aj (yI x y) w):=
 (OC va vb x y w ha hb h3 hla hba).mono λ_ _ ⟨a0,b0,a1,b1,o,he,k0,k1,k2,k3,k4,hb⟩=>⟨_,he,⟨a0,b0,a1,b1,o,rfl,k0,k1,k2,k3,k4⟩,hb⟩
theorem WB(ha:(Av x).p va w)(hb:(Av y).p vb w)(hx:len x≤1099511627775)(hy:len y≤1099511627775)(h0:0<y):Calls Tryz.prog 126 #[va,vb] w (Aj (BT (Av (x / y)) (Av (x % y))) w):=
 (Lx va vb x y w ha hb hx hy h0).mono λ_ _ ⟨vq,vr,he,hq,hr,hb⟩=>⟨_,he,⟨vq,vr,rfl,hq,hr⟩,hb⟩
theorem Vz(ha:(Av x).p va w)(hx:x<18446744073709551616):Calls Tryz.prog 129 #[va] w (Aj (Am (.int .u64 (x:Int))) w):=by
 have ha:AB w va x:=ha;obtain ⟨A,c,rfl,HA⟩:=ha.open_;exact (HF A c x w HA.out.mem.2.2 hx).mono λ_ _ ⟨he,hw⟩=>⟨_,he,rfl,hw ▸ Below.refl _ _⟩
theorem Pp(ha:(Am (.int .u64 (x:Int))).p va w)(hb:(Am (.int .u64 (y:Int))).p vb w)(hx:x<18446744073709551616)(hy:y<18446744073709551616):Calls Tryz.prog 128 #[va,vb] w (Aj (Am (.int .u64 (Nat.gcd x y:Nat))) w):=by
 have ha:va = .int .u64 (x:Int):=ha;have hb:vb = .int .u64 (y:Int):=hb;subst ha hb;exact (Ko x y w hx hy).mono λ_ _ ⟨he,hb⟩=>⟨_,he,rfl,hb⟩
theorem Xp(ha:(Am (.int .u64 (x:Int))).p va w)(hx:x<18446744073709551616):Calls Tryz.prog 103 #[va] w (Aj (Av x) w):=by
 have ha:va = .int .u64 (x:Int):=ha;subst ha;exact CQ x w hx
theorem zK{vs:Value}{p q c0 d0 c1 d1 U V:Nat}{o:Bool}(hs:(Am (.agg #[.int .u64 (c0:Int),.int .u64 (d0:Int),.int .u64 (c1:Int),.int .u64 (d1:Int),.bool o])).p vs w)(ha:(Av p).p va w)(hb:(Av q).p vb w)(hok:D8 p q c0 d0 c1 d1 o)(hUV:if o then U+c0*p=d0*q∧V+d1*q=c1*p else U+d0*q=c0*p∧V+c1*p=d1*q)(hU:U<p)(hV:V<q)(bp:len p≤1099511627775)(bq:len q≤1099511627775) :
  Calls Tryz.prog 127 #[vs,va,vb] w (Aj (BT (Av U) (Av V)) w):=by
 have hs:vs = .agg #[.int .u64 (c0:Int),.int .u64 (d0:Int),.int .u64 (c1:Int),.int .u64 (d1:Int),.bool o]:=hs;subst hs;have h1:=AW (Nat.le_of_lt hU);have h2:=AW (Nat.le_of_lt hV);obtain ⟨k0,k1,k2,k3,_⟩:=hok
 cases o
 ·simp only [Bool.false_eq_true,if_false] at hUV
  exact Us va vb p q c0 d0 c1 d1 U V w ha hb k0 k1 k2 k3 (by omega) (by omega) (by omega) hUV.1 hUV.2
 ·simp only [if_true] at hUV
  exact Yi va vb p q c0 d0 c1 d1 U V w ha hb k0 k1 k2 k3 (by omega) (by omega) (by omega) hUV.1 hUV.2
end
noncomputable def Ow:=C_ Tryz.f118
noncomputable def UO:=cl Ow
noncomputable def JF:=cr Ow
theorem gU:Ow = .seq UO JF:=by kernel_rfl
noncomputable def ST:=A_ UO
theorem fZ:UO = .region 0 ST false:=by kernel_rfl
noncomputable def O6:=cl JF
noncomputable def JV:=cr JF
theorem Zs:JF = .seq O6 JV:=by kernel_rfl
noncomputable def UZ:=cl O6
noncomputable def Jx:=cr O6
theorem bE:O6 = .seq UZ Jx:=by kernel_rfl
noncomputable def UP:=A_ UZ
theorem ZS:UZ = .region 1 UP false:=by kernel_rfl
noncomputable def PJ:=cl Jx
noncomputable def Tj:=cr Jx
theorem cD:Jx = .cond (.tmp 13) PJ Tj:=by kernel_rfl
noncomputable def cH:=A_ PJ
theorem yL:PJ = .region 2 cH false:=by kernel_rfl
theorem Aal:Tj = .skip:=by kernel_rfl
noncomputable def Ud:=cl JV
noncomputable def ED:=cr JV
theorem gO:JV = .seq Ud ED:=by kernel_rfl
noncomputable def IK:=cl Ud
theorem iT:Ud = .block 0 IK:=by kernel_rfl
noncomputable def GE:=cl IK
theorem WH:IK = .loop GE:=by kernel_rfl
noncomputable def Kx:=cl GE
noncomputable def IZ:=cr GE
theorem K3:GE = .seq Kx IZ:=by kernel_rfl
noncomputable def Pm:=cl Kx
noncomputable def E_:=cr Kx
theorem K_:Kx = .seq Pm E_:=by kernel_rfl
noncomputable def Tz:=A_ Pm
theorem KE:Pm = .region 3 Tz false:=by kernel_rfl
noncomputable def Ky:=cl E_
noncomputable def KG:=cr E_
theorem KV:E_ = .cond (.tmp 18) Ky KG:=by kernel_rfl
theorem Xe:Ky = .skip:=by kernel_rfl
theorem WE:KG = .exit 0:=by kernel_rfl
noncomputable def GS:=cl IZ
theorem VV:IZ = .block 1 GS:=by kernel_rfl
noncomputable def Ou:=cl GS
noncomputable def E0:=cr GS
theorem VX:GS = .seq Ou E0:=by kernel_rfl
noncomputable def iE:=A_ Ou
theorem Wj:Ou = .region 4 iE false:=by kernel_rfl
noncomputable def OK:=cl E0
noncomputable def E7:=cr E0
theorem KC:E0 = .seq OK E7:=by kernel_rfl
noncomputable def Tu:=A_ OK
theorem KF:OK = .region 5 Tu false:=by kernel_rfl
noncomputable def GI:=cl E7
noncomputable def IT:=cr E7
theorem Kw:E7 = .cond (.tmp 24) GI IT:=by kernel_rfl
noncomputable def P6:=cl GI
noncomputable def IE:=cr GI
theorem W7:GI = .seq P6 IE:=by kernel_rfl
noncomputable def Zd:=A_ P6
theorem WA:P6 = .region 6 Zd false:=by kernel_rfl
noncomputable def iJ:=A_ IE
theorem Wo:IE = .region 7 iJ false:=by kernel_rfl
noncomputable def gC:=A_ IT
theorem Vr:IT = .region 8 gC false:=by kernel_rfl
noncomputable def Kz:=cl ED
noncomputable def GK:=cr ED
theorem KO:ED = .seq Kz GK:=by kernel_rfl
noncomputable def Qz:=cl Kz
noncomputable def EL:=cr Kz
theorem KB:Kz = .seq Qz EL:=by kernel_rfl
noncomputable def UC:=A_ Qz
theorem Kv:Qz = .region 9 UC false:=by kernel_rfl
noncomputable def G8:=cl EL
noncomputable def Lc:=cr EL
theorem KQ:EL = .cond (.tmp 42) G8 Lc:=by kernel_rfl
noncomputable def QC:=cl G8
noncomputable def K8:=cr G8
theorem W2:G8 = .seq QC K8:=by kernel_rfl
noncomputable def Wu:=A_ QC
theorem Vo:QC = .region 10 Wu false:=by kernel_rfl
theorem Vt:K8 = .ret:=by kernel_rfl
theorem WI:Lc = .skip:=by kernel_rfl
noncomputable def Pv:=cl GK
noncomputable def G3:=cr GK
theorem VR:GK = .seq Pv G3:=by kernel_rfl
noncomputable def Xi:=A_ Pv
theorem Xk:Pv = .region 11 Xi false:=by kernel_rfl
noncomputable def O1:=cl G3
noncomputable def K9:=cr G3
theorem Xh:G3 = .seq O1 K9:=by kernel_rfl
noncomputable def V7:=A_ O1
theorem W5:O1 = .region 12 V7 false:=by kernel_rfl
theorem Vx:K9 = .ret:=by kernel_rfl
section
set_option linter.unusedSectionVars false
variable {Wb : World}
theorem Abk{pp qq:Nat}(hlp:len pp≤1099511627775)(hlq:len qq≤1099511627775)(lt:pp<qq):RA 56 [(Av pp),(Av qq)] [] ⟨[(0,(.ref 0)),(1,(.ref 1))],[]⟩ ⟨[(0,(.ref 0)),(1,(.ref 1)),(4,.nil)],[]⟩ Wb 0 ST false:=RA.of
   {  } (by kernel_rfl)
theorem yO{pp qq:Nat}(hlp:len pp≤1099511627775)(hlq:len qq≤1099511627775)(lt:pp<qq):RA 56 [(Av pp),(Av qq),(Am (.int .i64 (Gj pp qq)))] [] ⟨[(0,(.ref 0)),(1,(.ref 1)),(4,.nil)],[]⟩ ⟨[(0,(.ref 0)),(1,(.ref 1)),(4,.nil),(13,(.bool true))],[]⟩ Wb 1 UP false:=RA.of
   { pures:=[p2 (.bin .lss 3 3) (.ref 2) (.int .i64 0) (.bool true) λ_ _ _ _ _ hx hy=>F8 (r:=true) (by rw [GF lt]; decide) hx hy],
     calls:=[c2 124 (.ref 0) (.ref 1) (.ref 2) λw v0 v1 hb h0 h1=>QN h0 h1 (by omega) (by omega)] } (by kernel_rfl)
theorem wT{pp qq:Nat}(hlp:len pp≤1099511627775)(hlq:len qq≤1099511627775)(lt:pp<qq):RA 56 [(Av pp),(Av qq)] [] ⟨[(0,(.ref 0)),(1,(.ref 1)),(4,.nil),(13,(.bool true))],[]⟩ ⟨[(0,(.ref 1)),(1,(.ref 0)),(4,.nil),(13,(.bool true))],[]⟩ Wb 2 cH false:=RA.of
   {  } (by kernel_rfl)
theorem bL{p q:Nat}(hqp:q≤p)(bp:len p≤1099511627775)(bq:len q≤1099511627775)(h3:3≤len q):RA 56 [(Av q),(Am (.int .i64 (len q:Int))),(Av p)] [] ⟨[(0,(.ref 2)),(1,(.ref 0))],[]⟩ ⟨[(0,(.ref 2)),(1,(.ref 0)),(18,(.bool true))],[]⟩ Wb 3 Tz false:=RA.of
   { pures:=[p1 (.blt .len [32]) (.ref 0) (.ref 1) λ_ _ _ _ hx=>PV hx,
      p2 (.bin .gtr 3 3) (.ref 1) (.int .i64 2) (.bool true) λ_ _ _ _ _ hx hy=>ES (r:=true) (by simp; omega) hx hy] } (by kernel_rfl)
theorem dJ{p q:Nat}(hqp:q≤p)(bp:len p≤1099511627775)(bq:len q≤1099511627775)(h3:3≤len q):RA 56 [(Av p),(Av q),(yI p q)] [(DT 0 0 0 0 false),(jX p q)] ⟨[(0,(.ref 0)),(1,(.ref 1)),(18,(.bool true))],[]⟩ ⟨[(0,(.ref 0)),(1,(.ref 1)),(18,(.bool true))],[(5,1)]⟩ Wb 4 iE false:=RA.of
   { calls:=[c2 125 (.ref 0) (.ref 1) (.ref 2) λw v0 v1 hb h0 h1=>YQ h0 h1 (by have:=AW hqp; omega) (by omega) hqp],
     allocs:=[⟨134,0,_,Ua,TM⟩],
     stores:=[⟨134,0,0,(.ref 2),1,AaK⟩] } (by kernel_rfl)
theorem fJ{p q:Nat}(hqp:q≤p)(bp:len p≤1099511627775)(bq:len q≤1099511627775)(h3:3≤len q){c0 d0 c1 d1:Nat}{o:Bool}(hok:D8 p q c0 d0 c1 d1 o)(hz:d0=0)(q0:0<q):RA 56 [(Am (.int .u64 (d0:Int))),(Av p),(Av q)] [(DT c0 d0 c1 d1 o)] ⟨[(0,(.ref 1)),(1,(.ref 2)),(18,(.bool true))],[(5,0)]⟩ ⟨[(0,(.ref 1)),(1,(.ref 2)),(18,(.bool true)),(24,(.bool true))],[(5,0)]⟩ Wb 5 Tu false:=RA.of
   { pures:=[p2 (.bin .eql 112 112) (.ref 0) (.int .u64 0) (.bool true) λ_ _ _ _ _ hx hy=>Cp (r:=true) (by simp; omega) hx hy],
     loads:=[⟨112,1,0,(.ref 0),λw q h=>PR w q h⟩],
     flds:=[⟨134,1,1,W_⟩] } (by kernel_rfl)
theorem bQ{p q:Nat}(hqp:q≤p)(bp:len p≤1099511627775)(bq:len q≤1099511627775)(h3:3≤len q){c0 d0 c1 d1:Nat}{o:Bool}(hok:D8 p q c0 d0 c1 d1 o)(hz:d0=0)(q0:0<q):RA 56 [(Av p),(Av q),(Av (p / q)),(Av (p % q))] [(DT c0 d0 c1 d1 o)] ⟨[(0,(.ref 0)),(1,(.ref 1)),(18,(.bool true)),(24,(.bool true))],[(5,0)]⟩ ⟨[(0,(.ref 0)),(1,(.ref 1)),(7,(.ref 3)),(18,(.bool true)),(24,(.bool true))],[(5,0)]⟩ Wb 6 Zd false:=RA.of
   { calls:=[c2 126 (.ref 0) (.ref 1) (.tup2 (.ref 2) (.ref 3)) λw v0 v1 hb h0 h1=>WB h0 h1 (by omega) (by omega) q0] } (by kernel_rfl)
theorem bJ{p q:Nat}(hqp:q≤p)(bp:len p≤1099511627775)(bq:len q≤1099511627775)(h3:3≤len q){c0 d0 c1 d1:Nat}{o:Bool}(hok:D8 p q c0 d0 c1 d1 o)(hz:d0=0)(q0:0<q):RA 56 [(Av p),(Av q),(Av (p % q))] [(DT c0 d0 c1 d1 o)] ⟨[(0,(.ref 0)),(1,(.ref 1)),(7,(.ref 2)),(18,(.bool true)),(24,(.bool true))],[(5,0)]⟩ ⟨[(0,(.ref 1)),(1,(.ref 2)),(7,(.ref 2)),(18,(.bool true)),(24,(.bool true))],[(5,0)]⟩ Wb 7 iJ false:=RA.of
   {  } (by kernel_rfl)
theorem WF{p q:Nat}(hqp:q≤p)(bp:len p≤1099511627775)(bq:len q≤1099511627775)(h3:3≤len q){c0 d0 c1 d1:Nat}{o:Bool}(hok:D8 p q c0 d0 c1 d1 o)(hz:d0≠0){U V:Nat}(hUV:if o then U+c0*p=d0*q∧V+d1*q=c1*p else U+d0*q=c0*p∧V+c1*p=d1*q)(hU:U<p)(hV:V<q):RA 56 [(Am (.int .u64 (d0:Int))),(Av p),(Av q)] [(DT c0 d0 c1 d1 o)] ⟨[(0,(.ref 1)),(1,(.ref 2)),(18,(.bool true))],[(5,0)]⟩ ⟨[(0,(.ref 1)),(1,(.ref 2)),(18,(.bool true)),(24,(.bool false))],[(5,0)]⟩ Wb 5 Tu false:=RA.of
   { pures:=[p2 (.bin .eql 112 112) (.ref 0) (.int .u64 0) (.bool false) λ_ _ _ _ _ hx hy=>Cp (r:=false) (by simp; omega) hx hy],
     loads:=[⟨112,1,0,(.ref 0),λw q h=>PR w q h⟩],
     flds:=[⟨134,1,1,W_⟩] } (by kernel_rfl)
theorem cE{p q:Nat}(hqp:q≤p)(bp:len p≤1099511627775)(bq:len q≤1099511627775)(h3:3≤len q){c0 d0 c1 d1:Nat}{o:Bool}(hok:D8 p q c0 d0 c1 d1 o)(hz:d0≠0){U V:Nat}(hUV:if o then U+c0*p=d0*q∧V+d1*q=c1*p else U+d0*q=c0*p∧V+c1*p=d1*q)(hU:U<p)(hV:V<q):RA 56 [(Am (.agg #[.int .u64 (c0:Int),.int .u64 (d0:Int),.int .u64 (c1:Int),.int .u64 (d1:Int),.bool o])),(Av p),(Av q),(Av U),(Av V)] [(DT c0 d0 c1 d1 o)] ⟨[(0,(.ref 1)),(1,(.ref 2)),(18,(.bool true)),(24,(.bool false))],[(5,0)]⟩ ⟨[(0,(.ref 3)),(1,(.ref 4)),(18,(.bool true)),(24,(.bool false))],[(5,0)]⟩ Wb 8 gC false:=RA.of
   { calls:=[c3 127 (.ref 0) (.ref 1) (.ref 2) (.tup2 (.ref 3) (.ref 4)) λw v0 v1 v2 hb h0 h1 h2=>zK h0 h1 h2 hok hUV hU hV bp bq],
     loads:=[⟨134,0,0,(.ref 0),λw q h=>Acu w q h⟩] } (by kernel_rfl)
theorem Vh{p q:Nat}(hqp:q≤p)(bp:len p≤1099511627775)(bq:len q≤1099511627775)(h3:len q≤2):RA 56 [(Av q),(Am (.int .i64 (len q:Int))),(Av p)] [] ⟨[(0,(.ref 2)),(1,(.ref 0))],[]⟩ ⟨[(0,(.ref 2)),(1,(.ref 0)),(18,(.bool false))],[]⟩ Wb 3 Tz false:=RA.of
   { pures:=[p1 (.blt .len [32]) (.ref 0) (.ref 1) λ_ _ _ _ hx=>PV hx,
      p2 (.bin .gtr 3 3) (.ref 1) (.int .i64 2) (.bool false) λ_ _ _ _ _ hx hy=>ES (r:=false) (by simp; omega) hx hy] } (by kernel_rfl)
theorem cB{p q:Nat}(hqp:q≤p)(bp:len p≤1099511627775)(bq:len q≤1099511627775)(q0:q=0):RA 56 [(Av q),(Am (.int .i64 (len q:Int))),(Av p)] [] ⟨[(0,(.ref 2)),(1,(.ref 0)),(18,(.bool false))],[]⟩ ⟨[(0,(.ref 2)),(1,(.ref 0)),(18,(.bool false)),(42,(.bool true))],[]⟩ Wb 9 UC false:=RA.of
   { pures:=[p1 (.blt .len [32]) (.ref 0) (.ref 1) λ_ _ _ _ hx=>PV hx,
      p2 (.bin .eql 3 3) (.ref 1) (.int .i64 0) (.bool true) λ_ _ _ _ _ hx hy=>Cp (r:=true) (by rw [q0,AX]; rfl) hx hy] } (by kernel_rfl)
theorem Wa{p q:Nat}(hqp:q≤p)(bp:len p≤1099511627775)(bq:len q≤1099511627775)(q0:q=0):RA 56 [(Av p),(Av q)] [] ⟨[(0,(.ref 0)),(1,(.ref 1)),(18,(.bool false)),(42,(.bool true))],[]⟩ ⟨[(0,(.ref 0)),(1,(.ref 1)),(4,(.ref 0)),(18,(.bool false)),(42,(.bool true))],[]⟩ Wb 10 Wu false:=RA.of
   {  } (by kernel_rfl)
theorem VP{p q:Nat}(hqp:q≤p)(bp:len p≤1099511627775)(bq:len q≤1099511627775)(q0:0<q)(q64:q<18446744073709551616):RA 56 [(Av q),(Am (.int .i64 (len q:Int))),(Av p)] [] ⟨[(0,(.ref 2)),(1,(.ref 0)),(18,(.bool false))],[]⟩ ⟨[(0,(.ref 2)),(1,(.ref 0)),(18,(.bool false)),(42,(.bool false))],[]⟩ Wb 9 UC false:=RA.of
   { pures:=[p1 (.blt .len [32]) (.ref 0) (.ref 1) λ_ _ _ _ hx=>PV hx,
      p2 (.bin .eql 3 3) (.ref 1) (.int .i64 0) (.bool false) λ_ _ _ _ _ hx hy=>Cp (r:=false) (wY q0) hx hy] } (by kernel_rfl)
theorem WR{p q:Nat}(hqp:q≤p)(bp:len p≤1099511627775)(bq:len q≤1099511627775)(q0:0<q)(q64:q<18446744073709551616):RA 56 [(Av p),(Av q),(Av (p / q)),(Av (p % q))] [] ⟨[(0,(.ref 0)),(1,(.ref 1)),(18,(.bool false)),(42,(.bool false))],[]⟩ ⟨[(0,(.ref 0)),(1,(.ref 1)),(9,(.ref 3)),(18,(.bool false)),(42,(.bool false))],[]⟩ Wb 11 Xi false:=RA.of
   { calls:=[c2 126 (.ref 0) (.ref 1) (.tup2 (.ref 2) (.ref 3)) λw v0 v1 hb h0 h1=>WB h0 h1 (by omega) (by omega) q0] } (by kernel_rfl)
theorem Vg{p q:Nat}(hqp:q≤p)(bp:len p≤1099511627775)(bq:len q≤1099511627775)(q0:0<q)(q64:q<18446744073709551616):RA 56 [(Av q),(Am (.int .u64 ((q:Nat):Int))),(Av (p % q)),(Am (.int .u64 (((p % q):Nat):Int))),(Am (.int .u64 ((Nat.gcd q (p % q):Nat):Int))),(Av (Nat.gcd q (p % q))),(Av p)] [] ⟨[(0,(.ref 6)),(1,(.ref 0)),(9,(.ref 2)),(18,(.bool false)),(42,(.bool false))],[]⟩ ⟨[(0,(.ref 6)),(1,(.ref 0)),(4,(.ref 5)),(9,(.ref 2)),(18,(.bool false)),(42,(.bool false))],[]⟩ Wb 12 V7 false:=RA.of
   { calls:=[c1 129 (.ref 0) (.ref 1) λw v0 hb h0=>Vz h0 q64,
      c1 129 (.ref 2) (.ref 3) λw v0 hb h0=>Vz h0 (Nat.lt_trans (Nat.mod_lt _ q0) q64),
      c2 128 (.ref 1) (.ref 3) (.ref 4) λw v0 v1 hb h0 h1=>Pp h0 h1 q64 (Nat.lt_trans (Nat.mod_lt _ q0) q64),
      c1 103 (.ref 4) (.ref 5) λw v0 hb h0=>Xp h0 (Nat.lt_of_le_of_lt (Nat.le_of_dvd q0 (Nat.gcd_dvd_left _ _)) q64)] } (by kernel_rfl)
theorem lZ{pp qq:Nat}(hlp:len pp≤1099511627775)(hlq:len qq≤1099511627775)(lt:qq≤pp):RA 56 [(Av pp),(Av qq)] [] ⟨[(0,(.ref 0)),(1,(.ref 1))],[]⟩ ⟨[(0,(.ref 0)),(1,(.ref 1)),(4,.nil)],[]⟩ Wb 0 ST false:=RA.of
   {  } (by kernel_rfl)
theorem pG{pp qq:Nat}(hlp:len pp≤1099511627775)(hlq:len qq≤1099511627775)(lt:qq≤pp):RA 56 [(Av pp),(Av qq),(Am (.int .i64 (Gj pp qq)))] [] ⟨[(0,(.ref 0)),(1,(.ref 1)),(4,.nil)],[]⟩ ⟨[(0,(.ref 0)),(1,(.ref 1)),(4,.nil),(13,(.bool false))],[]⟩ Wb 1 UP false:=RA.of
   { pures:=[p2 (.bin .lss 3 3) (.ref 2) (.int .i64 0) (.bool false) λ_ _ _ _ _ hx hy=>F8 (r:=false) (oT lt) hx hy],
     calls:=[c2 124 (.ref 0) (.ref 1) (.ref 2) λw v0 v1 hb h0 h1=>QN h0 h1 (by omega) (by omega)] } (by kernel_rfl)
end
theorem RE(va vb:Value)(pp qq:Nat)(W:World)(ha:AB W va pp)(hb:AB W vb qq)(hlp:len pp≤1099511627775)(hlq:len qq≤1099511627775) :
  Calls Tryz.prog 118 #[va,vb] W (Aj (Av (Nat.gcd pp qq)) W):=by
 refine Dc (S:=[(0,(Av pp)),(1,(Av qq))]) Tryz.func118 (by kernel_rfl) Tryz.ntmps118 (by simp) (λx hx=>?_) λa w hst=>?_
 ·simp only [List.mem_cons,List.not_mem_nil,or_false] at hx
  rcases hx with rfl | rfl
  ·exact ⟨_,rfl,ha⟩
  ·exact ⟨_,rfl,hb⟩
 show Code.wp _ Ow _ a w
 rcases Nat.lt_or_ge pp qq with lt | lt
 ·rw [gU]
  refine wp_seq ?_;rw [fZ];refine (Abk hlp hlq lt).run hst ?_;clear hst;intro a w hst;show Code.wp _ JF _ a w;rw [Zs];refine wp_seq ?_;rw [bE];refine wp_seq ?_;rw [ZS];refine (yO hlp hlq lt).run hst ?_;clear hst;intro a w hst;show Code.wp _ Jx _ a w;rw [cD];refine wp_cond_true (AZ hst 3 rfl) ?_;show Code.wp _ PJ _ a w;rw [yL];refine (wT hlp hlq lt).run hst ?_;clear hst;intro a w hst;show Code.wp _ JV _ a w;rw [gO];refine wp_seq ?_;rw [iT];refine wp_block ?_;show Code.wp _ IK _ a w;rw [WH];refine CD (fun (z:Nat × Nat) a w=>St W 56 [(0,(Av z.1)),(1,(Av z.2))] [] a w∧z.2≤z.1∧z.1≤max pp qq∧Nat.gcd z.1 z.2=Nat.gcd pp qq) (λz=>z.2) ?_ (qq,pp) ⟨hst.to ⟨hst.slots.get (k:=0) rfl,hst.slots.get (k:=1) rfl,trivial⟩,by show pp≤qq; omega,by show qq≤max pp qq; omega,Nat.gcd_comm _ _⟩
  rintro ⟨p,q⟩ a w ⟨hst,hqp,hpm,hg⟩
  simp only [] at hst hqp hpm hg;have bm:len (max pp qq)≤1099511627775:=by rcases Nat.le_total pp qq with h | h; (rw [Nat.max_eq_right h]; exact hlq); (rw [Nat.max_eq_left h]; exact hlp)
  have bp:len p≤1099511627775:=Nat.le_trans (AW hpm) bm;have bq:len q≤1099511627775:=Nat.le_trans (AW hqp) bp;show Code.wp _ GE _ a w
  rcases Nat.lt_or_ge 2 (len q) with h3 | h3
  ·have h3:3≤len q:=h3
   rw [K3];refine wp_seq ?_;rw [K_];refine wp_seq ?_;rw [KE];refine (bL hqp bp bq h3).run hst ?_;clear hst;intro a w hst;show Code.wp _ E_ _ a w;rw [KV];refine wp_cond_true (AZ hst 2 rfl) ?_;show Code.wp _ Ky _ a w;rw [Xe];refine wp_skip ?_;show Code.wp _ IZ _ a w;rw [VV];refine wp_block ?_;show Code.wp _ GS _ a w;rw [VX];refine wp_seq ?_;rw [Wj];refine (dJ hqp bp bq h3).run hst ?_;clear hst;intro a w hst;obtain ⟨c0,d0,c1,d1,o,hok,hst⟩:=VB hst
   by_cases hz:d0=0
   ·have q0:0<q:=by rcases Nat.eq_zero_or_pos q with h | h; (rw [h,AX] at h3; omega); exact h
    show Code.wp _ E0 _ a w;rw [KC];refine wp_seq ?_;rw [KF];refine (fJ hqp bp bq h3 hok hz q0).run hst ?_;clear hst;intro a w hst;show Code.wp _ E7 _ a w;rw [Kw];refine wp_cond_true (AZ hst 3 rfl) ?_;show Code.wp _ GI _ a w;rw [W7];refine wp_seq ?_;rw [WA];refine (bQ hqp bp bq h3 hok hz q0).run hst ?_;clear hst;intro a w hst;show Code.wp _ IE _ a w;rw [Wo];refine (bJ hqp bp bq h3 hok hz q0).run hst ?_;clear hst;intro a w hst;exact ⟨(q,p % q),⟨((hst.to (S':=[(0,(Av q)),(1,(Av (p % q)))]) ⟨hst.slots.get (k:=0) rfl,hst.slots.get (k:=1) rfl,trivial⟩).firstB 0),Nat.le_of_lt (Nat.mod_lt _ q0),by show q≤max pp qq; omega,by show Nat.gcd q (p % q)=_; rw [← hg,Nat.gcd_comm p q,Nat.gcd_rec q p,Nat.gcd_comm]⟩,Nat.mod_lt _ q0⟩
   ·obtain ⟨U,V,hUV,hgU,hU,hV,hVU⟩:=hok.2.2.2.2 hz
    show Code.wp _ E0 _ a w;rw [KC];refine wp_seq ?_;rw [KF];refine (WF hqp bp bq h3 hok hz hUV hU hV).run hst ?_;clear hst;intro a w hst;show Code.wp _ E7 _ a w;rw [Kw];refine wp_cond_false (AZ hst 3 rfl) ?_;show Code.wp _ IT _ a w;rw [Vr];refine (cE hqp bp bq h3 hok hz hUV hU hV).run hst ?_;clear hst;intro a w hst;exact ⟨(U,V),⟨((hst.to (S':=[(0,(Av U)),(1,(Av V))]) ⟨hst.slots.get (k:=0) rfl,hst.slots.get (k:=1) rfl,trivial⟩).firstB 0),hVU,by show U≤max pp qq; omega,by show Nat.gcd U V=_; rw [hgU,hg]⟩,hV⟩
  ·rw [K3]
   refine wp_seq ?_;rw [K_];refine wp_seq ?_;rw [KE];refine (Vh hqp bp bq h3).run hst ?_;clear hst;intro a w hst;show Code.wp _ E_ _ a w;rw [KV];refine wp_cond_false (AZ hst 2 rfl) ?_;show Code.wp _ KG _ a w;rw [WE];refine wp_exit ?_
   rcases Nat.eq_zero_or_pos q with q0 | q0
   ·have e0:p=Nat.gcd pp qq:=by rw [← hg,q0,Nat.gcd_zero_right]
    show Code.wp _ ED _ a w;rw [KO];refine wp_seq ?_;rw [KB];refine wp_seq ?_;rw [Kv];refine (cB hqp bp bq q0).run hst ?_;clear hst;intro a w hst;show Code.wp _ EL _ a w;rw [KQ];refine wp_cond_true (AZ hst 3 rfl) ?_;show Code.wp _ G8 _ a w;rw [W2];refine wp_seq ?_;rw [Vo];refine (Wa hqp bp bq q0).run hst ?_;clear hst;intro a w hst;show Code.wp _ K8 _ a w;rw [Vt];refine wp_ret ?_;rw [e0] at hst;exact La hst rfl 2 rfl
   ·have q64:q<18446744073709551616:=Nat.lt_of_lt_of_le (BC q) (Nat.pow_le_pow_right (n:=4294967296) (by decide) h3)
    show Code.wp _ ED _ a w;rw [KO];refine wp_seq ?_;rw [KB];refine wp_seq ?_;rw [Kv];refine (VP hqp bp bq q0 q64).run hst ?_;clear hst;intro a w hst;show Code.wp _ EL _ a w;rw [KQ];refine wp_cond_false (AZ hst 3 rfl) ?_;show Code.wp _ Lc _ a w;rw [WI];refine wp_skip ?_;show Code.wp _ GK _ a w;rw [VR];refine wp_seq ?_;rw [Xk];refine (WR hqp bp bq q0 q64).run hst ?_;clear hst;intro a w hst;show Code.wp _ G3 _ a w;rw [Xh];refine wp_seq ?_;rw [W5];refine (Vg hqp bp bq q0 q64).run hst ?_;clear hst;intro a w hst;show Code.wp _ K9 _ a w;rw [Vx];refine wp_ret ?_;have e0:Nat.gcd q (p % q)=Nat.gcd pp qq:=by rw [← hg,Nat.gcd_comm p q,Nat.gcd_rec q p,Nat.gcd_comm]
    rw [e0] at hst;exact La hst rfl 2 rfl
 ·rw [gU]
  refine wp_seq ?_;rw [fZ];refine (lZ hlp hlq lt).run hst ?_;clear hst;intro a w hst;show Code.wp _ JF _ a w;rw [Zs];refine wp_seq ?_;rw [bE];refine wp_seq ?_;rw [ZS];refine (pG hlp hlq lt).run hst ?_;clear hst;intro a w hst;show Code.wp _ Jx _ a w;rw [cD];refine wp_cond_false (AZ hst 3 rfl) ?_;show Code.wp _ Tj _ a w;rw [Aal];refine wp_skip ?_;show Code.wp _ JV _ a w;rw [gO];refine wp_seq ?_;rw [iT];refine wp_block ?_;show Code.wp _ IK _ a w;rw [WH];refine CD (fun (z:Nat × Nat) a w=>St W 56 [(0,(Av z.1)),(1,(Av z.2))] [] a w∧z.2≤z.1∧z.1≤max pp qq∧Nat.gcd z.1 z.2=Nat.gcd pp qq) (λz=>z.2) ?_ (pp,qq) ⟨hst.to ⟨hst.slots.get (k:=0) rfl,hst.slots.get (k:=1) rfl,trivial⟩,by show qq≤pp; omega,by show pp≤max pp qq; omega,rfl⟩
  rintro ⟨p,q⟩ a w ⟨hst,hqp,hpm,hg⟩
  simp only [] at hst hqp hpm hg;have bm:len (max pp qq)≤1099511627775:=by rcases Nat.le_total pp qq with h | h; (rw [Nat.max_eq_right h]; exact hlq); (rw [Nat.max_eq_left h]; exact hlp)
  have bp:len p≤1099511627775:=Nat.le_trans (AW hpm) bm;have bq:len q≤1099511627775:=Nat.le_trans (AW hqp) bp;show Code.wp _ GE _ a w
  rcases Nat.lt_or_ge 2 (len q) with h3 | h3
  ·have h3:3≤len q:=h3
   rw [K3];refine wp_seq ?_;rw [K_];refine wp_seq ?_;rw [KE];refine (bL hqp bp bq h3).run hst ?_;clear hst;intro a w hst;show Code.wp _ E_ _ a w;rw [KV];refine wp_cond_true (AZ hst 2 rfl) ?_;show Code.wp _ Ky _ a w;rw [Xe];refine wp_skip ?_;show Code.wp _ IZ _ a w;rw [VV];refine wp_block ?_;show Code.wp _ GS _ a w;rw [VX];refine wp_seq ?_;rw [Wj];refine (dJ hqp bp bq h3).run hst ?_;clear hst;intro a w hst;obtain ⟨c0,d0,c1,d1,o,hok,hst⟩:=VB hst
   by_cases hz:d0=0
   ·have q0:0<q:=by rcases Nat.eq_zero_or_pos q with h | h; (rw [h,AX] at h3; omega); exact h
    show Code.wp _ E0 _ a w;rw [KC];refine wp_seq ?_;rw [KF];refine (fJ hqp bp bq h3 hok hz q0).run hst ?_;clear hst;intro a w hst;show Code.wp _ E7 _ a w;rw [Kw];refine wp_cond_true (AZ hst 3 rfl) ?_;show Code.wp _ GI _ a w;rw [W7];refine wp_seq ?_;rw [WA];refine (bQ hqp bp bq h3 hok hz q0).run hst ?_;clear hst;intro a w hst;show Code.wp _ IE _ a w;rw [Wo];refine (bJ hqp bp bq h3 hok hz q0).run hst ?_;clear hst;intro a w hst;exact ⟨(q,p % q),⟨((hst.to (S':=[(0,(Av q)),(1,(Av (p % q)))]) ⟨hst.slots.get (k:=0) rfl,hst.slots.get (k:=1) rfl,trivial⟩).firstB 0),Nat.le_of_lt (Nat.mod_lt _ q0),by show q≤max pp qq; omega,by show Nat.gcd q (p % q)=_; rw [← hg,Nat.gcd_comm p q,Nat.gcd_rec q p,Nat.gcd_comm]⟩,Nat.mod_lt _ q0⟩
   ·obtain ⟨U,V,hUV,hgU,hU,hV,hVU⟩:=hok.2.2.2.2 hz
    show Code.wp _ E0 _ a w;rw [KC];refine wp_seq ?_;rw [KF];refine (WF hqp bp bq h3 hok hz hUV hU hV).run hst ?_;clear hst;intro a w hst;show Code.wp _ E7 _ a w;rw [Kw];refine wp_cond_false (AZ hst 3 rfl) ?_;show Code.wp _ IT _ a w;rw [Vr];refine (cE hqp bp bq h3 hok hz hUV hU hV).run hst ?_;clear hst;intro a w hst;exact ⟨(U,V),⟨((hst.to (S':=[(0,(Av U)),(1,(Av V))]) ⟨hst.slots.get (k:=0) rfl,hst.slots.get (k:=1) rfl,trivial⟩).firstB 0),hVU,by show U≤max pp qq; omega,by show Nat.gcd U V=_; rw [hgU,hg]⟩,hV⟩
  ·rw [K3]
   refine wp_seq ?_;rw [K_];refine wp_seq ?_;rw [KE];refine (Vh hqp bp bq h3).run hst ?_;clear hst;intro a w hst;show Code.wp _ E_ _ a w;rw [KV];refine wp_cond_false (AZ hst 2 rfl) ?_;show Code.wp _ KG _ a w;rw [WE];refine wp_exit ?_
   rcases Nat.eq_zero_or_pos q with q0 | q0
   ·have e0:p=Nat.gcd pp qq:=by rw [← hg,q0,Nat.gcd_zero_right]
    show Code.wp _ ED _ a w;rw [KO];refine wp_seq ?_;rw [KB];refine wp_seq ?_;rw [Kv];refine (cB hqp bp bq q0).run hst ?_;clear hst;intro a w hst;show Code.wp _ EL _ a w;rw [KQ];refine wp_cond_true (AZ hst 3 rfl) ?_;show Code.wp _ G8 _ a w;rw [W2];refine wp_seq ?_;rw [Vo];refine (Wa hqp bp bq q0).run hst ?_;clear hst;intro a w hst;show Code.wp _ K8 _ a w;rw [Vt];refine wp_ret ?_;rw [e0] at hst;exact La hst rfl 2 rfl
   ·have q64:q<18446744073709551616:=Nat.lt_of_lt_of_le (BC q) (Nat.pow_le_pow_right (n:=4294967296) (by decide) h3)
    show Code.wp _ ED _ a w;rw [KO];refine wp_seq ?_;rw [KB];refine wp_seq ?_;rw [Kv];refine (VP hqp bp bq q0 q64).run hst ?_;clear hst;intro a w hst;show Code.wp _ EL _ a w;rw [KQ];refine wp_cond_false (AZ hst 3 rfl) ?_;show Code.wp _ Lc _ a w;rw [WI];refine wp_skip ?_;show Code.wp _ GK _ a w;rw [VR];refine wp_seq ?_;rw [Xk];refine (WR hqp bp bq q0 q64).run hst ?_;clear hst;intro a w hst;show Code.wp _ G3 _ a w;rw [Xh];refine wp_seq ?_;rw [W5];refine (Vg hqp bp bq q0 q64).run hst ?_;clear hst;intro a w hst;show Code.wp _ K9 _ a w;rw [Vx];refine wp_ret ?_;have e0:Nat.gcd q (p % q)=Nat.gcd pp qq:=by rw [← hg,Nat.gcd_comm p q,Nat.gcd_rec q p,Nat.gcd_comm]
    rw [e0] at hst;exact La hst rfl 2 rfl
end Go.Proofs.YtdopbgnkneeceaaGreat
