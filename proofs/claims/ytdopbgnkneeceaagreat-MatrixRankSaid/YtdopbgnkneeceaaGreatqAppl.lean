/- The steps, applied (written by wip/tools/gen_apply.py). -/
import Derived.Test.YtdopbgnkneeceaaGreatqSim
import Derived.Test.YtdopbgnkneeceaaGreatqComb
set_option linter.unusedSectionVars false
set_option linter.unusedVariables false
set_option linter.unusedSimpArgs false
set_option maxRecDepth 100000
namespace Go.Proofs.YtdopbgnkneeceaaGreat
open Go.RowKit
section
variable {ops : Array Oper} {N : Nat} {Wb W0 : World} {a0 : Act} {F : List PF} {BX : List Bh} {AD : List (Nat × Nat × Nat)} {i : Nat} {g : Option (Nat × Bool)}
end
def DS(a0 b0 a1 b1:Nat)(o:Bool):CF:=Abe #[.int .u64 (a0:Int),.int .u64 (b0:Int),.int .u64 (a1:Int),.int .u64 (b1:Int),.bool o] 134 (by decide)
theorem Rt{a0 b0 a1 b1:Nat}{o:Bool}(w:World)(v:Value)(h:(Am (.agg #[.int .u64 (a0:Int),.int .u64 (b0:Int),.int .u64 (a1:Int),.int .u64 (b1:Int),.bool o])).p v w):∃ ob,(Instr.box 134 v).run Tryz.prog w = .ok (.pointer (some ⟨w.heap.size,0,none⟩)) (w.alloc ob)∧(DS a0 b0 a1 b1 o).p w.heap.size (w.alloc ob):=by
 have h:v = .agg #[.int .u64 (a0:Int),.int .u64 (b0:Int),.int .u64 (a1:Int),.int .u64 (b1:Int),.bool o]:=h;subst h;exact ⟨.cells #[.int .u64 (a0:Int),.int .u64 (b0:Int),.int .u64 (a1:Int),.int .u64 (b1:Int),.bool o] 134 (0,0),by simp [go_sem],Hv w _⟩
theorem sO(q:Nat)(w:World):(Instr.fieldAt 134 (.pointer (some ⟨q,0,none⟩)) 0).run Tryz.prog w = .ok (.pointer (some ⟨q,0,none⟩)) w:=by simp [go_sem]
theorem iN{a0 b0 a1 b1:Nat}{o:Bool}(w:World)(q:Nat)(h:(DS a0 b0 a1 b1 o).p q w):∃ v,(Instr.loadAt 112 (.pointer (some ⟨q,0,none⟩))).run Tryz.prog w = .ok v w∧(Am (.int .u64 (a0:Int))).p v w:=by
 have hh:w.heap[q]? = some (.cells #[.int .u64 (a0:Int),.int .u64 (b0:Int),.int .u64 (a1:Int),.int .u64 (b1:Int),.bool o] 134 (0,0)):=h;have h0:w.cell? ⟨q,0,none⟩=some (.int .u64 (a0:Int)):=by rw [cell_of_row w q 0 _ _ (0,0) hh]; rfl
 exact ⟨_,by simp [go_sem,h0],rfl⟩
theorem Wk(q:Nat)(w:World):(Instr.fieldAt 134 (.pointer (some ⟨q,0,none⟩)) 1).run Tryz.prog w = .ok (.pointer (some ⟨q,1,none⟩)) w:=by simp [go_sem]
theorem Qg{a0 b0 a1 b1:Nat}{o:Bool}(w:World)(q:Nat)(h:(DS a0 b0 a1 b1 o).p q w):∃ v,(Instr.loadAt 112 (.pointer (some ⟨q,1,none⟩))).run Tryz.prog w = .ok v w∧(Am (.int .u64 (b0:Int))).p v w:=by
 have hh:w.heap[q]? = some (.cells #[.int .u64 (a0:Int),.int .u64 (b0:Int),.int .u64 (a1:Int),.int .u64 (b1:Int),.bool o] 134 (0,0)):=h;have h0:w.cell? ⟨q,1,none⟩=some (.int .u64 (b0:Int)):=by rw [cell_of_row w q 1 _ _ (0,0) hh]; rfl
 exact ⟨_,by simp [go_sem,h0],rfl⟩
theorem rO(q:Nat)(w:World):(Instr.fieldAt 134 (.pointer (some ⟨q,0,none⟩)) 2).run Tryz.prog w = .ok (.pointer (some ⟨q,2,none⟩)) w:=by simp [go_sem]
theorem ZN{a0 b0 a1 b1:Nat}{o:Bool}(w:World)(q:Nat)(h:(DS a0 b0 a1 b1 o).p q w):∃ v,(Instr.loadAt 112 (.pointer (some ⟨q,2,none⟩))).run Tryz.prog w = .ok v w∧(Am (.int .u64 (a1:Int))).p v w:=by
 have hh:w.heap[q]? = some (.cells #[.int .u64 (a0:Int),.int .u64 (b0:Int),.int .u64 (a1:Int),.int .u64 (b1:Int),.bool o] 134 (0,0)):=h;have h0:w.cell? ⟨q,2,none⟩=some (.int .u64 (a1:Int)):=by rw [cell_of_row w q 2 _ _ (0,0) hh]; rfl
 exact ⟨_,by simp [go_sem,h0],rfl⟩
theorem tZ(q:Nat)(w:World):(Instr.fieldAt 134 (.pointer (some ⟨q,0,none⟩)) 3).run Tryz.prog w = .ok (.pointer (some ⟨q,3,none⟩)) w:=by simp [go_sem]
theorem Zu{a0 b0 a1 b1:Nat}{o:Bool}(w:World)(q:Nat)(h:(DS a0 b0 a1 b1 o).p q w):∃ v,(Instr.loadAt 112 (.pointer (some ⟨q,3,none⟩))).run Tryz.prog w = .ok v w∧(Am (.int .u64 (b1:Int))).p v w:=by
 have hh:w.heap[q]? = some (.cells #[.int .u64 (a0:Int),.int .u64 (b0:Int),.int .u64 (a1:Int),.int .u64 (b1:Int),.bool o] 134 (0,0)):=h;have h0:w.cell? ⟨q,3,none⟩=some (.int .u64 (b1:Int)):=by rw [cell_of_row w q 3 _ _ (0,0) hh]; rfl
 exact ⟨_,by simp [go_sem,h0],rfl⟩
theorem sA(q:Nat)(w:World):(Instr.fieldAt 134 (.pointer (some ⟨q,0,none⟩)) 4).run Tryz.prog w = .ok (.pointer (some ⟨q,4,none⟩)) w:=by simp [go_sem]
theorem cZ{a0 b0 a1 b1:Nat}{o:Bool}(w:World)(q:Nat)(h:(DS a0 b0 a1 b1 o).p q w):∃ v,(Instr.loadAt 4 (.pointer (some ⟨q,4,none⟩))).run Tryz.prog w = .ok v w∧(Am (.bool o)).p v w:=by
 have hh:w.heap[q]? = some (.cells #[.int .u64 (a0:Int),.int .u64 (b0:Int),.int .u64 (a1:Int),.int .u64 (b1:Int),.bool o] 134 (0,0)):=h;have h0:w.cell? ⟨q,4,none⟩=some (.bool o):=by rw [cell_of_row w q 4 _ _ (0,0) hh]; rfl
 exact ⟨_,by simp [go_sem,h0],rfl⟩
theorem Wc{w:World}{va vp vb vq:Value}{x y p q z:Nat}(ha:(Av x).p va w)(hvp:(Am (.int .u64 (p:Int))).p vp w)(hb:(Av y).p vb w)(hvq:(Am (.int .u64 (q:Int))).p vq w)(hp:p<4294967296)(hq:q<4294967296)(hz:z+q*y=p*x)(hm:max (len x) (len y)≤1099511627776)(hzl:len z≤max (len x) (len y)) :
  Calls Tryz.prog 141 #[va,vp,vb,vq] w (Aj (Av z) w):=by
 have hvp:vp = .int .u64 (p:Int):=hvp;have hvq:vq = .int .u64 (q:Int):=hvq;subst hvp hvq;have ha:AB w va x:=ha;have hb:AB w vb y:=hb;obtain ⟨A,c,rfl,HA⟩:=ha.open_;obtain ⟨B,d,rfl,HB⟩:=hb.open_
 rcases Nat.lt_or_ge (len x) (len y) with h | h
 ·exact Te A B c d p q x y z w HA.out.mem.2.2 HB.out.mem.2.2 hp hq h (by omega) hz (by omega)
 ·exact TZ A B c d p q x y z w HA.out.mem.2.2 HB.out.mem.2.2 hp hq h (by omega) hz (by omega)
theorem RD{Wb:World}{N:Nat}{S:List (Nat × PF)}{B:List (Nat × CF)}{a:Act}{w:World}{fn:Func}{t t':Nat}{R R':PF}(hst:St Wb N S B a w)(hr:fn.results = #[.tmp t,.tmp t'])(k:Nat)(hk:S[k]? = some (t,R))(k':Nat)(hk':S[k']? = some (t',R')):bodyPost Tryz.prog fn (Aj (BT R R') Wb) .ret a w:=by
 obtain ⟨v,h1,h2⟩:=hst.slots.get hk;obtain ⟨v',h1',h2'⟩:=hst.slots.get hk';refine bodyPost_ret (v:=.tuple #[v,v']) ?_ hst.defers ⟨_,rfl,⟨_,_,rfl,h2,h2'⟩,hst.below⟩;simp [results,hr,go_sem,Array.getD_eq_getD_getElem?,h1,h1']
noncomputable def Lj:=C8 Tryz.f127
noncomputable def S8:=cl Lj
noncomputable def JC:=cr Lj
theorem aD:Lj = .seq S8 JC:=by kernel_rfl
noncomputable def SV:=A8 S8
theorem ZB:S8 = .region 0 SV false:=by kernel_rfl
noncomputable def Ov:=cl JC
noncomputable def MF:=cr JC
theorem dU:JC = .seq Ov MF:=by kernel_rfl
noncomputable def Ty:=cl Ov
noncomputable def Jn:=cr Ov
theorem jV:Ov = .seq Ty Jn:=by kernel_rfl
noncomputable def UW:=A8 Ty
theorem iF:Ty = .region 1 UW false:=by kernel_rfl
noncomputable def MI:=cl Jn
noncomputable def Tt:=cr Jn
theorem iR:Jn = .cond (.tmp 9) MI Tt:=by kernel_rfl
noncomputable def Ut:=cl MI
noncomputable def PB:=cr MI
theorem Aao:MI = .seq Ut PB:=by kernel_rfl
noncomputable def cF:=A8 Ut
theorem Aam:Ut = .region 2 cF true:=by kernel_rfl
theorem lJ:PB = .ret:=by kernel_rfl
theorem yZ:Tt = .skip:=by kernel_rfl
noncomputable def Pj:=cl MF
noncomputable def PP:=cr MF
theorem wR:MF = .seq Pj PP:=by kernel_rfl
noncomputable def cT:=A8 Pj
theorem qV:Pj = .region 3 cT true:=by kernel_rfl
theorem lX:PP = .ret:=by kernel_rfl
section
set_option linter.unusedSectionVars false
variable {Wb : World} {mm nn c0 d0 c1 d1 U V : Nat} (l0 : c0 < 4294967296) (l1 : d0 < 4294967296) (l2 : c1 < 4294967296) (l3 : d1 < 4294967296) (hmx : max (len mm) (len nn) ≤ 1099511627776) (hU : len U ≤ max (len mm) (len nn)) (hV : len V ≤ max (len mm) (len nn))
include l0 l1 l2 l3 hmx hU hV
theorem yI(e1:U+c0*mm=d0*nn)(e2:V+d1*nn=c1*mm):RA 38 [(Am (.agg #[.int .u64 (c0:Int),.int .u64 (d0:Int),.int .u64 (c1:Int),.int .u64 (d1:Int),.bool true])),(Av mm),(Av nn)] [(DS c0 d0 c1 d1 true)] ⟨[(0,(.ref 0)),(1,(.ref 1)),(2,(.ref 2))],[]⟩ ⟨[(0,(.ref 0)),(1,(.ref 1)),(2,(.ref 2)),(6,.nil),(7,.nil)],[(3,0)]⟩ Wb 0 SV false:=RA.of
   { boxes:=[⟨134,(.ref 0),0,λw v h=>Rt w v h⟩] } (by kernel_rfl)
theorem zX(e1:U+c0*mm=d0*nn)(e2:V+d1*nn=c1*mm):RA 38 [(Am (.agg #[.int .u64 (c0:Int),.int .u64 (d0:Int),.int .u64 (c1:Int),.int .u64 (d1:Int),.bool true])),(Av mm),(Av nn)] [(DS c0 d0 c1 d1 true)] ⟨[(0,(.ref 0)),(1,(.ref 1)),(2,(.ref 2)),(6,.nil),(7,.nil)],[(3,0)]⟩ ⟨[(0,(.ref 0)),(1,(.ref 1)),(2,(.ref 2)),(6,.nil),(7,.nil),(9,(.bool true))],[(3,0)]⟩ Wb 1 UW false:=RA.of
   { loads:=[⟨4,4,0,(.bool true),λw q h=>cZ w q h⟩],
     flds:=[⟨134,4,4,sA⟩] } (by kernel_rfl)
theorem xY(e1:U+c0*mm=d0*nn)(e2:V+d1*nn=c1*mm):RA 38 [(Am (.int .u64 (d0:Int))),(Am (.int .u64 (c0:Int))),(Av nn),(Av mm),(Av U),(Am (.int .u64 (c1:Int))),(Am (.int .u64 (d1:Int))),(Av V),(Am (.agg #[.int .u64 (c0:Int),.int .u64 (d0:Int),.int .u64 (c1:Int),.int .u64 (d1:Int),.bool true]))] [(DS c0 d0 c1 d1 true)] ⟨[(0,(.ref 8)),(1,(.ref 3)),(2,(.ref 2)),(6,.nil),(7,.nil),(9,(.bool true))],[(3,0)]⟩ ⟨[(0,(.ref 8)),(1,(.ref 3)),(2,(.ref 2)),(6,(.ref 4)),(7,(.ref 7)),(9,(.bool true))],[(3,0)]⟩ Wb 2 cF true:=RA.of
   { calls:=[c4 141 (.ref 2) (.ref 0) (.ref 3) (.ref 1) (.ref 4) λw v0 v1 v2 v3 hb h0 h1 h2 h3=>Wc h0 h1 h2 h3 (by assumption) (by assumption) e1 (Nat.max_comm (len mm) (len nn) ▸ hmx) (Nat.max_comm (len mm) (len nn) ▸ hU),
      c4 141 (.ref 3) (.ref 5) (.ref 2) (.ref 6) (.ref 7) λw v0 v1 v2 v3 hb h0 h1 h2 h3=>Wc h0 h1 h2 h3 (by assumption) (by assumption) e2 hmx hV],
     loads:=[⟨112,1,0,(.ref 0),λw q h=>Qg w q h⟩,
      ⟨112,0,0,(.ref 1),λw q h=>iN w q h⟩,
      ⟨112,2,0,(.ref 5),λw q h=>ZN w q h⟩,
      ⟨112,3,0,(.ref 6),λw q h=>Zu w q h⟩],
     flds:=[⟨134,1,1,Wk⟩,
      ⟨134,0,0,sO⟩,
      ⟨134,2,2,rO⟩,
      ⟨134,3,3,tZ⟩] } (by kernel_rfl)
theorem rA(e1:U+d0*nn=c0*mm)(e2:V+c1*mm=d1*nn):RA 38 [(Am (.agg #[.int .u64 (c0:Int),.int .u64 (d0:Int),.int .u64 (c1:Int),.int .u64 (d1:Int),.bool false])),(Av mm),(Av nn)] [(DS c0 d0 c1 d1 false)] ⟨[(0,(.ref 0)),(1,(.ref 1)),(2,(.ref 2))],[]⟩ ⟨[(0,(.ref 0)),(1,(.ref 1)),(2,(.ref 2)),(6,.nil),(7,.nil)],[(3,0)]⟩ Wb 0 SV false:=RA.of
   { boxes:=[⟨134,(.ref 0),0,λw v h=>Rt w v h⟩] } (by kernel_rfl)
theorem qG(e1:U+d0*nn=c0*mm)(e2:V+c1*mm=d1*nn):RA 38 [(Am (.agg #[.int .u64 (c0:Int),.int .u64 (d0:Int),.int .u64 (c1:Int),.int .u64 (d1:Int),.bool false])),(Av mm),(Av nn)] [(DS c0 d0 c1 d1 false)] ⟨[(0,(.ref 0)),(1,(.ref 1)),(2,(.ref 2)),(6,.nil),(7,.nil)],[(3,0)]⟩ ⟨[(0,(.ref 0)),(1,(.ref 1)),(2,(.ref 2)),(6,.nil),(7,.nil),(9,(.bool false))],[(3,0)]⟩ Wb 1 UW false:=RA.of
   { loads:=[⟨4,4,0,(.bool false),λw q h=>cZ w q h⟩],
     flds:=[⟨134,4,4,sA⟩] } (by kernel_rfl)
theorem AaD(e1:U+d0*nn=c0*mm)(e2:V+c1*mm=d1*nn):RA 38 [(Am (.int .u64 (c0:Int))),(Am (.int .u64 (d0:Int))),(Av mm),(Av nn),(Av U),(Am (.int .u64 (d1:Int))),(Am (.int .u64 (c1:Int))),(Av V),(Am (.agg #[.int .u64 (c0:Int),.int .u64 (d0:Int),.int .u64 (c1:Int),.int .u64 (d1:Int),.bool false]))] [(DS c0 d0 c1 d1 false)] ⟨[(0,(.ref 8)),(1,(.ref 2)),(2,(.ref 3)),(6,.nil),(7,.nil),(9,(.bool false))],[(3,0)]⟩ ⟨[(0,(.ref 8)),(1,(.ref 2)),(2,(.ref 3)),(6,(.ref 4)),(7,(.ref 7)),(9,(.bool false))],[(3,0)]⟩ Wb 3 cT true:=RA.of
   { calls:=[c4 141 (.ref 2) (.ref 0) (.ref 3) (.ref 1) (.ref 4) λw v0 v1 v2 v3 hb h0 h1 h2 h3=>Wc h0 h1 h2 h3 (by assumption) (by assumption) e1 hmx hU,
      c4 141 (.ref 3) (.ref 5) (.ref 2) (.ref 6) (.ref 7) λw v0 v1 v2 v3 hb h0 h1 h2 h3=>Wc h0 h1 h2 h3 (by assumption) (by assumption) e2 (Nat.max_comm (len mm) (len nn) ▸ hmx) (Nat.max_comm (len mm) (len nn) ▸ hV)],
     loads:=[⟨112,0,0,(.ref 0),λw q h=>iN w q h⟩,
      ⟨112,1,0,(.ref 1),λw q h=>Qg w q h⟩,
      ⟨112,3,0,(.ref 5),λw q h=>Zu w q h⟩,
      ⟨112,2,0,(.ref 6),λw q h=>ZN w q h⟩],
     flds:=[⟨134,0,0,sO⟩,
      ⟨134,1,1,Wk⟩,
      ⟨134,3,3,tZ⟩,
      ⟨134,2,2,rO⟩] } (by kernel_rfl)
end
theorem YH(va vb:Value)(mm nn c0 d0 c1 d1 U V:Nat)(W:World)(ha:AB W va mm)(hb:AB W vb nn)(l0:c0<4294967296)(l1:d0<4294967296)(l2:c1<4294967296)(l3:d1<4294967296)(hmx:max (len mm) (len nn)≤1099511627776)(hU:len U≤max (len mm) (len nn))(hV:len V≤max (len mm) (len nn))(e1:U+c0*mm=d0*nn)(e2:V+d1*nn=c1*mm) :
  Calls Tryz.prog 127 #[.agg #[.int .u64 (c0:Int),.int .u64 (d0:Int),.int .u64 (c1:Int),.int .u64 (d1:Int),.bool true],va,vb] W (Aj (BT (Av U) (Av V)) W):=by
 refine Db (S:=[(0,(Am (.agg #[.int .u64 (c0:Int),.int .u64 (d0:Int),.int .u64 (c1:Int),.int .u64 (d1:Int),.bool true]))),(1,(Av mm)),(2,(Av nn))]) Tryz.func127 (by kernel_rfl) Tryz.ntmps127 (by simp) (λx hx=>?_) λa w hst=>?_
 ·simp only [List.mem_cons,List.not_mem_nil,or_false] at hx
  rcases hx with rfl | rfl | rfl
  ·exact ⟨_,rfl,rfl⟩
  ·exact ⟨_,rfl,ha⟩
  ·exact ⟨_,rfl,hb⟩
 show Code.wp _ Lj _ a w;rw [aD];refine wp_seq ?_;rw [ZB];refine (yI l0 l1 l2 l3 hmx hU hV e1 e2).run hst ?_;clear hst;intro a w hst;show Code.wp _ JC _ a w;rw [dU];refine wp_seq ?_;rw [jV];refine wp_seq ?_;rw [iF];refine (zX l0 l1 l2 l3 hmx hU hV e1 e2).run hst ?_;clear hst;intro a w hst;show Code.wp _ Jn _ a w;rw [iR];refine wp_cond_true (AZ hst 5 rfl) ?_;show Code.wp _ MI _ a w;rw [Aao];refine wp_seq ?_;rw [Aam];refine (xY l0 l1 l2 l3 hmx hU hV e1 e2).run hst ?_;clear hst;intro a w hst;show Code.wp _ PB _ a w;rw [lJ];refine wp_ret ?_;exact RD hst rfl 3 rfl 4 rfl
theorem SM(va vb:Value)(mm nn c0 d0 c1 d1 U V:Nat)(W:World)(ha:AB W va mm)(hb:AB W vb nn)(l0:c0<4294967296)(l1:d0<4294967296)(l2:c1<4294967296)(l3:d1<4294967296)(hmx:max (len mm) (len nn)≤1099511627776)(hU:len U≤max (len mm) (len nn))(hV:len V≤max (len mm) (len nn))(e1:U+d0*nn=c0*mm)(e2:V+c1*mm=d1*nn) :
  Calls Tryz.prog 127 #[.agg #[.int .u64 (c0:Int),.int .u64 (d0:Int),.int .u64 (c1:Int),.int .u64 (d1:Int),.bool false],va,vb] W (Aj (BT (Av U) (Av V)) W):=by
 refine Db (S:=[(0,(Am (.agg #[.int .u64 (c0:Int),.int .u64 (d0:Int),.int .u64 (c1:Int),.int .u64 (d1:Int),.bool false]))),(1,(Av mm)),(2,(Av nn))]) Tryz.func127 (by kernel_rfl) Tryz.ntmps127 (by simp) (λx hx=>?_) λa w hst=>?_
 ·simp only [List.mem_cons,List.not_mem_nil,or_false] at hx
  rcases hx with rfl | rfl | rfl
  ·exact ⟨_,rfl,rfl⟩
  ·exact ⟨_,rfl,ha⟩
  ·exact ⟨_,rfl,hb⟩
 show Code.wp _ Lj _ a w;rw [aD];refine wp_seq ?_;rw [ZB];refine (rA l0 l1 l2 l3 hmx hU hV e1 e2).run hst ?_;clear hst;intro a w hst;show Code.wp _ JC _ a w;rw [dU];refine wp_seq ?_;rw [jV];refine wp_seq ?_;rw [iF];refine (qG l0 l1 l2 l3 hmx hU hV e1 e2).run hst ?_;clear hst;intro a w hst;show Code.wp _ Jn _ a w;rw [iR];refine wp_cond_false (AZ hst 5 rfl) ?_;show Code.wp _ Tt _ a w;rw [yZ];refine wp_skip ?_;show Code.wp _ MF _ a w;rw [wR];refine wp_seq ?_;rw [qV];refine (AaD l0 l1 l2 l3 hmx hU hV e1 e2).run hst ?_;clear hst;intro a w hst;show Code.wp _ PP _ a w;rw [lX];refine wp_ret ?_;exact RD hst rfl 3 rfl 4 rfl
section
variable {ops : Array Oper} {N : Nat} {Wb W0 : World} {a0 : Act} {F : List PF} {BX : List Bh} {AD : List (Nat × Nat × Nat)} {i : Nat} {g : Option (Nat × Bool)}
end
def DY(p q a0 b0 a1 b1:Nat)(o:Bool):Prop:=a0<4294967296∧b0<4294967296∧a1<4294967296∧b1<4294967296∧(b0≠0→lF p q a0 b0 a1 b1 o)
def vN(p q:Nat):PF:=⟨λv _=>∃(a0 b0 a1 b1:Nat)(o:Bool),v = .agg #[.int .u64 (a0:Int),.int .u64 (b0:Int),.int .u64 (a1:Int),.int .u64 (b1:Int),.bool o]∧DY p q a0 b0 a1 b1 o,λ_ _ _ _ h=>h⟩
def aV(p q:Nat):CF:=⟨λg w=>∃(a0 b0 a1 b1:Nat)(o:Bool),DY p q a0 b0 a1 b1 o∧(DS a0 b0 a1 b1 o).p g w,
 λg w w' hg e ⟨a0,b0,a1,b1,o,hk,h⟩=>⟨a0,b0,a1,b1,o,hk,(DS a0 b0 a1 b1 o).st g w w' hg e h⟩,λg w ⟨a0,b0,a1,b1,o,_,h⟩=>(DS a0 b0 a1 b1 o).ty g w h⟩
theorem V_{Wb:World}{N p q:Nat}{S:List (Nat × PF)}{a:Act}{w:World}(hst:St Wb N S [(5,aV p q)] a w):∃(a0 b0 a1 b1:Nat)(o:Bool),DY p q a0 b0 a1 b1 o∧St Wb N S [(5,DS a0 b0 a1 b1 o)] a w:=by
 obtain ⟨s1,s2,s3,s4,s5,s6,s7⟩:=hst;obtain ⟨⟨g,h1,h2,a0,b0,a1,b1,o,hk,hb⟩,_⟩:=s6;exact ⟨a0,b0,a1,b1,o,hk,s1,s2,s3,s4,s5,⟨⟨g,h1,h2,hb⟩,trivial⟩,by simp⟩
theorem UC(w:World):(Instr.alloc 134 true (.tuple #[])).run Tryz.prog w = .ok (.pointer (some ⟨w.heap.size,0,none⟩)) (w.alloc (.cells #[.int .u64 0,.int .u64 0,.int .u64 0,.int .u64 0,.bool false] 134 (0,0))):=by simp [go_sem]
theorem SQ(w:World):(DS 0 0 0 0 false).p w.heap.size (w.alloc (.cells #[.int .u64 0,.int .u64 0,.int .u64 0,.int .u64 0,.bool false] 134 (0,0))):=Hv w _
theorem wH{p q:Nat}:EQ 134 (DS 0 0 0 0 false) (vN p q) (aV p q):=by
 intro w g v h1 h2;obtain ⟨a0,b0,a1,b1,o,rfl,hk⟩:=h2;have hh:w.heap[g]? = some (.cells #[.int .u64 0,.int .u64 0,.int .u64 0,.int .u64 0,.bool false] 134 (0,0)):=h1;have c0:w.cell? ⟨g,0,none⟩=some (.int .u64 0):=by rw [cell_of_row w g 0 _ _ (0,0) hh]; rfl
 have c1:w.cell? ⟨g,1,none⟩=some (.int .u64 0):=by rw [cell_of_row w g 1 _ _ (0,0) hh]; rfl
 have c2:w.cell? ⟨g,2,none⟩=some (.int .u64 0):=by rw [cell_of_row w g 2 _ _ (0,0) hh]; rfl
 have c3:w.cell? ⟨g,3,none⟩=some (.int .u64 0):=by rw [cell_of_row w g 3 _ _ (0,0) hh]; rfl
 have c4:w.cell? ⟨g,4,none⟩=some (.bool false):=by rw [cell_of_row w g 4 _ _ (0,0) hh]; rfl
 have f0:=AA hh 0;have f1:=AA hh 1;have f2:=AA hh 2;have f3:=AA hh 3;have f4:=AA hh 4;have hne:(134:TypeId)≠114:=by decide
 have k1:=Ax hh 0 (.int .u64 (a0:Int));have k2:=Ax k1 1 (.int .u64 (b0:Int));have k3:=Ax k2 2 (.int .u64 (a1:Int));have k4:=Ax k3 3 (.int .u64 (b1:Int));have k5:=Ax k4 4 (.bool o);refine ⟨((((w.setCell ⟨g,0,none⟩ (.int .u64 a0)).setCell ⟨g,1,none⟩ (.int .u64 b0)).setCell ⟨g,2,none⟩ (.int .u64 a1)).setCell ⟨g,3,none⟩ (.int .u64 b1)).setCell ⟨g,4,none⟩ (.bool o),by simp [go_sem,c0,c1,c2,c3,c4,f0,f1,f2,f3,f4],
  λB W hq hB=>((((hB.setCell hq _).setCell hq _).setCell hq _).setCell hq _).setCell hq _,?_,λj hj=>?_,⟨a0,b0,a1,b1,o,hk,k5⟩⟩
 ·exact ((((Bl.set hh hne 0 _).trans (Bl.set k1 hne 1 _)).trans (Bl.set k2 hne 2 _)).trans (Bl.set k3 hne 3 _)).trans (Bl.set k4 hne 4 _)
 ·exact (Below.heap_setCell _ _ _ j (by simpa using hj)).trans ((Below.heap_setCell _ _ _ j (by simpa using hj)).trans ((Below.heap_setCell _ _ _ j (by simpa using hj)).trans ((Below.heap_setCell _ _ _ j (by simpa using hj)).trans (Below.heap_setCell _ _ _ j (by simpa using hj)))))
theorem Abr{a0 b0 a1 b1:Nat}{o:Bool}(w:World)(q:Nat)(h:(DS a0 b0 a1 b1 o).p q w):∃ v,(Instr.loadAt 134 (.pointer (some ⟨q,0,none⟩))).run Tryz.prog w = .ok v w∧(Am (.agg #[.int .u64 (a0:Int),.int .u64 (b0:Int),.int .u64 (a1:Int),.int .u64 (b1:Int),.bool o])).p v w:=by
 have hh:w.heap[q]? = some (.cells #[.int .u64 (a0:Int),.int .u64 (b0:Int),.int .u64 (a1:Int),.int .u64 (b1:Int),.bool o] 134 (0,0)):=h;have c0:w.cell? ⟨q,0,none⟩=some (.int .u64 (a0:Int)):=by rw [cell_of_row w q 0 _ _ (0,0) hh]; rfl
 have c1:w.cell? ⟨q,1,none⟩=some (.int .u64 (b0:Int)):=by rw [cell_of_row w q 1 _ _ (0,0) hh]; rfl
 have c2:w.cell? ⟨q,2,none⟩=some (.int .u64 (a1:Int)):=by rw [cell_of_row w q 2 _ _ (0,0) hh]; rfl
 have c3:w.cell? ⟨q,3,none⟩=some (.int .u64 (b1:Int)):=by rw [cell_of_row w q 3 _ _ (0,0) hh]; rfl
 have c4:w.cell? ⟨q,4,none⟩=some (.bool o):=by rw [cell_of_row w q 4 _ _ (0,0) hh]; rfl
 exact ⟨_,by simp [go_sem,c0,c1,c2,c3,c4],rfl⟩
theorem PU{ρ:Operand→Value}{w:World}{x:Operand}{n:Nat}(hx:(Av n).p (ρ x) w):Fr (.call { callee:=.builtin .len,args:=#[x],argTypes:=#[32] }) ρ w (Am (.int .i64 (len n:Int))):=by
 have hx:AB w (ρ x) n:=hx;obtain ⟨A,c,e,_⟩:=hx;exact NL (show (Am (.slice A (len n) c)).p (ρ x) w from e)
theorem lG{x y:Nat}(h:y≤x):decide (Gg x y<0)=false:=by
 rcases Nat.lt_or_eq_of_le h with h | h
 ·rw [EW h]; decide
 ·rw [FP h.symm]; decide
theorem wU{q:Nat}(h:0<q):((len q:Int) == 0)=false:=by
 have:len q≠0:=λe=>by have:=AY.1 e; omega
 simp;omega
section
variable {w : World} {va vb : Value} {x y : Nat}
theorem Sc(ha:(Av x).p va w)(hb:(Av y).p vb w)(hx:len x≤1099511627776)(hy:len y≤1099511627776):Calls Tryz.prog 124 #[va,vb] w (Aj (Am (.int .i64 (Gg x y))) w):=by
 have ha:AB w va x:=ha;have hb:AB w vb y:=hb;obtain ⟨A,c,rfl,HA⟩:=ha.open_;obtain ⟨B,d,rfl,HB⟩:=hb.open_;exact (GN A B c d x y w HA.out HB.out hx hy).mono λ_ _ ⟨he,hb⟩=>⟨_,he,rfl,hb⟩
theorem Yl(ha:(Av x).p va w)(hb:(Av y).p vb w)(h3:3≤len x)(hla:len x≤1099511627776)(hba:y≤x):Calls Tryz.prog 125 #[va,vb] w (Aj (vN x y) w):=
 (PI va vb x y w ha hb h3 hla hba).mono λ_ _ ⟨a0,b0,a1,b1,o,he,k0,k1,k2,k3,k4,hb⟩=>⟨_,he,⟨a0,b0,a1,b1,o,rfl,k0,k1,k2,k3,k4⟩,hb⟩
theorem WS(ha:(Av x).p va w)(hb:(Av y).p vb w)(hx:len x≤1099511627775)(hy:len y≤1099511627775)(h0:0<y):Calls Tryz.prog 126 #[va,vb] w (Aj (BT (Av (x / y)) (Av (x % y))) w):=
 (Mk va vb x y w ha hb hx hy h0).mono λ_ _ ⟨vq,vr,he,hq,hr,hb⟩=>⟨_,he,⟨vq,vr,rfl,hq,hr⟩,hb⟩
theorem U8(ha:(Av x).p va w)(hx:x<18446744073709551616):Calls Tryz.prog 129 #[va] w (Aj (Am (.int .u64 (x:Int))) w):=by
 have ha:AB w va x:=ha;obtain ⟨A,c,rfl,HA⟩:=ha.open_;exact (Ii A c x w HA.out.mem.2.2 hx).mono λ_ _ ⟨he,hw⟩=>⟨_,he,rfl,hw ▸ Below.refl _ _⟩
theorem Oi(ha:(Am (.int .u64 (x:Int))).p va w)(hb:(Am (.int .u64 (y:Int))).p vb w)(hx:x<18446744073709551616)(hy:y<18446744073709551616):Calls Tryz.prog 128 #[va,vb] w (Aj (Am (.int .u64 (Nat.gcd x y:Nat))) w):=by
 have ha:va = .int .u64 (x:Int):=ha;have hb:vb = .int .u64 (y:Int):=hb;subst ha hb;exact (Kp x y w hx hy).mono λ_ _ ⟨he,hb⟩=>⟨_,he,rfl,hb⟩
theorem XB(ha:(Am (.int .u64 (x:Int))).p va w)(hx:x<18446744073709551616):Calls Tryz.prog 103 #[va] w (Aj (Av x) w):=by
 have ha:va = .int .u64 (x:Int):=ha;subst ha;exact CL x w hx
theorem Abg{vs:Value}{p q c0 d0 c1 d1 U V:Nat}{o:Bool}(hs:(Am (.agg #[.int .u64 (c0:Int),.int .u64 (d0:Int),.int .u64 (c1:Int),.int .u64 (d1:Int),.bool o])).p vs w)(ha:(Av p).p va w)(hb:(Av q).p vb w)(hok:DY p q c0 d0 c1 d1 o)(hUV:if o then U+c0*p=d0*q∧V+d1*q=c1*p else U+d0*q=c0*p∧V+c1*p=d1*q)(hU:U<p)(hV:V<q)(bp:len p≤1099511627775)(bq:len q≤1099511627775) :
  Calls Tryz.prog 127 #[vs,va,vb] w (Aj (BT (Av U) (Av V)) w):=by
 have hs:vs = .agg #[.int .u64 (c0:Int),.int .u64 (d0:Int),.int .u64 (c1:Int),.int .u64 (d1:Int),.bool o]:=hs;subst hs;have h1:=AW (Nat.le_of_lt hU);have h2:=AW (Nat.le_of_lt hV);obtain ⟨k0,k1,k2,k3,_⟩:=hok
 cases o
 ·simp only [Bool.false_eq_true,if_false] at hUV
  exact SM va vb p q c0 d0 c1 d1 U V w ha hb k0 k1 k2 k3 (by omega) (by omega) (by omega) hUV.1 hUV.2
 ·simp only [if_true] at hUV
  exact YH va vb p q c0 d0 c1 d1 U V w ha hb k0 k1 k2 k3 (by omega) (by omega) (by omega) hUV.1 hUV.2
end
noncomputable def Qm:=C8 Tryz.f118
noncomputable def TQ:=cl Qm
noncomputable def Jo:=cr Qm
theorem bZ:Qm = .seq TQ Jo:=by kernel_rfl
noncomputable def SK:=A8 TQ
theorem eG:TQ = .region 0 SK false:=by kernel_rfl
noncomputable def Qn:=cl Jo
noncomputable def Ji:=cr Jo
theorem Y2:Jo = .seq Qn Ji:=by kernel_rfl
noncomputable def UU:=cl Qn
noncomputable def JO:=cr Qn
theorem Zg:Qn = .seq UU JO:=by kernel_rfl
noncomputable def TL:=A8 UU
theorem fI:UU = .region 1 TL false:=by kernel_rfl
noncomputable def Pu:=cl JO
noncomputable def Ub:=cr JO
theorem eL:JO = .cond (.tmp 13) Pu Ub:=by kernel_rfl
noncomputable def ZG:=A8 Pu
theorem wK:Pu = .region 2 ZG false:=by kernel_rfl
theorem yU:Ub = .skip:=by kernel_rfl
noncomputable def UI:=cl Ji
noncomputable def ES:=cr Ji
theorem cU:Ji = .seq UI ES:=by kernel_rfl
noncomputable def IP:=cl UI
theorem ZM:UI = .block 0 IP:=by kernel_rfl
noncomputable def G7:=cl IP
theorem Vw:IP = .loop G7:=by kernel_rfl
noncomputable def K_:=cl G7
noncomputable def I4:=cr G7
theorem KW:G7 = .seq K_ I4:=by kernel_rfl
noncomputable def Qz:=cl K_
noncomputable def EJ:=cr K_
theorem KI:K_ = .seq Qz EJ:=by kernel_rfl
noncomputable def SL:=A8 Qz
theorem KP:Qz = .region 3 SL false:=by kernel_rfl
noncomputable def Ks:=cl EJ
noncomputable def KS:=cr EJ
theorem K1:EJ = .cond (.tmp 18) Ks KS:=by kernel_rfl
theorem WC:Ks = .skip:=by kernel_rfl
theorem VW:KS = .exit 0:=by kernel_rfl
noncomputable def GJ:=cl I4
theorem Xg:I4 = .block 1 GJ:=by kernel_rfl
noncomputable def QC:=cl GJ
noncomputable def EU:=cr GJ
theorem Xf:GJ = .seq QC EU:=by kernel_rfl
noncomputable def jK:=A8 QC
theorem W5:QC = .region 4 jK false:=by kernel_rfl
noncomputable def Qj:=cl EU
noncomputable def E8:=cr EU
theorem KY:EU = .seq Qj E8:=by kernel_rfl
noncomputable def UX:=A8 Qj
theorem KL:Qj = .region 5 UX false:=by kernel_rfl
noncomputable def GH:=cl E8
noncomputable def IR:=cr E8
theorem K9:E8 = .cond (.tmp 24) GH IR:=by kernel_rfl
noncomputable def Pb:=cl GH
noncomputable def ID:=cr GH
theorem WM:GH = .seq Pb ID:=by kernel_rfl
noncomputable def ZL:=A8 Pb
theorem VR:Pb = .region 6 ZL false:=by kernel_rfl
noncomputable def ZY:=A8 ID
theorem Wl:ID = .region 7 ZY false:=by kernel_rfl
noncomputable def gN:=A8 IR
theorem U_:IR = .region 8 gN false:=by kernel_rfl
noncomputable def KB:=cl ES
noncomputable def GM:=cr ES
theorem KV:ES = .seq KB GM:=by kernel_rfl
noncomputable def PW:=cl KB
noncomputable def EP:=cr KB
theorem KR:KB = .seq PW EP:=by kernel_rfl
noncomputable def Ug:=A8 PW
theorem KF:PW = .region 9 Ug false:=by kernel_rfl
noncomputable def GD:=cl EP
noncomputable def Kx:=cr EP
theorem KX:EP = .cond (.tmp 42) GD Kx:=by kernel_rfl
noncomputable def OF:=cl GD
noncomputable def Lb:=cr GD
theorem Ww:GD = .seq OF Lb:=by kernel_rfl
noncomputable def Vc:=A8 OF
theorem WJ:OF = .region 10 Vc false:=by kernel_rfl
theorem Xe:Lb = .ret:=by kernel_rfl
theorem VB:Kx = .skip:=by kernel_rfl
noncomputable def Pn:=cl GM
noncomputable def GU:=cr GM
theorem Wt:GM = .seq Pn GU:=by kernel_rfl
noncomputable def Xa:=A8 Pn
theorem Wg:Pn = .region 11 Xa false:=by kernel_rfl
noncomputable def Po:=cl GU
noncomputable def KQ:=cr GU
theorem Vr:GU = .seq Po KQ:=by kernel_rfl
noncomputable def Wh:=A8 Po
theorem W2:Po = .region 12 Wh false:=by kernel_rfl
theorem VK:KQ = .ret:=by kernel_rfl
section
set_option linter.unusedSectionVars false
variable {Wb : World}
theorem xU{pp qq:Nat}(hlp:len pp≤1099511627775)(hlq:len qq≤1099511627775)(lt:pp<qq):RA 56 [(Av pp),(Av qq)] [] ⟨[(0,(.ref 0)),(1,(.ref 1))],[]⟩ ⟨[(0,(.ref 0)),(1,(.ref 1)),(4,.nil)],[]⟩ Wb 0 SK false:=RA.of
   {  } (by kernel_rfl)
theorem zI{pp qq:Nat}(hlp:len pp≤1099511627775)(hlq:len qq≤1099511627775)(lt:pp<qq):RA 56 [(Av pp),(Av qq),(Am (.int .i64 (Gg pp qq)))] [] ⟨[(0,(.ref 0)),(1,(.ref 1)),(4,.nil)],[]⟩ ⟨[(0,(.ref 0)),(1,(.ref 1)),(4,.nil),(13,(.bool true))],[]⟩ Wb 1 TL false:=RA.of
   { pures:=[p2 (.bin .lss 3 3) (.ref 2) (.int .i64 0) (.bool true) λ_ _ _ _ _ hx hy=>Gb (r:=true) (by rw [GL lt]; decide) hx hy],
     calls:=[c2 124 (.ref 0) (.ref 1) (.ref 2) λw v0 v1 hb h0 h1=>Sc h0 h1 (by omega) (by omega)] } (by kernel_rfl)
theorem yO{pp qq:Nat}(hlp:len pp≤1099511627775)(hlq:len qq≤1099511627775)(lt:pp<qq):RA 56 [(Av pp),(Av qq)] [] ⟨[(0,(.ref 0)),(1,(.ref 1)),(4,.nil),(13,(.bool true))],[]⟩ ⟨[(0,(.ref 1)),(1,(.ref 0)),(4,.nil),(13,(.bool true))],[]⟩ Wb 2 ZG false:=RA.of
   {  } (by kernel_rfl)
theorem iP{p q:Nat}(hqp:q≤p)(bp:len p≤1099511627775)(bq:len q≤1099511627775)(h3:3≤len q):RA 56 [(Av q),(Am (.int .i64 (len q:Int))),(Av p)] [] ⟨[(0,(.ref 2)),(1,(.ref 0))],[]⟩ ⟨[(0,(.ref 2)),(1,(.ref 0)),(18,(.bool true))],[]⟩ Wb 3 SL false:=RA.of
   { pures:=[p1 (.blt .len [32]) (.ref 0) (.ref 1) λ_ _ _ _ hx=>PU hx,
      p2 (.bin .gtr 3 3) (.ref 1) (.int .i64 2) (.bool true) λ_ _ _ _ _ hx hy=>EO (r:=true) (by simp; omega) hx hy] } (by kernel_rfl)
theorem dY{p q:Nat}(hqp:q≤p)(bp:len p≤1099511627775)(bq:len q≤1099511627775)(h3:3≤len q):RA 56 [(Av p),(Av q),(vN p q)] [(DS 0 0 0 0 false),(aV p q)] ⟨[(0,(.ref 0)),(1,(.ref 1)),(18,(.bool true))],[]⟩ ⟨[(0,(.ref 0)),(1,(.ref 1)),(18,(.bool true))],[(5,1)]⟩ Wb 4 jK false:=RA.of
   { calls:=[c2 125 (.ref 0) (.ref 1) (.ref 2) λw v0 v1 hb h0 h1=>Yl h0 h1 (by have:=AW hqp; omega) (by omega) hqp],
     allocs:=[⟨134,0,_,UC,SQ⟩],
     stores:=[⟨134,0,0,(.ref 2),1,wH⟩] } (by kernel_rfl)
theorem dB{p q:Nat}(hqp:q≤p)(bp:len p≤1099511627775)(bq:len q≤1099511627775)(h3:3≤len q){c0 d0 c1 d1:Nat}{o:Bool}(hok:DY p q c0 d0 c1 d1 o)(hz:d0=0)(q0:0<q):RA 56 [(Am (.int .u64 (d0:Int))),(Av p),(Av q)] [(DS c0 d0 c1 d1 o)] ⟨[(0,(.ref 1)),(1,(.ref 2)),(18,(.bool true))],[(5,0)]⟩ ⟨[(0,(.ref 1)),(1,(.ref 2)),(18,(.bool true)),(24,(.bool true))],[(5,0)]⟩ Wb 5 UX false:=RA.of
   { pures:=[p2 (.bin .eql 112 112) (.ref 0) (.int .u64 0) (.bool true) λ_ _ _ _ _ hx hy=>Co (r:=true) (by simp; omega) hx hy],
     loads:=[⟨112,1,0,(.ref 0),λw q h=>Qg w q h⟩],
     flds:=[⟨134,1,1,Wk⟩] } (by kernel_rfl)
theorem fU{p q:Nat}(hqp:q≤p)(bp:len p≤1099511627775)(bq:len q≤1099511627775)(h3:3≤len q){c0 d0 c1 d1:Nat}{o:Bool}(hok:DY p q c0 d0 c1 d1 o)(hz:d0=0)(q0:0<q):RA 56 [(Av p),(Av q),(Av (p / q)),(Av (p % q))] [(DS c0 d0 c1 d1 o)] ⟨[(0,(.ref 0)),(1,(.ref 1)),(18,(.bool true)),(24,(.bool true))],[(5,0)]⟩ ⟨[(0,(.ref 0)),(1,(.ref 1)),(7,(.ref 3)),(18,(.bool true)),(24,(.bool true))],[(5,0)]⟩ Wb 6 ZL false:=RA.of
   { calls:=[c2 126 (.ref 0) (.ref 1) (.tup2 (.ref 2) (.ref 3)) λw v0 v1 hb h0 h1=>WS h0 h1 (by omega) (by omega) q0] } (by kernel_rfl)
theorem Zz{p q:Nat}(hqp:q≤p)(bp:len p≤1099511627775)(bq:len q≤1099511627775)(h3:3≤len q){c0 d0 c1 d1:Nat}{o:Bool}(hok:DY p q c0 d0 c1 d1 o)(hz:d0=0)(q0:0<q):RA 56 [(Av p),(Av q),(Av (p % q))] [(DS c0 d0 c1 d1 o)] ⟨[(0,(.ref 0)),(1,(.ref 1)),(7,(.ref 2)),(18,(.bool true)),(24,(.bool true))],[(5,0)]⟩ ⟨[(0,(.ref 1)),(1,(.ref 2)),(7,(.ref 2)),(18,(.bool true)),(24,(.bool true))],[(5,0)]⟩ Wb 7 ZY false:=RA.of
   {  } (by kernel_rfl)
theorem VA{p q:Nat}(hqp:q≤p)(bp:len p≤1099511627775)(bq:len q≤1099511627775)(h3:3≤len q){c0 d0 c1 d1:Nat}{o:Bool}(hok:DY p q c0 d0 c1 d1 o)(hz:d0≠0){U V:Nat}(hUV:if o then U+c0*p=d0*q∧V+d1*q=c1*p else U+d0*q=c0*p∧V+c1*p=d1*q)(hU:U<p)(hV:V<q):RA 56 [(Am (.int .u64 (d0:Int))),(Av p),(Av q)] [(DS c0 d0 c1 d1 o)] ⟨[(0,(.ref 1)),(1,(.ref 2)),(18,(.bool true))],[(5,0)]⟩ ⟨[(0,(.ref 1)),(1,(.ref 2)),(18,(.bool true)),(24,(.bool false))],[(5,0)]⟩ Wb 5 UX false:=RA.of
   { pures:=[p2 (.bin .eql 112 112) (.ref 0) (.int .u64 0) (.bool false) λ_ _ _ _ _ hx hy=>Co (r:=false) (by simp; omega) hx hy],
     loads:=[⟨112,1,0,(.ref 0),λw q h=>Qg w q h⟩],
     flds:=[⟨134,1,1,Wk⟩] } (by kernel_rfl)
theorem jT{p q:Nat}(hqp:q≤p)(bp:len p≤1099511627775)(bq:len q≤1099511627775)(h3:3≤len q){c0 d0 c1 d1:Nat}{o:Bool}(hok:DY p q c0 d0 c1 d1 o)(hz:d0≠0){U V:Nat}(hUV:if o then U+c0*p=d0*q∧V+d1*q=c1*p else U+d0*q=c0*p∧V+c1*p=d1*q)(hU:U<p)(hV:V<q):RA 56 [(Am (.agg #[.int .u64 (c0:Int),.int .u64 (d0:Int),.int .u64 (c1:Int),.int .u64 (d1:Int),.bool o])),(Av p),(Av q),(Av U),(Av V)] [(DS c0 d0 c1 d1 o)] ⟨[(0,(.ref 1)),(1,(.ref 2)),(18,(.bool true)),(24,(.bool false))],[(5,0)]⟩ ⟨[(0,(.ref 3)),(1,(.ref 4)),(18,(.bool true)),(24,(.bool false))],[(5,0)]⟩ Wb 8 gN false:=RA.of
   { calls:=[c3 127 (.ref 0) (.ref 1) (.ref 2) (.tup2 (.ref 3) (.ref 4)) λw v0 v1 v2 hb h0 h1 h2=>Abg h0 h1 h2 hok hUV hU hV bp bq],
     loads:=[⟨134,0,0,(.ref 0),λw q h=>Abr w q h⟩] } (by kernel_rfl)
theorem WG{p q:Nat}(hqp:q≤p)(bp:len p≤1099511627775)(bq:len q≤1099511627775)(h3:len q≤2):RA 56 [(Av q),(Am (.int .i64 (len q:Int))),(Av p)] [] ⟨[(0,(.ref 2)),(1,(.ref 0))],[]⟩ ⟨[(0,(.ref 2)),(1,(.ref 0)),(18,(.bool false))],[]⟩ Wb 3 SL false:=RA.of
   { pures:=[p1 (.blt .len [32]) (.ref 0) (.ref 1) λ_ _ _ _ hx=>PU hx,
      p2 (.bin .gtr 3 3) (.ref 1) (.int .i64 2) (.bool false) λ_ _ _ _ _ hx hy=>EO (r:=false) (by simp; omega) hx hy] } (by kernel_rfl)
theorem ZZ{p q:Nat}(hqp:q≤p)(bp:len p≤1099511627775)(bq:len q≤1099511627775)(q0:q=0):RA 56 [(Av q),(Am (.int .i64 (len q:Int))),(Av p)] [] ⟨[(0,(.ref 2)),(1,(.ref 0)),(18,(.bool false))],[]⟩ ⟨[(0,(.ref 2)),(1,(.ref 0)),(18,(.bool false)),(42,(.bool true))],[]⟩ Wb 9 Ug false:=RA.of
   { pures:=[p1 (.blt .len [32]) (.ref 0) (.ref 1) λ_ _ _ _ hx=>PU hx,
      p2 (.bin .eql 3 3) (.ref 1) (.int .i64 0) (.bool true) λ_ _ _ _ _ hx hy=>Co (r:=true) (by rw [q0,AX]; rfl) hx hy] } (by kernel_rfl)
theorem VN{p q:Nat}(hqp:q≤p)(bp:len p≤1099511627775)(bq:len q≤1099511627775)(q0:q=0):RA 56 [(Av p),(Av q)] [] ⟨[(0,(.ref 0)),(1,(.ref 1)),(18,(.bool false)),(42,(.bool true))],[]⟩ ⟨[(0,(.ref 0)),(1,(.ref 1)),(4,(.ref 0)),(18,(.bool false)),(42,(.bool true))],[]⟩ Wb 10 Vc false:=RA.of
   {  } (by kernel_rfl)
theorem Wv{p q:Nat}(hqp:q≤p)(bp:len p≤1099511627775)(bq:len q≤1099511627775)(q0:0<q)(q64:q<18446744073709551616):RA 56 [(Av q),(Am (.int .i64 (len q:Int))),(Av p)] [] ⟨[(0,(.ref 2)),(1,(.ref 0)),(18,(.bool false))],[]⟩ ⟨[(0,(.ref 2)),(1,(.ref 0)),(18,(.bool false)),(42,(.bool false))],[]⟩ Wb 9 Ug false:=RA.of
   { pures:=[p1 (.blt .len [32]) (.ref 0) (.ref 1) λ_ _ _ _ hx=>PU hx,
      p2 (.bin .eql 3 3) (.ref 1) (.int .i64 0) (.bool false) λ_ _ _ _ _ hx hy=>Co (r:=false) (wU q0) hx hy] } (by kernel_rfl)
theorem Wr{p q:Nat}(hqp:q≤p)(bp:len p≤1099511627775)(bq:len q≤1099511627775)(q0:0<q)(q64:q<18446744073709551616):RA 56 [(Av p),(Av q),(Av (p / q)),(Av (p % q))] [] ⟨[(0,(.ref 0)),(1,(.ref 1)),(18,(.bool false)),(42,(.bool false))],[]⟩ ⟨[(0,(.ref 0)),(1,(.ref 1)),(9,(.ref 3)),(18,(.bool false)),(42,(.bool false))],[]⟩ Wb 11 Xa false:=RA.of
   { calls:=[c2 126 (.ref 0) (.ref 1) (.tup2 (.ref 2) (.ref 3)) λw v0 v1 hb h0 h1=>WS h0 h1 (by omega) (by omega) q0] } (by kernel_rfl)
theorem Wf{p q:Nat}(hqp:q≤p)(bp:len p≤1099511627775)(bq:len q≤1099511627775)(q0:0<q)(q64:q<18446744073709551616):RA 56 [(Av q),(Am (.int .u64 ((q:Nat):Int))),(Av (p % q)),(Am (.int .u64 (((p % q):Nat):Int))),(Am (.int .u64 ((Nat.gcd q (p % q):Nat):Int))),(Av (Nat.gcd q (p % q))),(Av p)] [] ⟨[(0,(.ref 6)),(1,(.ref 0)),(9,(.ref 2)),(18,(.bool false)),(42,(.bool false))],[]⟩ ⟨[(0,(.ref 6)),(1,(.ref 0)),(4,(.ref 5)),(9,(.ref 2)),(18,(.bool false)),(42,(.bool false))],[]⟩ Wb 12 Wh false:=RA.of
   { calls:=[c1 129 (.ref 0) (.ref 1) λw v0 hb h0=>U8 h0 q64,
      c1 129 (.ref 2) (.ref 3) λw v0 hb h0=>U8 h0 (Nat.lt_trans (Nat.mod_lt _ q0) q64),
      c2 128 (.ref 1) (.ref 3) (.ref 4) λw v0 v1 hb h0 h1=>Oi h0 h1 q64 (Nat.lt_trans (Nat.mod_lt _ q0) q64),
      c1 103 (.ref 4) (.ref 5) λw v0 hb h0=>XB h0 (Nat.lt_of_le_of_lt (Nat.le_of_dvd q0 (Nat.gcd_dvd_left _ _)) q64)] } (by kernel_rfl)
theorem rC{pp qq:Nat}(hlp:len pp≤1099511627775)(hlq:len qq≤1099511627775)(lt:qq≤pp):RA 56 [(Av pp),(Av qq)] [] ⟨[(0,(.ref 0)),(1,(.ref 1))],[]⟩ ⟨[(0,(.ref 0)),(1,(.ref 1)),(4,.nil)],[]⟩ Wb 0 SK false:=RA.of
   {  } (by kernel_rfl)
theorem qX{pp qq:Nat}(hlp:len pp≤1099511627775)(hlq:len qq≤1099511627775)(lt:qq≤pp):RA 56 [(Av pp),(Av qq),(Am (.int .i64 (Gg pp qq)))] [] ⟨[(0,(.ref 0)),(1,(.ref 1)),(4,.nil)],[]⟩ ⟨[(0,(.ref 0)),(1,(.ref 1)),(4,.nil),(13,(.bool false))],[]⟩ Wb 1 TL false:=RA.of
   { pures:=[p2 (.bin .lss 3 3) (.ref 2) (.int .i64 0) (.bool false) λ_ _ _ _ _ hx hy=>Gb (r:=false) (lG lt) hx hy],
     calls:=[c2 124 (.ref 0) (.ref 1) (.ref 2) λw v0 v1 hb h0 h1=>Sc h0 h1 (by omega) (by omega)] } (by kernel_rfl)
end
theorem Q8(va vb:Value)(pp qq:Nat)(W:World)(ha:AB W va pp)(hb:AB W vb qq)(hlp:len pp≤1099511627775)(hlq:len qq≤1099511627775) :
  Calls Tryz.prog 118 #[va,vb] W (Aj (Av (Nat.gcd pp qq)) W):=by
 refine Db (S:=[(0,(Av pp)),(1,(Av qq))]) Tryz.func118 (by kernel_rfl) Tryz.ntmps118 (by simp) (λx hx=>?_) λa w hst=>?_
 ·simp only [List.mem_cons,List.not_mem_nil,or_false] at hx
  rcases hx with rfl | rfl
  ·exact ⟨_,rfl,ha⟩
  ·exact ⟨_,rfl,hb⟩
 show Code.wp _ Qm _ a w
 rcases Nat.lt_or_ge pp qq with lt | lt
 ·rw [bZ]
  refine wp_seq ?_;rw [eG];refine (xU hlp hlq lt).run hst ?_;clear hst;intro a w hst;show Code.wp _ Jo _ a w;rw [Y2];refine wp_seq ?_;rw [Zg];refine wp_seq ?_;rw [fI];refine (zI hlp hlq lt).run hst ?_;clear hst;intro a w hst;show Code.wp _ JO _ a w;rw [eL];refine wp_cond_true (AZ hst 3 rfl) ?_;show Code.wp _ Pu _ a w;rw [wK];refine (yO hlp hlq lt).run hst ?_;clear hst;intro a w hst;show Code.wp _ Ji _ a w;rw [cU];refine wp_seq ?_;rw [ZM];refine wp_block ?_;show Code.wp _ IP _ a w;rw [Vw];refine CB (fun (z:Nat × Nat) a w=>St W 56 [(0,(Av z.1)),(1,(Av z.2))] [] a w∧z.2≤z.1∧z.1≤max pp qq∧Nat.gcd z.1 z.2=Nat.gcd pp qq) (λz=>z.2) ?_ (qq,pp) ⟨hst.to ⟨hst.slots.get (k:=0) rfl,hst.slots.get (k:=1) rfl,trivial⟩,by show pp≤qq; omega,by show qq≤max pp qq; omega,Nat.gcd_comm _ _⟩
  rintro ⟨p,q⟩ a w ⟨hst,hqp,hpm,hg⟩
  simp only [] at hst hqp hpm hg;have bm:len (max pp qq)≤1099511627775:=by rcases Nat.le_total pp qq with h | h; (rw [Nat.max_eq_right h]; exact hlq); (rw [Nat.max_eq_left h]; exact hlp)
  have bp:len p≤1099511627775:=Nat.le_trans (AW hpm) bm;have bq:len q≤1099511627775:=Nat.le_trans (AW hqp) bp;show Code.wp _ G7 _ a w
  rcases Nat.lt_or_ge 2 (len q) with h3 | h3
  ·have h3:3≤len q:=h3
   rw [KW];refine wp_seq ?_;rw [KI];refine wp_seq ?_;rw [KP];refine (iP hqp bp bq h3).run hst ?_;clear hst;intro a w hst;show Code.wp _ EJ _ a w;rw [K1];refine wp_cond_true (AZ hst 2 rfl) ?_;show Code.wp _ Ks _ a w;rw [WC];refine wp_skip ?_;show Code.wp _ I4 _ a w;rw [Xg];refine wp_block ?_;show Code.wp _ GJ _ a w;rw [Xf];refine wp_seq ?_;rw [W5];refine (dY hqp bp bq h3).run hst ?_;clear hst;intro a w hst;obtain ⟨c0,d0,c1,d1,o,hok,hst⟩:=V_ hst
   by_cases hz:d0=0
   ·have q0:0<q:=by rcases Nat.eq_zero_or_pos q with h | h; (rw [h,AX] at h3; omega); exact h
    show Code.wp _ EU _ a w;rw [KY];refine wp_seq ?_;rw [KL];refine (dB hqp bp bq h3 hok hz q0).run hst ?_;clear hst;intro a w hst;show Code.wp _ E8 _ a w;rw [K9];refine wp_cond_true (AZ hst 3 rfl) ?_;show Code.wp _ GH _ a w;rw [WM];refine wp_seq ?_;rw [VR];refine (fU hqp bp bq h3 hok hz q0).run hst ?_;clear hst;intro a w hst;show Code.wp _ ID _ a w;rw [Wl];refine (Zz hqp bp bq h3 hok hz q0).run hst ?_;clear hst;intro a w hst;exact ⟨(q,p % q),⟨((hst.to (S':=[(0,(Av q)),(1,(Av (p % q)))]) ⟨hst.slots.get (k:=0) rfl,hst.slots.get (k:=1) rfl,trivial⟩).firstB 0),Nat.le_of_lt (Nat.mod_lt _ q0),by show q≤max pp qq; omega,by show Nat.gcd q (p % q)=_; rw [← hg,Nat.gcd_comm p q,Nat.gcd_rec q p,Nat.gcd_comm]⟩,Nat.mod_lt _ q0⟩
   ·obtain ⟨U,V,hUV,hgU,hU,hV,hVU⟩:=hok.2.2.2.2 hz
    show Code.wp _ EU _ a w;rw [KY];refine wp_seq ?_;rw [KL];refine (VA hqp bp bq h3 hok hz hUV hU hV).run hst ?_;clear hst;intro a w hst;show Code.wp _ E8 _ a w;rw [K9];refine wp_cond_false (AZ hst 3 rfl) ?_;show Code.wp _ IR _ a w;rw [U_];refine (jT hqp bp bq h3 hok hz hUV hU hV).run hst ?_;clear hst;intro a w hst;exact ⟨(U,V),⟨((hst.to (S':=[(0,(Av U)),(1,(Av V))]) ⟨hst.slots.get (k:=0) rfl,hst.slots.get (k:=1) rfl,trivial⟩).firstB 0),hVU,by show U≤max pp qq; omega,by show Nat.gcd U V=_; rw [hgU,hg]⟩,hV⟩
  ·rw [KW]
   refine wp_seq ?_;rw [KI];refine wp_seq ?_;rw [KP];refine (WG hqp bp bq h3).run hst ?_;clear hst;intro a w hst;show Code.wp _ EJ _ a w;rw [K1];refine wp_cond_false (AZ hst 2 rfl) ?_;show Code.wp _ KS _ a w;rw [VW];refine wp_exit ?_
   rcases Nat.eq_zero_or_pos q with q0 | q0
   ·have e0:p=Nat.gcd pp qq:=by rw [← hg,q0,Nat.gcd_zero_right]
    show Code.wp _ ES _ a w;rw [KV];refine wp_seq ?_;rw [KR];refine wp_seq ?_;rw [KF];refine (ZZ hqp bp bq q0).run hst ?_;clear hst;intro a w hst;show Code.wp _ EP _ a w;rw [KX];refine wp_cond_true (AZ hst 3 rfl) ?_;show Code.wp _ GD _ a w;rw [Ww];refine wp_seq ?_;rw [WJ];refine (VN hqp bp bq q0).run hst ?_;clear hst;intro a w hst;show Code.wp _ Lb _ a w;rw [Xe];refine wp_ret ?_;rw [e0] at hst;exact Lc hst rfl 2 rfl
   ·have q64:q<18446744073709551616:=Nat.lt_of_lt_of_le (BB q) (Nat.pow_le_pow_right (n:=4294967296) (by decide) h3)
    show Code.wp _ ES _ a w;rw [KV];refine wp_seq ?_;rw [KR];refine wp_seq ?_;rw [KF];refine (Wv hqp bp bq q0 q64).run hst ?_;clear hst;intro a w hst;show Code.wp _ EP _ a w;rw [KX];refine wp_cond_false (AZ hst 3 rfl) ?_;show Code.wp _ Kx _ a w;rw [VB];refine wp_skip ?_;show Code.wp _ GM _ a w;rw [Wt];refine wp_seq ?_;rw [Wg];refine (Wr hqp bp bq q0 q64).run hst ?_;clear hst;intro a w hst;show Code.wp _ GU _ a w;rw [Vr];refine wp_seq ?_;rw [W2];refine (Wf hqp bp bq q0 q64).run hst ?_;clear hst;intro a w hst;show Code.wp _ KQ _ a w;rw [VK];refine wp_ret ?_;have e0:Nat.gcd q (p % q)=Nat.gcd pp qq:=by rw [← hg,Nat.gcd_comm p q,Nat.gcd_rec q p,Nat.gcd_comm]
    rw [e0] at hst;exact Lc hst rfl 2 rfl
 ·rw [bZ]
  refine wp_seq ?_;rw [eG];refine (rC hlp hlq lt).run hst ?_;clear hst;intro a w hst;show Code.wp _ Jo _ a w;rw [Y2];refine wp_seq ?_;rw [Zg];refine wp_seq ?_;rw [fI];refine (qX hlp hlq lt).run hst ?_;clear hst;intro a w hst;show Code.wp _ JO _ a w;rw [eL];refine wp_cond_false (AZ hst 3 rfl) ?_;show Code.wp _ Ub _ a w;rw [yU];refine wp_skip ?_;show Code.wp _ Ji _ a w;rw [cU];refine wp_seq ?_;rw [ZM];refine wp_block ?_;show Code.wp _ IP _ a w;rw [Vw];refine CB (fun (z:Nat × Nat) a w=>St W 56 [(0,(Av z.1)),(1,(Av z.2))] [] a w∧z.2≤z.1∧z.1≤max pp qq∧Nat.gcd z.1 z.2=Nat.gcd pp qq) (λz=>z.2) ?_ (pp,qq) ⟨hst.to ⟨hst.slots.get (k:=0) rfl,hst.slots.get (k:=1) rfl,trivial⟩,by show qq≤pp; omega,by show pp≤max pp qq; omega,rfl⟩
  rintro ⟨p,q⟩ a w ⟨hst,hqp,hpm,hg⟩
  simp only [] at hst hqp hpm hg;have bm:len (max pp qq)≤1099511627775:=by rcases Nat.le_total pp qq with h | h; (rw [Nat.max_eq_right h]; exact hlq); (rw [Nat.max_eq_left h]; exact hlp)
  have bp:len p≤1099511627775:=Nat.le_trans (AW hpm) bm;have bq:len q≤1099511627775:=Nat.le_trans (AW hqp) bp;show Code.wp _ G7 _ a w
  rcases Nat.lt_or_ge 2 (len q) with h3 | h3
  ·have h3:3≤len q:=h3
   rw [KW];refine wp_seq ?_;rw [KI];refine wp_seq ?_;rw [KP];refine (iP hqp bp bq h3).run hst ?_;clear hst;intro a w hst;show Code.wp _ EJ _ a w;rw [K1];refine wp_cond_true (AZ hst 2 rfl) ?_;show Code.wp _ Ks _ a w;rw [WC];refine wp_skip ?_;show Code.wp _ I4 _ a w;rw [Xg];refine wp_block ?_;show Code.wp _ GJ _ a w;rw [Xf];refine wp_seq ?_;rw [W5];refine (dY hqp bp bq h3).run hst ?_;clear hst;intro a w hst;obtain ⟨c0,d0,c1,d1,o,hok,hst⟩:=V_ hst
   by_cases hz:d0=0
   ·have q0:0<q:=by rcases Nat.eq_zero_or_pos q with h | h; (rw [h,AX] at h3; omega); exact h
    show Code.wp _ EU _ a w;rw [KY];refine wp_seq ?_;rw [KL];refine (dB hqp bp bq h3 hok hz q0).run hst ?_;clear hst;intro a w hst;show Code.wp _ E8 _ a w;rw [K9];refine wp_cond_true (AZ hst 3 rfl) ?_;show Code.wp _ GH _ a w;rw [WM];refine wp_seq ?_;rw [VR];refine (fU hqp bp bq h3 hok hz q0).run hst ?_;clear hst;intro a w hst;show Code.wp _ ID _ a w;rw [Wl];refine (Zz hqp bp bq h3 hok hz q0).run hst ?_;clear hst;intro a w hst;exact ⟨(q,p % q),⟨((hst.to (S':=[(0,(Av q)),(1,(Av (p % q)))]) ⟨hst.slots.get (k:=0) rfl,hst.slots.get (k:=1) rfl,trivial⟩).firstB 0),Nat.le_of_lt (Nat.mod_lt _ q0),by show q≤max pp qq; omega,by show Nat.gcd q (p % q)=_; rw [← hg,Nat.gcd_comm p q,Nat.gcd_rec q p,Nat.gcd_comm]⟩,Nat.mod_lt _ q0⟩
   ·obtain ⟨U,V,hUV,hgU,hU,hV,hVU⟩:=hok.2.2.2.2 hz
    show Code.wp _ EU _ a w;rw [KY];refine wp_seq ?_;rw [KL];refine (VA hqp bp bq h3 hok hz hUV hU hV).run hst ?_;clear hst;intro a w hst;show Code.wp _ E8 _ a w;rw [K9];refine wp_cond_false (AZ hst 3 rfl) ?_;show Code.wp _ IR _ a w;rw [U_];refine (jT hqp bp bq h3 hok hz hUV hU hV).run hst ?_;clear hst;intro a w hst;exact ⟨(U,V),⟨((hst.to (S':=[(0,(Av U)),(1,(Av V))]) ⟨hst.slots.get (k:=0) rfl,hst.slots.get (k:=1) rfl,trivial⟩).firstB 0),hVU,by show U≤max pp qq; omega,by show Nat.gcd U V=_; rw [hgU,hg]⟩,hV⟩
  ·rw [KW]
   refine wp_seq ?_;rw [KI];refine wp_seq ?_;rw [KP];refine (WG hqp bp bq h3).run hst ?_;clear hst;intro a w hst;show Code.wp _ EJ _ a w;rw [K1];refine wp_cond_false (AZ hst 2 rfl) ?_;show Code.wp _ KS _ a w;rw [VW];refine wp_exit ?_
   rcases Nat.eq_zero_or_pos q with q0 | q0
   ·have e0:p=Nat.gcd pp qq:=by rw [← hg,q0,Nat.gcd_zero_right]
    show Code.wp _ ES _ a w;rw [KV];refine wp_seq ?_;rw [KR];refine wp_seq ?_;rw [KF];refine (ZZ hqp bp bq q0).run hst ?_;clear hst;intro a w hst;show Code.wp _ EP _ a w;rw [KX];refine wp_cond_true (AZ hst 3 rfl) ?_;show Code.wp _ GD _ a w;rw [Ww];refine wp_seq ?_;rw [WJ];refine (VN hqp bp bq q0).run hst ?_;clear hst;intro a w hst;show Code.wp _ Lb _ a w;rw [Xe];refine wp_ret ?_;rw [e0] at hst;exact Lc hst rfl 2 rfl
   ·have q64:q<18446744073709551616:=Nat.lt_of_lt_of_le (BB q) (Nat.pow_le_pow_right (n:=4294967296) (by decide) h3)
    show Code.wp _ ES _ a w;rw [KV];refine wp_seq ?_;rw [KR];refine wp_seq ?_;rw [KF];refine (Wv hqp bp bq q0 q64).run hst ?_;clear hst;intro a w hst;show Code.wp _ EP _ a w;rw [KX];refine wp_cond_false (AZ hst 3 rfl) ?_;show Code.wp _ Kx _ a w;rw [VB];refine wp_skip ?_;show Code.wp _ GM _ a w;rw [Wt];refine wp_seq ?_;rw [Wg];refine (Wr hqp bp bq q0 q64).run hst ?_;clear hst;intro a w hst;show Code.wp _ GU _ a w;rw [Vr];refine wp_seq ?_;rw [W2];refine (Wf hqp bp bq q0 q64).run hst ?_;clear hst;intro a w hst;show Code.wp _ KQ _ a w;rw [VK];refine wp_ret ?_;have e0:Nat.gcd q (p % q)=Nat.gcd pp qq:=by rw [← hg,Nat.gcd_comm p q,Nat.gcd_rec q p,Nat.gcd_comm]
    rw [e0] at hst;exact Lc hst rfl 2 rfl
end Go.Proofs.YtdopbgnkneeceaaGreat
