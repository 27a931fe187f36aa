/- The steps, applied (written by wip/tools/gen_apply.py). -/
import Derived.Test.YtgaehhapjnbieaaGreatqCon
import Derived.Test.YtgaehhapjnbieaaGreatqSim
import Derived.Test.YtgaehhapjnbieaaGreatqComb
import Derived.Test.YtgaehhapjnbieaaGreatqDivP
import Derived.Test.YtgaehhapjnbieaaGreatqR3
set_option linter.unusedSectionVars false
set_option linter.unusedVariables false
set_option linter.unusedSimpArgs false
namespace Go.Proofs.YtgaehhapjnbieaaGreat
open Go.RowKit
section
variable {ops : Array Oper} {N : Nat} {Wb W0 : World} {a0 : Act} {F : List PF} {BX : List BoxS} {AD : List (Nat × Nat × Nat)} {i : Nat} {g : Option (Nat × Bool)}
end
def stBF (a0 b0 a1 b1:Nat) (o:Bool):CF:=objF #[.int .u64 (a0:Int),.int .u64 (b0:Int),.int .u64 (a1:Int),.int .u64 (b1:Int),.bool o] 127 (by decide)
theorem boxS_run {a0 b0 a1 b1:Nat} {o:Bool} (w:World) (v:Value) (h:(eqF (.agg #[.int .u64 (a0:Int),.int .u64 (b0:Int),.int .u64 (a1:Int),.int .u64 (b1:Int),.bool o])).p v w):∃ ob,(Instr.box 127 v).run Tryz.prog w = .ok (.pointer (some ⟨w.heap.size,0,none⟩)) (w.alloc ob)∧(stBF a0 b0 a1 b1 o).p w.heap.size (w.alloc ob):=by
 have h:v = .agg #[.int .u64 (a0:Int),.int .u64 (b0:Int),.int .u64 (a1:Int),.int .u64 (b1:Int),.bool o]:=h
 subst h
 exact ⟨.cells #[.int .u64 (a0:Int),.int .u64 (b0:Int),.int .u64 (a1:Int),.int .u64 (b1:Int),.bool o] 127 (0,0),by simp [go_sem],heap1 w _⟩
theorem fldS0 (q:Nat) (w:World):(Instr.fieldAt 127 (.pointer (some ⟨q,0,none⟩)) 0).run Tryz.prog w = .ok (.pointer (some ⟨q,0,none⟩)) w:=by simp [go_sem]
theorem loadS0 {a0 b0 a1 b1:Nat} {o:Bool} (w:World) (q:Nat) (h:(stBF a0 b0 a1 b1 o).p q w):∃ v,(Instr.loadAt 107 (.pointer (some ⟨q,0,none⟩))).run Tryz.prog w = .ok v w∧(eqF (.int .u64 (a0:Int))).p v w:=by
 have hh:w.heap[q]? = some (.cells #[.int .u64 (a0:Int),.int .u64 (b0:Int),.int .u64 (a1:Int),.int .u64 (b1:Int),.bool o] 127 (0,0)):=h
 have h0:w.cell? ⟨q,0,none⟩=some (.int .u64 (a0:Int)):=by rw [cell_of_row w q 0 _ _ (0,0) hh]; rfl
 exact ⟨_,by simp [go_sem,h0],rfl⟩
theorem fldS1 (q:Nat) (w:World):(Instr.fieldAt 127 (.pointer (some ⟨q,0,none⟩)) 1).run Tryz.prog w = .ok (.pointer (some ⟨q,1,none⟩)) w:=by simp [go_sem]
theorem loadS1 {a0 b0 a1 b1:Nat} {o:Bool} (w:World) (q:Nat) (h:(stBF a0 b0 a1 b1 o).p q w):∃ v,(Instr.loadAt 107 (.pointer (some ⟨q,1,none⟩))).run Tryz.prog w = .ok v w∧(eqF (.int .u64 (b0:Int))).p v w:=by
 have hh:w.heap[q]? = some (.cells #[.int .u64 (a0:Int),.int .u64 (b0:Int),.int .u64 (a1:Int),.int .u64 (b1:Int),.bool o] 127 (0,0)):=h
 have h0:w.cell? ⟨q,1,none⟩=some (.int .u64 (b0:Int)):=by rw [cell_of_row w q 1 _ _ (0,0) hh]; rfl
 exact ⟨_,by simp [go_sem,h0],rfl⟩
theorem fldS2 (q:Nat) (w:World):(Instr.fieldAt 127 (.pointer (some ⟨q,0,none⟩)) 2).run Tryz.prog w = .ok (.pointer (some ⟨q,2,none⟩)) w:=by simp [go_sem]
theorem loadS2 {a0 b0 a1 b1:Nat} {o:Bool} (w:World) (q:Nat) (h:(stBF a0 b0 a1 b1 o).p q w):∃ v,(Instr.loadAt 107 (.pointer (some ⟨q,2,none⟩))).run Tryz.prog w = .ok v w∧(eqF (.int .u64 (a1:Int))).p v w:=by
 have hh:w.heap[q]? = some (.cells #[.int .u64 (a0:Int),.int .u64 (b0:Int),.int .u64 (a1:Int),.int .u64 (b1:Int),.bool o] 127 (0,0)):=h
 have h0:w.cell? ⟨q,2,none⟩=some (.int .u64 (a1:Int)):=by rw [cell_of_row w q 2 _ _ (0,0) hh]; rfl
 exact ⟨_,by simp [go_sem,h0],rfl⟩
theorem fldS3 (q:Nat) (w:World):(Instr.fieldAt 127 (.pointer (some ⟨q,0,none⟩)) 3).run Tryz.prog w = .ok (.pointer (some ⟨q,3,none⟩)) w:=by simp [go_sem]
theorem loadS3 {a0 b0 a1 b1:Nat} {o:Bool} (w:World) (q:Nat) (h:(stBF a0 b0 a1 b1 o).p q w):∃ v,(Instr.loadAt 107 (.pointer (some ⟨q,3,none⟩))).run Tryz.prog w = .ok v w∧(eqF (.int .u64 (b1:Int))).p v w:=by
 have hh:w.heap[q]? = some (.cells #[.int .u64 (a0:Int),.int .u64 (b0:Int),.int .u64 (a1:Int),.int .u64 (b1:Int),.bool o] 127 (0,0)):=h
 have h0:w.cell? ⟨q,3,none⟩=some (.int .u64 (b1:Int)):=by rw [cell_of_row w q 3 _ _ (0,0) hh]; rfl
 exact ⟨_,by simp [go_sem,h0],rfl⟩
theorem fldS4 (q:Nat) (w:World):(Instr.fieldAt 127 (.pointer (some ⟨q,0,none⟩)) 4).run Tryz.prog w = .ok (.pointer (some ⟨q,4,none⟩)) w:=by simp [go_sem]
theorem loadS4 {a0 b0 a1 b1:Nat} {o:Bool} (w:World) (q:Nat) (h:(stBF a0 b0 a1 b1 o).p q w):∃ v,(Instr.loadAt 4 (.pointer (some ⟨q,4,none⟩))).run Tryz.prog w = .ok v w∧(eqF (.bool o)).p v w:=by
 have hh:w.heap[q]? = some (.cells #[.int .u64 (a0:Int),.int .u64 (b0:Int),.int .u64 (a1:Int),.int .u64 (b1:Int),.bool o] 127 (0,0)):=h
 have h0:w.cell? ⟨q,4,none⟩=some (.bool o):=by rw [cell_of_row w q 4 _ _ (0,0) hh]; rfl
 exact ⟨_,by simp [go_sem,h0],rfl⟩
theorem kComb {w:World} {va vp vb vq:Value} {x y p q z:Nat} (ha:(natF x).p va w) (hvp:(eqF (.int .u64 (p:Int))).p vp w) (hb:(natF y).p vb w) (hvq:(eqF (.int .u64 (q:Int))).p vq w) (hp:p<4294967296) (hq:q<4294967296) (hz:z+q*y=p*x) (hm:max (len x) (len y)≤1099511627776) (hzl:len z≤max (len x) (len y)) :
  Calls Tryz.prog 153 #[va,vp,vb,vq] w (GivesP (natF z) w):=by
 have hvp:vp = .int .u64 (p:Int):=hvp
 have hvq:vq = .int .u64 (q:Int):=hvq
 subst hvp hvq
 have ha:NatAt w va x:=ha
 have hb:NatAt w vb y:=hb
 obtain ⟨A,c,rfl,HA⟩:=ha.open_
 obtain ⟨B,d,rfl,HB⟩:=hb.open_
 rcases Nat.lt_or_ge (len x) (len y) with h | h
 ·exact combine_lt A B c d p q x y z w HA.out.mem.2.2 HB.out.mem.2.2 hp hq h (by omega) hz (by omega)
 ·exact combine_ge A B c d p q x y z w HA.out.mem.2.2 HB.out.mem.2.2 hp hq h (by omega) hz (by omega)
theorem ret_tmp2 {Wb:World} {N:Nat} {S:List (Nat × PF)} {B:List (Nat × CF)} {a:Act} {w:World} {fn:Func} {t t':Nat} {R R':PF} (hst:St Wb N S B a w) (hr:fn.results = #[.tmp t,.tmp t']) (k:Nat) (hk:S[k]? = some (t,R)) (k':Nat) (hk':S[k']? = some (t',R')):bodyPost Tryz.prog fn (GivesP (tup2F R R') Wb) .ret a w:=by
 obtain ⟨v,h1,h2⟩:=hst.slots.get hk
 obtain ⟨v',h1',h2'⟩:=hst.slots.get hk'
 refine bodyPost_ret (v:=.tuple #[v,v']) ?_ hst.defers ⟨_,rfl,⟨_,_,rfl,h2,h2'⟩,hst.below⟩
 simp [results,hr,go_sem,Array.getD_eq_getD_getElem?,h1,h1']
noncomputable def apl_n0:Code:=bodyOf Tryz.f141
noncomputable def apl_n1:Code:=cl apl_n0
noncomputable def apl_n2:Code:=cr apl_n0
theorem apl_e0:apl_n0 = .seq apl_n1 apl_n2:=by kernel_rfl
noncomputable def apl_o0:Array Oper:=opsOf apl_n1
theorem apl_e1:apl_n1 = .region 0 apl_o0 false:=by kernel_rfl
noncomputable def apl_n3:Code:=cl apl_n2
noncomputable def apl_n4:Code:=cr apl_n2
theorem apl_e2:apl_n2 = .seq apl_n3 apl_n4:=by kernel_rfl
noncomputable def apl_n5:Code:=cl apl_n3
noncomputable def apl_n6:Code:=cr apl_n3
theorem apl_e3:apl_n3 = .seq apl_n5 apl_n6:=by kernel_rfl
noncomputable def apl_o1:Array Oper:=opsOf apl_n5
theorem apl_e5:apl_n5 = .region 1 apl_o1 false:=by kernel_rfl
noncomputable def apl_n7:Code:=cl apl_n6
noncomputable def apl_n8:Code:=cr apl_n6
theorem apl_e6:apl_n6 = .cond (.tmp 9) apl_n7 apl_n8:=by kernel_rfl
noncomputable def apl_n9:Code:=cl apl_n7
noncomputable def apl_n10:Code:=cr apl_n7
theorem apl_e7:apl_n7 = .seq apl_n9 apl_n10:=by kernel_rfl
noncomputable def apl_o2:Array Oper:=opsOf apl_n9
theorem apl_e9:apl_n9 = .region 2 apl_o2 true:=by kernel_rfl
theorem apl_e10:apl_n10 = .ret:=by kernel_rfl
theorem apl_e8:apl_n8 = .skip:=by kernel_rfl
noncomputable def apl_n11:Code:=cl apl_n4
noncomputable def apl_n12:Code:=cr apl_n4
theorem apl_e4:apl_n4 = .seq apl_n11 apl_n12:=by kernel_rfl
noncomputable def apl_o3:Array Oper:=opsOf apl_n11
theorem apl_e11:apl_n11 = .region 3 apl_o3 true:=by kernel_rfl
theorem apl_e12:apl_n12 = .ret:=by kernel_rfl
section
set_option maxRecDepth 100000
set_option linter.unusedSectionVars false
variable {Wb : World} {mm nn c0 d0 c1 d1 U V : Nat} (l0 : c0 < 4294967296) (l1 : d0 < 4294967296) (l2 : c1 < 4294967296) (l3 : d1 < 4294967296) (hmx : max (len mm) (len nn) ≤ 1099511627776) (hU : len U ≤ max (len mm) (len nn)) (hV : len V ≤ max (len mm) (len nn))
include l0 l1 l2 l3 hmx hU hV
theorem apl_r0 (e1:U+c0*mm=d0*nn) (e2:V+d1*nn=c1*mm):RA 38 [(eqF (.agg #[.int .u64 (c0:Int),.int .u64 (d0:Int),.int .u64 (c1:Int),.int .u64 (d1:Int),.bool true])),(natF mm),(natF nn)] [(stBF c0 d0 c1 d1 true)] ⟨[(0,(.ref 0)),(1,(.ref 1)),(2,(.ref 2))],[]⟩ ⟨[(0,(.ref 0)),(1,(.ref 1)),(2,(.ref 2)),(6,.nil),(7,.nil)],[(3,0)]⟩ Wb 0 apl_o0 false:=RA.of
   { boxes:=[⟨127,(.ref 0),0,fun w v h=>boxS_run w v h⟩] } (by kernel_rfl)
theorem apl_r1 (e1 : U + c0 * mm = d0 * nn) (e2 : V + d1 * nn = c1 * mm) : RA 38 [(eqF (.agg #[.int .u64 (c0 : Int), .int .u64 (d0 : Int), .int .u64 (c1 : Int), .int .u64 (d1 : Int), .bool true])), (natF mm), (natF nn)] [(stBF c0 d0 c1 d1 true)] ⟨[(0, (.ref 0)), (1, (.ref 1)), (2, (.ref 2)), (6, .nil), (7, .nil)], [(3, 0)]⟩ ⟨[(0, (.ref 0)), (1, (.ref 1)), (2, (.ref 2)), (6, .nil), (7, .nil), (9, (.bool true))], [(3, 0)]⟩ Wb 1 apl_o1 false := RA.of
   { loads := [⟨4, 4, 0, (.bool true), fun w q h => loadS4 w q h⟩],
     flds := [⟨127, 4, 4, fldS4⟩] } (by kernel_rfl)
theorem apl_r2 (e1 : U + c0 * mm = d0 * nn) (e2 : V + d1 * nn = c1 * mm) : RA 38 [(eqF (.int .u64 (d0 : Int))), (eqF (.int .u64 (c0 : Int))), (natF nn), (natF mm), (natF U), (eqF (.int .u64 (c1 : Int))), (eqF (.int .u64 (d1 : Int))), (natF V), (eqF (.agg #[.int .u64 (c0 : Int), .int .u64 (d0 : Int), .int .u64 (c1 : Int), .int .u64 (d1 : Int), .bool true]))] [(stBF c0 d0 c1 d1 true)] ⟨[(0, (.ref 8)), (1, (.ref 3)), (2, (.ref 2)), (6, .nil), (7, .nil), (9, (.bool true))], [(3, 0)]⟩ ⟨[(0, (.ref 8)), (1, (.ref 3)), (2, (.ref 2)), (6, (.ref 4)), (7, (.ref 7)), (9, (.bool true))], [(3, 0)]⟩ Wb 2 apl_o2 true := RA.of
   { calls := [c4 153 (.ref 2) (.ref 0) (.ref 3) (.ref 1) (.ref 4) fun w v0 v1 v2 v3 hb h0 h1 h2 h3 => kComb h0 h1 h2 h3 (by assumption) (by assumption) e1 (Nat.max_comm (len mm) (len nn) ▸ hmx) (Nat.max_comm (len mm) (len nn) ▸ hU),
      c4 153 (.ref 3) (.ref 5) (.ref 2) (.ref 6) (.ref 7) fun w v0 v1 v2 v3 hb h0 h1 h2 h3 => kComb h0 h1 h2 h3 (by assumption) (by assumption) e2 hmx hV],
     loads := [⟨107, 1, 0, (.ref 0), fun w q h => loadS1 w q h⟩,
      ⟨107, 0, 0, (.ref 1), fun w q h => loadS0 w q h⟩,
      ⟨107, 2, 0, (.ref 5), fun w q h => loadS2 w q h⟩,
      ⟨107, 3, 0, (.ref 6), fun w q h => loadS3 w q h⟩],
     flds := [⟨127, 1, 1, fldS1⟩,
      ⟨127, 0, 0, fldS0⟩,
      ⟨127, 2, 2, fldS2⟩,
      ⟨127, 3, 3, fldS3⟩] } (by kernel_rfl)
theorem apl_r0b (e1:U+d0*nn=c0*mm) (e2:V+c1*mm=d1*nn):RA 38 [(eqF (.agg #[.int .u64 (c0:Int),.int .u64 (d0:Int),.int .u64 (c1:Int),.int .u64 (d1:Int),.bool false])),(natF mm),(natF nn)] [(stBF c0 d0 c1 d1 false)] ⟨[(0,(.ref 0)),(1,(.ref 1)),(2,(.ref 2))],[]⟩ ⟨[(0,(.ref 0)),(1,(.ref 1)),(2,(.ref 2)),(6,.nil),(7,.nil)],[(3,0)]⟩ Wb 0 apl_o0 false:=RA.of
   { boxes:=[⟨127,(.ref 0),0,fun w v h=>boxS_run w v h⟩] } (by kernel_rfl)
theorem apl_r1b (e1 : U + d0 * nn = c0 * mm) (e2 : V + c1 * mm = d1 * nn) : RA 38 [(eqF (.agg #[.int .u64 (c0 : Int), .int .u64 (d0 : Int), .int .u64 (c1 : Int), .int .u64 (d1 : Int), .bool false])), (natF mm), (natF nn)] [(stBF c0 d0 c1 d1 false)] ⟨[(0, (.ref 0)), (1, (.ref 1)), (2, (.ref 2)), (6, .nil), (7, .nil)], [(3, 0)]⟩ ⟨[(0, (.ref 0)), (1, (.ref 1)), (2, (.ref 2)), (6, .nil), (7, .nil), (9, (.bool false))], [(3, 0)]⟩ Wb 1 apl_o1 false := RA.of
   { loads := [⟨4, 4, 0, (.bool false), fun w q h => loadS4 w q h⟩],
     flds := [⟨127, 4, 4, fldS4⟩] } (by kernel_rfl)
theorem apl_r3 (e1 : U + d0 * nn = c0 * mm) (e2 : V + c1 * mm = d1 * nn) : RA 38 [(eqF (.int .u64 (c0 : Int))), (eqF (.int .u64 (d0 : Int))), (natF mm), (natF nn), (natF U), (eqF (.int .u64 (d1 : Int))), (eqF (.int .u64 (c1 : Int))), (natF V), (eqF (.agg #[.int .u64 (c0 : Int), .int .u64 (d0 : Int), .int .u64 (c1 : Int), .int .u64 (d1 : Int), .bool false]))] [(stBF c0 d0 c1 d1 false)] ⟨[(0, (.ref 8)), (1, (.ref 2)), (2, (.ref 3)), (6, .nil), (7, .nil), (9, (.bool false))], [(3, 0)]⟩ ⟨[(0, (.ref 8)), (1, (.ref 2)), (2, (.ref 3)), (6, (.ref 4)), (7, (.ref 7)), (9, (.bool false))], [(3, 0)]⟩ Wb 3 apl_o3 true := RA.of
   { calls := [c4 153 (.ref 2) (.ref 0) (.ref 3) (.ref 1) (.ref 4) fun w v0 v1 v2 v3 hb h0 h1 h2 h3 => kComb h0 h1 h2 h3 (by assumption) (by assumption) e1 hmx hU,
      c4 153 (.ref 3) (.ref 5) (.ref 2) (.ref 6) (.ref 7) fun w v0 v1 v2 v3 hb h0 h1 h2 h3 => kComb h0 h1 h2 h3 (by assumption) (by assumption) e2 (Nat.max_comm (len mm) (len nn) ▸ hmx) (Nat.max_comm (len mm) (len nn) ▸ hV)],
     loads := [⟨107, 0, 0, (.ref 0), fun w q h => loadS0 w q h⟩,
      ⟨107, 1, 0, (.ref 1), fun w q h => loadS1 w q h⟩,
      ⟨107, 3, 0, (.ref 5), fun w q h => loadS3 w q h⟩,
      ⟨107, 2, 0, (.ref 6), fun w q h => loadS2 w q h⟩],
     flds := [⟨127, 0, 0, fldS0⟩,
      ⟨127, 1, 1, fldS1⟩,
      ⟨127, 3, 3, fldS3⟩,
      ⟨127, 2, 2, fldS2⟩] } (by kernel_rfl)
end
set_option maxRecDepth 100000 in
theorem apply_odd (va vb:Value) (mm nn c0 d0 c1 d1 U V:Nat) (W:World) (ha:NatAt W va mm) (hb:NatAt W vb nn) (l0:c0<4294967296) (l1:d0<4294967296) (l2:c1<4294967296) (l3:d1<4294967296) (hmx:max (len mm) (len nn)≤1099511627776) (hU:len U≤max (len mm) (len nn)) (hV:len V≤max (len mm) (len nn)) (e1:U+c0*mm=d0*nn) (e2:V+d1*nn=c1*mm) :
  Calls Tryz.prog 141 #[.agg #[.int .u64 (c0:Int),.int .u64 (d0:Int),.int .u64 (c1:Int),.int .u64 (d1:Int),.bool true],va,vb] W (GivesP (tup2F (natF U) (natF V)) W):=by
 refine calls_stW (S:=[(0,(eqF (.agg #[.int .u64 (c0:Int),.int .u64 (d0:Int),.int .u64 (c1:Int),.int .u64 (d1:Int),.bool true]))),(1,(natF mm)),(2,(natF nn))]) Tryz.func141 (by kernel_rfl) Tryz.ntmps141 (by simp) (fun x hx=>?_) fun a w hst=>?_
 ·simp only [List.mem_cons,List.not_mem_nil,or_false] at hx
  rcases hx with rfl | rfl | rfl
  ·exact ⟨_,rfl,rfl⟩
  ·exact ⟨_,rfl,ha⟩
  ·exact ⟨_,rfl,hb⟩
 show Code.wp _ apl_n0 _ a w
 rw [apl_e0]
 refine wp_seq ?_
 rw [apl_e1]
 refine (apl_r0 l0 l1 l2 l3 hmx hU hV e1 e2).run hst ?_
 clear hst
 intro a w hst
 show Code.wp _ apl_n2 _ a w
 rw [apl_e2]
 refine wp_seq ?_
 rw [apl_e3]
 refine wp_seq ?_
 rw [apl_e5]
 refine (apl_r1 l0 l1 l2 l3 hmx hU hV e1 e2).run hst ?_
 clear hst
 intro a w hst
 show Code.wp _ apl_n6 _ a w
 rw [apl_e6]
 refine wp_cond_true (st_bool hst 5 rfl) ?_
 show Code.wp _ apl_n7 _ a w
 rw [apl_e7]
 refine wp_seq ?_
 rw [apl_e9]
 refine (apl_r2 l0 l1 l2 l3 hmx hU hV e1 e2).run hst ?_
 clear hst
 intro a w hst
 show Code.wp _ apl_n10 _ a w
 rw [apl_e10]
 refine wp_ret ?_
 exact ret_tmp2 hst rfl 3 rfl 4 rfl
set_option maxRecDepth 100000 in
theorem apply_even (va vb:Value) (mm nn c0 d0 c1 d1 U V:Nat) (W:World) (ha:NatAt W va mm) (hb:NatAt W vb nn) (l0:c0<4294967296) (l1:d0<4294967296) (l2:c1<4294967296) (l3:d1<4294967296) (hmx:max (len mm) (len nn)≤1099511627776) (hU:len U≤max (len mm) (len nn)) (hV:len V≤max (len mm) (len nn)) (e1:U+d0*nn=c0*mm) (e2:V+c1*mm=d1*nn) :
  Calls Tryz.prog 141 #[.agg #[.int .u64 (c0:Int),.int .u64 (d0:Int),.int .u64 (c1:Int),.int .u64 (d1:Int),.bool false],va,vb] W (GivesP (tup2F (natF U) (natF V)) W):=by
 refine calls_stW (S:=[(0,(eqF (.agg #[.int .u64 (c0:Int),.int .u64 (d0:Int),.int .u64 (c1:Int),.int .u64 (d1:Int),.bool false]))),(1,(natF mm)),(2,(natF nn))]) Tryz.func141 (by kernel_rfl) Tryz.ntmps141 (by simp) (fun x hx=>?_) fun a w hst=>?_
 ·simp only [List.mem_cons,List.not_mem_nil,or_false] at hx
  rcases hx with rfl | rfl | rfl
  ·exact ⟨_,rfl,rfl⟩
  ·exact ⟨_,rfl,ha⟩
  ·exact ⟨_,rfl,hb⟩
 show Code.wp _ apl_n0 _ a w
 rw [apl_e0]
 refine wp_seq ?_
 rw [apl_e1]
 refine (apl_r0b l0 l1 l2 l3 hmx hU hV e1 e2).run hst ?_
 clear hst
 intro a w hst
 show Code.wp _ apl_n2 _ a w
 rw [apl_e2]
 refine wp_seq ?_
 rw [apl_e3]
 refine wp_seq ?_
 rw [apl_e5]
 refine (apl_r1b l0 l1 l2 l3 hmx hU hV e1 e2).run hst ?_
 clear hst
 intro a w hst
 show Code.wp _ apl_n6 _ a w
 rw [apl_e6]
 refine wp_cond_false (st_bool hst 5 rfl) ?_
 show Code.wp _ apl_n8 _ a w
 rw [apl_e8]
 refine wp_skip ?_
 show Code.wp _ apl_n4 _ a w
 rw [apl_e4]
 refine wp_seq ?_
 rw [apl_e11]
 refine (apl_r3 l0 l1 l2 l3 hmx hU hV e1 e2).run hst ?_
 clear hst
 intro a w hst
 show Code.wp _ apl_n12 _ a w
 rw [apl_e12]
 refine wp_ret ?_
 exact ret_tmp2 hst rfl 3 rfl 4 rfl
end Go.Proofs.YtgaehhapjnbieaaGreat
namespace Go.Proofs.YtgaehhapjnbieaaGreat
open Go.RowKit
section
variable {ops : Array Oper} {N : Nat} {Wb W0 : World} {a0 : Act} {F : List PF} {BX : List BoxS} {AD : List (Nat × Nat × Nat)} {i : Nat} {g : Option (Nat × Bool)}
end
def StepsOk (p q a0 b0 a1 b1:Nat) (o:Bool):Prop:=a0<4294967296∧b0<4294967296∧a1<4294967296∧b1<4294967296∧(b0≠0→Good p q a0 b0 a1 b1 o)
def simF (p q:Nat):PF:=⟨fun v _=>∃ (a0 b0 a1 b1:Nat) (o:Bool),v = .agg #[.int .u64 (a0:Int),.int .u64 (b0:Int),.int .u64 (a1:Int),.int .u64 (b1:Int),.bool o]∧StepsOk p q a0 b0 a1 b1 o,fun _ _ _ _ h=>h⟩
def stExF (p q:Nat):CF:=⟨fun g w=>∃ (a0 b0 a1 b1:Nat) (o:Bool),StepsOk p q a0 b0 a1 b1 o∧(stBF a0 b0 a1 b1 o).p g w,
 fun g w w' hg e ⟨a0,b0,a1,b1,o,hk,h⟩=>⟨a0,b0,a1,b1,o,hk,(stBF a0 b0 a1 b1 o).st g w w' hg e h⟩,fun g w ⟨a0,b0,a1,b1,o,_,h⟩=>(stBF a0 b0 a1 b1 o).ty g w h⟩
theorem st_open {Wb:World} {N p q:Nat} {S:List (Nat × PF)} {a:Act} {w:World} (hst:St Wb N S [(5,stExF p q)] a w):∃ (a0 b0 a1 b1:Nat) (o:Bool),StepsOk p q a0 b0 a1 b1 o∧St Wb N S [(5,stBF a0 b0 a1 b1 o)] a w:=by
 obtain ⟨s1,s2,s3,s4,s5,s6,s7⟩:=hst
 obtain ⟨⟨g,h1,h2,a0,b0,a1,b1,o,hk,hb⟩,_⟩:=s6
 exact ⟨a0,b0,a1,b1,o,hk,s1,s2,s3,s4,s5,⟨⟨g,h1,h2,hb⟩,trivial⟩,by simp⟩
theorem allocS_run (w:World):(Instr.alloc 127 true (.tuple #[])).run Tryz.prog w = .ok (.pointer (some ⟨w.heap.size,0,none⟩)) (w.alloc (.cells #[.int .u64 0,.int .u64 0,.int .u64 0,.int .u64 0,.bool false] 127 (0,0))):=by simp [go_sem]
theorem allocS_old (w:World):(stBF 0 0 0 0 false).p w.heap.size (w.alloc (.cells #[.int .u64 0,.int .u64 0,.int .u64 0,.int .u64 0,.bool false] 127 (0,0))):=heap1 w _
theorem storeS {p q:Nat}:StoreOk 127 (stBF 0 0 0 0 false) (simF p q) (stExF p q):=by
 intro w g v h1 h2
 obtain ⟨a0,b0,a1,b1,o,rfl,hk⟩:=h2
 have hh:w.heap[g]? = some (.cells #[.int .u64 0,.int .u64 0,.int .u64 0,.int .u64 0,.bool false] 127 (0,0)):=h1
 have c0:w.cell? ⟨g,0,none⟩=some (.int .u64 0):=by rw [cell_of_row w g 0 _ _ (0,0) hh]; rfl
 have c1:w.cell? ⟨g,1,none⟩=some (.int .u64 0):=by rw [cell_of_row w g 1 _ _ (0,0) hh]; rfl
 have c2:w.cell? ⟨g,2,none⟩=some (.int .u64 0):=by rw [cell_of_row w g 2 _ _ (0,0) hh]; rfl
 have c3:w.cell? ⟨g,3,none⟩=some (.int .u64 0):=by rw [cell_of_row w g 3 _ _ (0,0) hh]; rfl
 have c4:w.cell? ⟨g,4,none⟩=some (.bool false):=by rw [cell_of_row w g 4 _ _ (0,0) hh]; rfl
 have f0:=frozen_of_row hh 0
 have f1:=frozen_of_row hh 1
 have f2:=frozen_of_row hh 2
 have f3:=frozen_of_row hh 3
 have f4:=frozen_of_row hh 4
 have hne:(127:TypeId)≠109:=by decide
 have k1:=block_setCell hh 0 (.int .u64 (a0:Int))
 have k2:=block_setCell k1 1 (.int .u64 (b0:Int))
 have k3:=block_setCell k2 2 (.int .u64 (a1:Int))
 have k4:=block_setCell k3 3 (.int .u64 (b1:Int))
 have k5:=block_setCell k4 4 (.bool o)
 refine ⟨((((w.setCell ⟨g,0,none⟩ (.int .u64 a0)).setCell ⟨g,1,none⟩ (.int .u64 b0)).setCell ⟨g,2,none⟩ (.int .u64 a1)).setCell ⟨g,3,none⟩ (.int .u64 b1)).setCell ⟨g,4,none⟩ (.bool o),by simp [go_sem,c0,c1,c2,c3,c4,f0,f1,f2,f3,f4],
  fun B W hq hB=>((((hB.setCell hq _).setCell hq _).setCell hq _).setCell hq _).setCell hq _,?_,fun j hj=>?_,⟨a0,b0,a1,b1,o,hk,k5⟩⟩
 ·exact ((((Grow.set hh hne 0 _).trans (Grow.set k1 hne 1 _)).trans (Grow.set k2 hne 2 _)).trans (Grow.set k3 hne 3 _)).trans (Grow.set k4 hne 4 _)
 ·exact (Below.heap_setCell _ _ _ j (by simpa using hj)).trans ((Below.heap_setCell _ _ _ j (by simpa using hj)).trans ((Below.heap_setCell _ _ _ j (by simpa using hj)).trans ((Below.heap_setCell _ _ _ j (by simpa using hj)).trans (Below.heap_setCell _ _ _ j (by simpa using hj)))))
theorem loadS {a0 b0 a1 b1:Nat} {o:Bool} (w:World) (q:Nat) (h:(stBF a0 b0 a1 b1 o).p q w):∃ v,(Instr.loadAt 127 (.pointer (some ⟨q,0,none⟩))).run Tryz.prog w = .ok v w∧(eqF (.agg #[.int .u64 (a0:Int),.int .u64 (b0:Int),.int .u64 (a1:Int),.int .u64 (b1:Int),.bool o])).p v w:=by
 have hh:w.heap[q]? = some (.cells #[.int .u64 (a0:Int),.int .u64 (b0:Int),.int .u64 (a1:Int),.int .u64 (b1:Int),.bool o] 127 (0,0)):=h
 have c0:w.cell? ⟨q,0,none⟩=some (.int .u64 (a0:Int)):=by rw [cell_of_row w q 0 _ _ (0,0) hh]; rfl
 have c1:w.cell? ⟨q,1,none⟩=some (.int .u64 (b0:Int)):=by rw [cell_of_row w q 1 _ _ (0,0) hh]; rfl
 have c2:w.cell? ⟨q,2,none⟩=some (.int .u64 (a1:Int)):=by rw [cell_of_row w q 2 _ _ (0,0) hh]; rfl
 have c3:w.cell? ⟨q,3,none⟩=some (.int .u64 (b1:Int)):=by rw [cell_of_row w q 3 _ _ (0,0) hh]; rfl
 have c4:w.cell? ⟨q,4,none⟩=some (.bool o):=by rw [cell_of_row w q 4 _ _ (0,0) hh]; rfl
 exact ⟨_,by simp [go_sem,c0,c1,c2,c3,c4],rfl⟩
theorem h_lenN {ρ:Operand→Value} {w:World} {x:Operand} {n:Nat} (hx:(natF n).p (ρ x) w):Yld (.call { callee:=.builtin .len,args:=#[x],argTypes:=#[32] }) ρ w (eqF (.int .i64 (len n:Int))):=by
 have hx:NatAt w (ρ x) n:=hx
 obtain ⟨A,c,e,_⟩:=hx
 exact h_len (show (eqF (.slice A (len n) c)).p (ρ x) w from e)
theorem cmpN_ge {x y:Nat} (h:y≤x):decide (cmpN x y<0)=false:=by
 rcases Nat.lt_or_eq_of_le h with h | h
 ·rw [cmpN_gt h]; decide
 ·rw [cmpN_eq h.symm]; decide
theorem len_ne {q:Nat} (h:0<q):((len q:Int) == 0)=false:=by
 have:len q≠0:=fun e=>by have:=len_eq_zero.1 e; omega
 simp
 omega
section
variable {w : World} {va vb : Value} {x y : Nat}
theorem kCompare (ha:(natF x).p va w) (hb:(natF y).p vb w) (hx:len x≤1099511627776) (hy:len y≤1099511627776):Calls Tryz.prog 129 #[va,vb] w (GivesP (eqF (.int .i64 (cmpN x y))) w):=by
 have ha:NatAt w va x:=ha
 have hb:NatAt w vb y:=hb
 obtain ⟨A,c,rfl,HA⟩:=ha.open_
 obtain ⟨B,d,rfl,HB⟩:=hb.open_
 exact (compare_b A B c d x y w HA.out HB.out hx hy).mono fun _ _ ⟨he,hb⟩=>⟨_,he,rfl,hb⟩
theorem kSimulate (ha:(natF x).p va w) (hb:(natF y).p vb w) (h3:3≤len x) (hla:len x≤1099511627776) (hba:y≤x):Calls Tryz.prog 139 #[va,vb] w (GivesP (simF x y) w):=
 (simulate_any va vb x y w ha hb h3 hla hba).mono fun _ _ ⟨a0,b0,a1,b1,o,he,k0,k1,k2,k3,k4,hb⟩=>⟨_,he,⟨a0,b0,a1,b1,o,rfl,k0,k1,k2,k3,k4⟩,hb⟩
theorem kDivide (ha:(natF x).p va w) (hb:(natF y).p vb w) (hx:len x≤1099511627775) (hy:len y≤1099511627775) (h0:0<y):Calls Tryz.prog 140 #[va,vb] w (GivesP (tup2F (natF (x / y)) (natF (x % y))) w):=
 (divide_any va vb x y w ha hb hx hy h0).mono fun _ _ ⟨vq,vr,he,hq,hr,hb⟩=>⟨_,he,⟨vq,vr,rfl,hq,hr⟩,hb⟩
theorem kToWord (ha:(natF x).p va w) (hx:x<18446744073709551616):Calls Tryz.prog 143 #[va] w (GivesP (eqF (.int .u64 (x:Int))) w):=by
 have ha:NatAt w va x:=ha
 obtain ⟨A,c,rfl,HA⟩:=ha.open_
 exact (toWord_any A c x w HA.out.mem.2.2 hx).mono fun _ _ ⟨he,hw⟩=>⟨_,he,rfl,hw ▸ Below.refl _ _⟩
theorem kWordDivisor (ha:(eqF (.int .u64 (x:Int))).p va w) (hb:(eqF (.int .u64 (y:Int))).p vb w) (hx:x<18446744073709551616) (hy:y<18446744073709551616):Calls Tryz.prog 142 #[va,vb] w (GivesP (eqF (.int .u64 (Nat.gcd x y:Nat))) w):=by
 have ha:va = .int .u64 (x:Int):=ha
 have hb:vb = .int .u64 (y:Int):=hb
 subst ha hb
 exact (wordDivisor_any x y w hx hy).mono fun _ _ ⟨he,hb⟩=>⟨_,he,rfl,hb⟩
theorem kFromWord (ha:(eqF (.int .u64 (x:Int))).p va w) (hx:x<18446744073709551616):Calls Tryz.prog 128 #[va] w (GivesP (natF x) w):=by
 have ha:va = .int .u64 (x:Int):=ha
 subst ha
 exact fromWord_any x w hx
theorem kApply {vs:Value} {p q c0 d0 c1 d1 U V:Nat} {o:Bool} (hs:(eqF (.agg #[.int .u64 (c0:Int),.int .u64 (d0:Int),.int .u64 (c1:Int),.int .u64 (d1:Int),.bool o])).p vs w) (ha:(natF p).p va w) (hb:(natF q).p vb w) (hok:StepsOk p q c0 d0 c1 d1 o) (hUV:if o then U+c0*p=d0*q∧V+d1*q=c1*p else U+d0*q=c0*p∧V+c1*p=d1*q) (hU:U<p) (hV:V<q) (bp:len p≤1099511627775) (bq:len q≤1099511627775) :
  Calls Tryz.prog 141 #[vs,va,vb] w (GivesP (tup2F (natF U) (natF V)) w):=by
 have hs:vs = .agg #[.int .u64 (c0:Int),.int .u64 (d0:Int),.int .u64 (c1:Int),.int .u64 (d1:Int),.bool o]:=hs
 subst hs
 have h1:=len_mono (Nat.le_of_lt hU)
 have h2:=len_mono (Nat.le_of_lt hV)
 obtain ⟨k0,k1,k2,k3,_⟩:=hok
 cases o
 ·simp only [Bool.false_eq_true,if_false] at hUV
  exact apply_even va vb p q c0 d0 c1 d1 U V w ha hb k0 k1 k2 k3 (by omega) (by omega) (by omega) hUV.1 hUV.2
 ·simp only [if_true] at hUV
  exact apply_odd va vb p q c0 d0 c1 d1 U V w ha hb k0 k1 k2 k3 (by omega) (by omega) (by omega) hUV.1 hUV.2
end
noncomputable def dsr_n0:Code:=bodyOf Tryz.f130
noncomputable def dsr_n1:Code:=cl dsr_n0
noncomputable def dsr_n2:Code:=cr dsr_n0
theorem dsr_e0:dsr_n0 = .seq dsr_n1 dsr_n2:=by kernel_rfl
noncomputable def dsr_o0:Array Oper:=opsOf dsr_n1
theorem dsr_e1:dsr_n1 = .region 0 dsr_o0 false:=by kernel_rfl
noncomputable def dsr_n3:Code:=cl dsr_n2
noncomputable def dsr_n4:Code:=cr dsr_n2
theorem dsr_e2:dsr_n2 = .seq dsr_n3 dsr_n4:=by kernel_rfl
noncomputable def dsr_n5:Code:=cl dsr_n3
noncomputable def dsr_n6:Code:=cr dsr_n3
theorem dsr_e3:dsr_n3 = .seq dsr_n5 dsr_n6:=by kernel_rfl
noncomputable def dsr_o1:Array Oper:=opsOf dsr_n5
theorem dsr_e5:dsr_n5 = .region 1 dsr_o1 false:=by kernel_rfl
noncomputable def dsr_n7:Code:=cl dsr_n6
noncomputable def dsr_n8:Code:=cr dsr_n6
theorem dsr_e6:dsr_n6 = .cond (.tmp 13) dsr_n7 dsr_n8:=by kernel_rfl
noncomputable def dsr_o2:Array Oper:=opsOf dsr_n7
theorem dsr_e7:dsr_n7 = .region 2 dsr_o2 false:=by kernel_rfl
theorem dsr_e8:dsr_n8 = .skip:=by kernel_rfl
noncomputable def dsr_n9:Code:=cl dsr_n4
noncomputable def dsr_n10:Code:=cr dsr_n4
theorem dsr_e4:dsr_n4 = .seq dsr_n9 dsr_n10:=by kernel_rfl
noncomputable def dsr_n11:Code:=cl dsr_n9
theorem dsr_e9:dsr_n9 = .block 0 dsr_n11:=by kernel_rfl
noncomputable def dsr_n12:Code:=cl dsr_n11
theorem dsr_e11:dsr_n11 = .loop dsr_n12:=by kernel_rfl
noncomputable def dsr_n13:Code:=cl dsr_n12
noncomputable def dsr_n14:Code:=cr dsr_n12
theorem dsr_e12:dsr_n12 = .seq dsr_n13 dsr_n14:=by kernel_rfl
noncomputable def dsr_n15:Code:=cl dsr_n13
noncomputable def dsr_n16:Code:=cr dsr_n13
theorem dsr_e13:dsr_n13 = .seq dsr_n15 dsr_n16:=by kernel_rfl
noncomputable def dsr_o3:Array Oper:=opsOf dsr_n15
theorem dsr_e15:dsr_n15 = .region 3 dsr_o3 false:=by kernel_rfl
noncomputable def dsr_n17:Code:=cl dsr_n16
noncomputable def dsr_n18:Code:=cr dsr_n16
theorem dsr_e16:dsr_n16 = .cond (.tmp 18) dsr_n17 dsr_n18:=by kernel_rfl
theorem dsr_e17:dsr_n17 = .skip:=by kernel_rfl
theorem dsr_e18:dsr_n18 = .exit 0:=by kernel_rfl
noncomputable def dsr_n19:Code:=cl dsr_n14
theorem dsr_e14:dsr_n14 = .block 1 dsr_n19:=by kernel_rfl
noncomputable def dsr_n20:Code:=cl dsr_n19
noncomputable def dsr_n21:Code:=cr dsr_n19
theorem dsr_e19:dsr_n19 = .seq dsr_n20 dsr_n21:=by kernel_rfl
noncomputable def dsr_o4:Array Oper:=opsOf dsr_n20
theorem dsr_e20:dsr_n20 = .region 4 dsr_o4 false:=by kernel_rfl
noncomputable def dsr_n22:Code:=cl dsr_n21
noncomputable def dsr_n23:Code:=cr dsr_n21
theorem dsr_e21:dsr_n21 = .seq dsr_n22 dsr_n23:=by kernel_rfl
noncomputable def dsr_o5:Array Oper:=opsOf dsr_n22
theorem dsr_e22:dsr_n22 = .region 5 dsr_o5 false:=by kernel_rfl
noncomputable def dsr_n24:Code:=cl dsr_n23
noncomputable def dsr_n25:Code:=cr dsr_n23
theorem dsr_e23:dsr_n23 = .cond (.tmp 24) dsr_n24 dsr_n25:=by kernel_rfl
noncomputable def dsr_n26:Code:=cl dsr_n24
noncomputable def dsr_n27:Code:=cr dsr_n24
theorem dsr_e24:dsr_n24 = .seq dsr_n26 dsr_n27:=by kernel_rfl
noncomputable def dsr_o6:Array Oper:=opsOf dsr_n26
theorem dsr_e26:dsr_n26 = .region 6 dsr_o6 false:=by kernel_rfl
noncomputable def dsr_o7:Array Oper:=opsOf dsr_n27
theorem dsr_e27:dsr_n27 = .region 7 dsr_o7 false:=by kernel_rfl
noncomputable def dsr_o8:Array Oper:=opsOf dsr_n25
theorem dsr_e25:dsr_n25 = .region 8 dsr_o8 false:=by kernel_rfl
noncomputable def dsr_n28:Code:=cl dsr_n10
noncomputable def dsr_n29:Code:=cr dsr_n10
theorem dsr_e10:dsr_n10 = .seq dsr_n28 dsr_n29:=by kernel_rfl
noncomputable def dsr_n30:Code:=cl dsr_n28
noncomputable def dsr_n31:Code:=cr dsr_n28
theorem dsr_e28:dsr_n28 = .seq dsr_n30 dsr_n31:=by kernel_rfl
noncomputable def dsr_o9:Array Oper:=opsOf dsr_n30
theorem dsr_e30:dsr_n30 = .region 9 dsr_o9 false:=by kernel_rfl
noncomputable def dsr_n32:Code:=cl dsr_n31
noncomputable def dsr_n33:Code:=cr dsr_n31
theorem dsr_e31:dsr_n31 = .cond (.tmp 42) dsr_n32 dsr_n33:=by kernel_rfl
noncomputable def dsr_n34:Code:=cl dsr_n32
noncomputable def dsr_n35:Code:=cr dsr_n32
theorem dsr_e32:dsr_n32 = .seq dsr_n34 dsr_n35:=by kernel_rfl
noncomputable def dsr_o10:Array Oper:=opsOf dsr_n34
theorem dsr_e34:dsr_n34 = .region 10 dsr_o10 false:=by kernel_rfl
theorem dsr_e35:dsr_n35 = .ret:=by kernel_rfl
theorem dsr_e33:dsr_n33 = .skip:=by kernel_rfl
noncomputable def dsr_n36:Code:=cl dsr_n29
noncomputable def dsr_n37:Code:=cr dsr_n29
theorem dsr_e29:dsr_n29 = .seq dsr_n36 dsr_n37:=by kernel_rfl
noncomputable def dsr_o11:Array Oper:=opsOf dsr_n36
theorem dsr_e36:dsr_n36 = .region 11 dsr_o11 false:=by kernel_rfl
noncomputable def dsr_n38:Code:=cl dsr_n37
noncomputable def dsr_n39:Code:=cr dsr_n37
theorem dsr_e37:dsr_n37 = .seq dsr_n38 dsr_n39:=by kernel_rfl
noncomputable def dsr_o12:Array Oper:=opsOf dsr_n38
theorem dsr_e38:dsr_n38 = .region 12 dsr_o12 false:=by kernel_rfl
theorem dsr_e39:dsr_n39 = .ret:=by kernel_rfl
section
set_option maxRecDepth 100000
set_option linter.unusedSectionVars false
variable {Wb : World}
theorem dsr_r0 {pp qq:Nat} (hlp:len pp≤1099511627775) (hlq:len qq≤1099511627775) (lt:pp<qq):RA 56 [(natF pp),(natF qq)] [] ⟨[(0,(.ref 0)),(1,(.ref 1))],[]⟩ ⟨[(0,(.ref 0)),(1,(.ref 1)),(4,.nil)],[]⟩ Wb 0 dsr_o0 false:=RA.of
   {  } (by kernel_rfl)
theorem dsr_r1 {pp qq : Nat} (hlp : len pp ≤ 1099511627775) (hlq : len qq ≤ 1099511627775) (lt : pp < qq) : RA 56 [(natF pp), (natF qq), (eqF (.int .i64 (cmpN pp qq)))] [] ⟨[(0, (.ref 0)), (1, (.ref 1)), (4, .nil)], []⟩ ⟨[(0, (.ref 0)), (1, (.ref 1)), (4, .nil), (13, (.bool true))], []⟩ Wb 1 dsr_o1 false := RA.of
   { pures := [p2 (.bin .lss 3 3) (.ref 2) (.int .i64 0) (.bool true) fun _ _ _ _ _ hx hy => h_lss (r := true) (by rw [cmpN_lt lt]; decide) hx hy],
     calls := [c2 129 (.ref 0) (.ref 1) (.ref 2) fun w v0 v1 hb h0 h1 => kCompare h0 h1 (by omega) (by omega)] } (by kernel_rfl)
theorem dsr_r2 {pp qq:Nat} (hlp:len pp≤1099511627775) (hlq:len qq≤1099511627775) (lt:pp<qq):RA 56 [(natF pp),(natF qq)] [] ⟨[(0,(.ref 0)),(1,(.ref 1)),(4,.nil),(13,(.bool true))],[]⟩ ⟨[(0,(.ref 1)),(1,(.ref 0)),(4,.nil),(13,(.bool true))],[]⟩ Wb 2 dsr_o2 false:=RA.of
   {  } (by kernel_rfl)
theorem dsr_r3 {p q:Nat} (hqp:q≤p) (bp:len p≤1099511627775) (bq:len q≤1099511627775) (h3:3≤len q):RA 56 [(natF q),(eqF (.int .i64 (len q:Int))),(natF p)] [] ⟨[(0,(.ref 2)),(1,(.ref 0))],[]⟩ ⟨[(0,(.ref 2)),(1,(.ref 0)),(18,(.bool true))],[]⟩ Wb 3 dsr_o3 false:=RA.of
   { pures:=[p1 (.blt .len [32]) (.ref 0) (.ref 1) fun _ _ _ _ hx=>h_lenN hx,
      p2 (.bin .gtr 3 3) (.ref 1) (.int .i64 2) (.bool true) fun _ _ _ _ _ hx hy=>h_gtr (r:=true) (by simp; omega) hx hy] } (by kernel_rfl)
theorem dsr_r4 {p q : Nat} (hqp : q ≤ p) (bp : len p ≤ 1099511627775) (bq : len q ≤ 1099511627775) (h3 : 3 ≤ len q) : RA 56 [(natF p), (natF q), (simF p q)] [(stBF 0 0 0 0 false), (stExF p q)] ⟨[(0, (.ref 0)), (1, (.ref 1)), (18, (.bool true))], []⟩ ⟨[(0, (.ref 0)), (1, (.ref 1)), (18, (.bool true))], [(5, 1)]⟩ Wb 4 dsr_o4 false := RA.of
   { calls := [c2 139 (.ref 0) (.ref 1) (.ref 2) fun w v0 v1 hb h0 h1 => kSimulate h0 h1 (by have := len_mono hqp; omega) (by omega) hqp],
     allocs := [⟨127, 0, _, allocS_run, allocS_old⟩],
     stores := [⟨127, 0, 0, (.ref 2), 1, storeS⟩] } (by kernel_rfl)
theorem dsr_r5 {p q : Nat} (hqp : q ≤ p) (bp : len p ≤ 1099511627775) (bq : len q ≤ 1099511627775) (h3 : 3 ≤ len q) {c0 d0 c1 d1 : Nat} {o : Bool} (hok : StepsOk p q c0 d0 c1 d1 o) (hz : d0 = 0) (q0 : 0 < q) : RA 56 [(eqF (.int .u64 (d0 : Int))), (natF p), (natF q)] [(stBF c0 d0 c1 d1 o)] ⟨[(0, (.ref 1)), (1, (.ref 2)), (18, (.bool true))], [(5, 0)]⟩ ⟨[(0, (.ref 1)), (1, (.ref 2)), (18, (.bool true)), (24, (.bool true))], [(5, 0)]⟩ Wb 5 dsr_o5 false := RA.of
   { pures := [p2 (.bin .eql 107 107) (.ref 0) (.int .u64 0) (.bool true) fun _ _ _ _ _ hx hy => h_eqlI (r := true) (by simp; omega) hx hy],
     loads := [⟨107, 1, 0, (.ref 0), fun w q h => loadS1 w q h⟩],
     flds := [⟨127, 1, 1, fldS1⟩] } (by kernel_rfl)
theorem dsr_r6 {p q:Nat} (hqp:q≤p) (bp:len p≤1099511627775) (bq:len q≤1099511627775) (h3:3≤len q) {c0 d0 c1 d1:Nat} {o:Bool} (hok:StepsOk p q c0 d0 c1 d1 o) (hz:d0=0) (q0:0<q):RA 56 [(natF p),(natF q),(natF (p / q)),(natF (p % q))] [(stBF c0 d0 c1 d1 o)] ⟨[(0,(.ref 0)),(1,(.ref 1)),(18,(.bool true)),(24,(.bool true))],[(5,0)]⟩ ⟨[(0,(.ref 0)),(1,(.ref 1)),(7,(.ref 3)),(18,(.bool true)),(24,(.bool true))],[(5,0)]⟩ Wb 6 dsr_o6 false:=RA.of
   { calls:=[c2 140 (.ref 0) (.ref 1) (.tup2 (.ref 2) (.ref 3)) fun w v0 v1 hb h0 h1=>kDivide h0 h1 (by omega) (by omega) q0] } (by kernel_rfl)
theorem dsr_r7 {p q:Nat} (hqp:q≤p) (bp:len p≤1099511627775) (bq:len q≤1099511627775) (h3:3≤len q) {c0 d0 c1 d1:Nat} {o:Bool} (hok:StepsOk p q c0 d0 c1 d1 o) (hz:d0=0) (q0:0<q):RA 56 [(natF p),(natF q),(natF (p % q))] [(stBF c0 d0 c1 d1 o)] ⟨[(0,(.ref 0)),(1,(.ref 1)),(7,(.ref 2)),(18,(.bool true)),(24,(.bool true))],[(5,0)]⟩ ⟨[(0,(.ref 1)),(1,(.ref 2)),(7,(.ref 2)),(18,(.bool true)),(24,(.bool true))],[(5,0)]⟩ Wb 7 dsr_o7 false:=RA.of
   {  } (by kernel_rfl)
theorem dsr_r5b {p q : Nat} (hqp : q ≤ p) (bp : len p ≤ 1099511627775) (bq : len q ≤ 1099511627775) (h3 : 3 ≤ len q) {c0 d0 c1 d1 : Nat} {o : Bool} (hok : StepsOk p q c0 d0 c1 d1 o) (hz : d0 ≠ 0) {U V : Nat} (hUV : if o then U + c0 * p = d0 * q ∧ V + d1 * q = c1 * p else U + d0 * q = c0 * p ∧ V + c1 * p = d1 * q) (hU : U < p) (hV : V < q) : RA 56 [(eqF (.int .u64 (d0 : Int))), (natF p), (natF q)] [(stBF c0 d0 c1 d1 o)] ⟨[(0, (.ref 1)), (1, (.ref 2)), (18, (.bool true))], [(5, 0)]⟩ ⟨[(0, (.ref 1)), (1, (.ref 2)), (18, (.bool true)), (24, (.bool false))], [(5, 0)]⟩ Wb 5 dsr_o5 false := RA.of
   { pures := [p2 (.bin .eql 107 107) (.ref 0) (.int .u64 0) (.bool false) fun _ _ _ _ _ hx hy => h_eqlI (r := false) (by simp; omega) hx hy],
     loads := [⟨107, 1, 0, (.ref 0), fun w q h => loadS1 w q h⟩],
     flds := [⟨127, 1, 1, fldS1⟩] } (by kernel_rfl)
theorem dsr_r8 {p q : Nat} (hqp : q ≤ p) (bp : len p ≤ 1099511627775) (bq : len q ≤ 1099511627775) (h3 : 3 ≤ len q) {c0 d0 c1 d1 : Nat} {o : Bool} (hok : StepsOk p q c0 d0 c1 d1 o) (hz : d0 ≠ 0) {U V : Nat} (hUV : if o then U + c0 * p = d0 * q ∧ V + d1 * q = c1 * p else U + d0 * q = c0 * p ∧ V + c1 * p = d1 * q) (hU : U < p) (hV : V < q) : RA 56 [(eqF (.agg #[.int .u64 (c0 : Int), .int .u64 (d0 : Int), .int .u64 (c1 : Int), .int .u64 (d1 : Int), .bool o])), (natF p), (natF q), (natF U), (natF V)] [(stBF c0 d0 c1 d1 o)] ⟨[(0, (.ref 1)), (1, (.ref 2)), (18, (.bool true)), (24, (.bool false))], [(5, 0)]⟩ ⟨[(0, (.ref 3)), (1, (.ref 4)), (18, (.bool true)), (24, (.bool false))], [(5, 0)]⟩ Wb 8 dsr_o8 false := RA.of
   { calls := [c3 141 (.ref 0) (.ref 1) (.ref 2) (.tup2 (.ref 3) (.ref 4)) fun w v0 v1 v2 hb h0 h1 h2 => kApply h0 h1 h2 hok hUV hU hV bp bq],
     loads := [⟨127, 0, 0, (.ref 0), fun w q h => loadS w q h⟩] } (by kernel_rfl)
theorem dsr_r3b {p q:Nat} (hqp:q≤p) (bp:len p≤1099511627775) (bq:len q≤1099511627775) (h3:len q≤2):RA 56 [(natF q),(eqF (.int .i64 (len q:Int))),(natF p)] [] ⟨[(0,(.ref 2)),(1,(.ref 0))],[]⟩ ⟨[(0,(.ref 2)),(1,(.ref 0)),(18,(.bool false))],[]⟩ Wb 3 dsr_o3 false:=RA.of
   { pures:=[p1 (.blt .len [32]) (.ref 0) (.ref 1) fun _ _ _ _ hx=>h_lenN hx,
      p2 (.bin .gtr 3 3) (.ref 1) (.int .i64 2) (.bool false) fun _ _ _ _ _ hx hy=>h_gtr (r:=false) (by simp; omega) hx hy] } (by kernel_rfl)
theorem dsr_r9 {p q:Nat} (hqp:q≤p) (bp:len p≤1099511627775) (bq:len q≤1099511627775) (q0:q=0):RA 56 [(natF q),(eqF (.int .i64 (len q:Int))),(natF p)] [] ⟨[(0,(.ref 2)),(1,(.ref 0)),(18,(.bool false))],[]⟩ ⟨[(0,(.ref 2)),(1,(.ref 0)),(18,(.bool false)),(42,(.bool true))],[]⟩ Wb 9 dsr_o9 false:=RA.of
   { pures:=[p1 (.blt .len [32]) (.ref 0) (.ref 1) fun _ _ _ _ hx=>h_lenN hx,
      p2 (.bin .eql 3 3) (.ref 1) (.int .i64 0) (.bool true) fun _ _ _ _ _ hx hy=>h_eqlI (r:=true) (by rw [q0,len_zero]; rfl) hx hy] } (by kernel_rfl)
theorem dsr_r10 {p q:Nat} (hqp:q≤p) (bp:len p≤1099511627775) (bq:len q≤1099511627775) (q0:q=0):RA 56 [(natF p),(natF q)] [] ⟨[(0,(.ref 0)),(1,(.ref 1)),(18,(.bool false)),(42,(.bool true))],[]⟩ ⟨[(0,(.ref 0)),(1,(.ref 1)),(4,(.ref 0)),(18,(.bool false)),(42,(.bool true))],[]⟩ Wb 10 dsr_o10 false:=RA.of
   {  } (by kernel_rfl)
theorem dsr_r9b {p q:Nat} (hqp:q≤p) (bp:len p≤1099511627775) (bq:len q≤1099511627775) (q0:0<q) (q64:q<18446744073709551616):RA 56 [(natF q),(eqF (.int .i64 (len q:Int))),(natF p)] [] ⟨[(0,(.ref 2)),(1,(.ref 0)),(18,(.bool false))],[]⟩ ⟨[(0,(.ref 2)),(1,(.ref 0)),(18,(.bool false)),(42,(.bool false))],[]⟩ Wb 9 dsr_o9 false:=RA.of
   { pures:=[p1 (.blt .len [32]) (.ref 0) (.ref 1) fun _ _ _ _ hx=>h_lenN hx,
      p2 (.bin .eql 3 3) (.ref 1) (.int .i64 0) (.bool false) fun _ _ _ _ _ hx hy=>h_eqlI (r:=false) (len_ne q0) hx hy] } (by kernel_rfl)
theorem dsr_r11 {p q:Nat} (hqp:q≤p) (bp:len p≤1099511627775) (bq:len q≤1099511627775) (q0:0<q) (q64:q<18446744073709551616):RA 56 [(natF p),(natF q),(natF (p / q)),(natF (p % q))] [] ⟨[(0,(.ref 0)),(1,(.ref 1)),(18,(.bool false)),(42,(.bool false))],[]⟩ ⟨[(0,(.ref 0)),(1,(.ref 1)),(9,(.ref 3)),(18,(.bool false)),(42,(.bool false))],[]⟩ Wb 11 dsr_o11 false:=RA.of
   { calls:=[c2 140 (.ref 0) (.ref 1) (.tup2 (.ref 2) (.ref 3)) fun w v0 v1 hb h0 h1=>kDivide h0 h1 (by omega) (by omega) q0] } (by kernel_rfl)
theorem dsr_r12 {p q:Nat} (hqp:q≤p) (bp:len p≤1099511627775) (bq:len q≤1099511627775) (q0:0<q) (q64:q<18446744073709551616):RA 56 [(natF q),(eqF (.int .u64 ((q:Nat):Int))),(natF (p % q)),(eqF (.int .u64 (((p % q):Nat):Int))),(eqF (.int .u64 ((Nat.gcd q (p % q):Nat):Int))),(natF (Nat.gcd q (p % q))),(natF p)] [] ⟨[(0,(.ref 6)),(1,(.ref 0)),(9,(.ref 2)),(18,(.bool false)),(42,(.bool false))],[]⟩ ⟨[(0,(.ref 6)),(1,(.ref 0)),(4,(.ref 5)),(9,(.ref 2)),(18,(.bool false)),(42,(.bool false))],[]⟩ Wb 12 dsr_o12 false:=RA.of
   { calls:=[c1 143 (.ref 0) (.ref 1) fun w v0 hb h0=>kToWord h0 q64,
      c1 143 (.ref 2) (.ref 3) fun w v0 hb h0=>kToWord h0 (Nat.lt_trans (Nat.mod_lt _ q0) q64),
      c2 142 (.ref 1) (.ref 3) (.ref 4) fun w v0 v1 hb h0 h1=>kWordDivisor h0 h1 q64 (Nat.lt_trans (Nat.mod_lt _ q0) q64),
      c1 128 (.ref 4) (.ref 5) fun w v0 hb h0=>kFromWord h0 (Nat.lt_of_le_of_lt (Nat.le_of_dvd q0 (Nat.gcd_dvd_left _ _)) q64)] } (by kernel_rfl)
theorem dsr_r0b {pp qq:Nat} (hlp:len pp≤1099511627775) (hlq:len qq≤1099511627775) (lt:qq≤pp):RA 56 [(natF pp),(natF qq)] [] ⟨[(0,(.ref 0)),(1,(.ref 1))],[]⟩ ⟨[(0,(.ref 0)),(1,(.ref 1)),(4,.nil)],[]⟩ Wb 0 dsr_o0 false:=RA.of
   {  } (by kernel_rfl)
theorem dsr_r1b {pp qq : Nat} (hlp : len pp ≤ 1099511627775) (hlq : len qq ≤ 1099511627775) (lt : qq ≤ pp) : RA 56 [(natF pp), (natF qq), (eqF (.int .i64 (cmpN pp qq)))] [] ⟨[(0, (.ref 0)), (1, (.ref 1)), (4, .nil)], []⟩ ⟨[(0, (.ref 0)), (1, (.ref 1)), (4, .nil), (13, (.bool false))], []⟩ Wb 1 dsr_o1 false := RA.of
   { pures := [p2 (.bin .lss 3 3) (.ref 2) (.int .i64 0) (.bool false) fun _ _ _ _ _ hx hy => h_lss (r := false) (cmpN_ge lt) hx hy],
     calls := [c2 129 (.ref 0) (.ref 1) (.ref 2) fun w v0 v1 hb h0 h1 => kCompare h0 h1 (by omega) (by omega)] } (by kernel_rfl)
end
set_option maxRecDepth 100000 in
theorem divisor_any (va vb:Value) (pp qq:Nat) (W:World) (ha:NatAt W va pp) (hb:NatAt W vb qq) (hlp:len pp≤1099511627775) (hlq:len qq≤1099511627775) :
  Calls Tryz.prog 130 #[va,vb] W (GivesP (natF (Nat.gcd pp qq)) W):=by
 refine calls_stW (S:=[(0,(natF pp)),(1,(natF qq))]) Tryz.func130 (by kernel_rfl) Tryz.ntmps130 (by simp) (fun x hx=>?_) fun a w hst=>?_
 ·simp only [List.mem_cons,List.not_mem_nil,or_false] at hx
  rcases hx with rfl | rfl
  ·exact ⟨_,rfl,ha⟩
  ·exact ⟨_,rfl,hb⟩
 show Code.wp _ dsr_n0 _ a w
 rcases Nat.lt_or_ge pp qq with lt | lt
 ·rw [dsr_e0]
  refine wp_seq ?_
  rw [dsr_e1]
  refine (dsr_r0 hlp hlq lt).run hst ?_
  clear hst
  intro a w hst
  show Code.wp _ dsr_n2 _ a w
  rw [dsr_e2]
  refine wp_seq ?_
  rw [dsr_e3]
  refine wp_seq ?_
  rw [dsr_e5]
  refine (dsr_r1 hlp hlq lt).run hst ?_
  clear hst
  intro a w hst
  show Code.wp _ dsr_n6 _ a w
  rw [dsr_e6]
  refine wp_cond_true (st_bool hst 3 rfl) ?_
  show Code.wp _ dsr_n7 _ a w
  rw [dsr_e7]
  refine (dsr_r2 hlp hlq lt).run hst ?_
  clear hst
  intro a w hst
  show Code.wp _ dsr_n4 _ a w
  rw [dsr_e4]
  refine wp_seq ?_
  rw [dsr_e9]
  refine wp_block ?_
  show Code.wp _ dsr_n11 _ a w
  rw [dsr_e11]
  refine loop_ghost (fun (z:Nat × Nat) a w=>St W 56 [(0,(natF z.1)),(1,(natF z.2))] [] a w∧z.2≤z.1∧z.1≤max pp qq∧Nat.gcd z.1 z.2=Nat.gcd pp qq) (fun z=>z.2) ?_ (qq,pp) ⟨hst.to ⟨hst.slots.get (k:=0) rfl,hst.slots.get (k:=1) rfl,trivial⟩,by show pp≤qq; omega,by show qq≤max pp qq; omega,Nat.gcd_comm _ _⟩
  rintro ⟨p,q⟩ a w ⟨hst,hqp,hpm,hg⟩
  simp only [] at hst hqp hpm hg
  have bm:len (max pp qq)≤1099511627775:=by rcases Nat.le_total pp qq with h | h; (rw [Nat.max_eq_right h]; exact hlq); (rw [Nat.max_eq_left h]; exact hlp)
  have bp:len p≤1099511627775:=Nat.le_trans (len_mono hpm) bm
  have bq:len q≤1099511627775:=Nat.le_trans (len_mono hqp) bp
  show Code.wp _ dsr_n12 _ a w
  rcases Nat.lt_or_ge 2 (len q) with h3 | h3
  ·have h3:3≤len q:=h3
   rw [dsr_e12]
   refine wp_seq ?_
   rw [dsr_e13]
   refine wp_seq ?_
   rw [dsr_e15]
   refine (dsr_r3 hqp bp bq h3).run hst ?_
   clear hst
   intro a w hst
   show Code.wp _ dsr_n16 _ a w
   rw [dsr_e16]
   refine wp_cond_true (st_bool hst 2 rfl) ?_
   show Code.wp _ dsr_n17 _ a w
   rw [dsr_e17]
   refine wp_skip ?_
   show Code.wp _ dsr_n14 _ a w
   rw [dsr_e14]
   refine wp_block ?_
   show Code.wp _ dsr_n19 _ a w
   rw [dsr_e19]
   refine wp_seq ?_
   rw [dsr_e20]
   refine (dsr_r4 hqp bp bq h3).run hst ?_
   clear hst
   intro a w hst
   obtain ⟨c0,d0,c1,d1,o,hok,hst⟩:=st_open hst
   by_cases hz:d0=0
   ·have q0:0<q:=by rcases Nat.eq_zero_or_pos q with h | h; (rw [h,len_zero] at h3; omega); exact h
    show Code.wp _ dsr_n21 _ a w
    rw [dsr_e21]
    refine wp_seq ?_
    rw [dsr_e22]
    refine (dsr_r5 hqp bp bq h3 hok hz q0).run hst ?_
    clear hst
    intro a w hst
    show Code.wp _ dsr_n23 _ a w
    rw [dsr_e23]
    refine wp_cond_true (st_bool hst 3 rfl) ?_
    show Code.wp _ dsr_n24 _ a w
    rw [dsr_e24]
    refine wp_seq ?_
    rw [dsr_e26]
    refine (dsr_r6 hqp bp bq h3 hok hz q0).run hst ?_
    clear hst
    intro a w hst
    show Code.wp _ dsr_n27 _ a w
    rw [dsr_e27]
    refine (dsr_r7 hqp bp bq h3 hok hz q0).run hst ?_
    clear hst
    intro a w hst
    exact ⟨(q,p % q),⟨((hst.to (S':=[(0,(natF q)),(1,(natF (p % q)))]) ⟨hst.slots.get (k:=0) rfl,hst.slots.get (k:=1) rfl,trivial⟩).firstB 0),Nat.le_of_lt (Nat.mod_lt _ q0),by show q≤max pp qq; omega,by show Nat.gcd q (p % q)=_; rw [← hg,Nat.gcd_comm p q,Nat.gcd_rec q p,Nat.gcd_comm]⟩,Nat.mod_lt _ q0⟩
   ·obtain ⟨U,V,hUV,hgU,hU,hV,hVU⟩:=hok.2.2.2.2 hz
    show Code.wp _ dsr_n21 _ a w
    rw [dsr_e21]
    refine wp_seq ?_
    rw [dsr_e22]
    refine (dsr_r5b hqp bp bq h3 hok hz hUV hU hV).run hst ?_
    clear hst
    intro a w hst
    show Code.wp _ dsr_n23 _ a w
    rw [dsr_e23]
    refine wp_cond_false (st_bool hst 3 rfl) ?_
    show Code.wp _ dsr_n25 _ a w
    rw [dsr_e25]
    refine (dsr_r8 hqp bp bq h3 hok hz hUV hU hV).run hst ?_
    clear hst
    intro a w hst
    exact ⟨(U,V),⟨((hst.to (S':=[(0,(natF U)),(1,(natF V))]) ⟨hst.slots.get (k:=0) rfl,hst.slots.get (k:=1) rfl,trivial⟩).firstB 0),hVU,by show U≤max pp qq; omega,by show Nat.gcd U V=_; rw [hgU,hg]⟩,hV⟩
  ·rw [dsr_e12]
   refine wp_seq ?_
   rw [dsr_e13]
   refine wp_seq ?_
   rw [dsr_e15]
   refine (dsr_r3b hqp bp bq h3).run hst ?_
   clear hst
   intro a w hst
   show Code.wp _ dsr_n16 _ a w
   rw [dsr_e16]
   refine wp_cond_false (st_bool hst 2 rfl) ?_
   show Code.wp _ dsr_n18 _ a w
   rw [dsr_e18]
   refine wp_exit ?_
   rcases Nat.eq_zero_or_pos q with q0 | q0
   ·have e0:p=Nat.gcd pp qq:=by rw [← hg,q0,Nat.gcd_zero_right]
    show Code.wp _ dsr_n10 _ a w
    rw [dsr_e10]
    refine wp_seq ?_
    rw [dsr_e28]
    refine wp_seq ?_
    rw [dsr_e30]
    refine (dsr_r9 hqp bp bq q0).run hst ?_
    clear hst
    intro a w hst
    show Code.wp _ dsr_n31 _ a w
    rw [dsr_e31]
    refine wp_cond_true (st_bool hst 3 rfl) ?_
    show Code.wp _ dsr_n32 _ a w
    rw [dsr_e32]
    refine wp_seq ?_
    rw [dsr_e34]
    refine (dsr_r10 hqp bp bq q0).run hst ?_
    clear hst
    intro a w hst
    show Code.wp _ dsr_n35 _ a w
    rw [dsr_e35]
    refine wp_ret ?_
    rw [e0] at hst
    exact ret_tmp hst rfl 2 rfl
   ·have q64:q<18446744073709551616:=Nat.lt_of_lt_of_le (lt_pow_len q) (Nat.pow_le_pow_right (n:=4294967296) (by decide) h3)
    show Code.wp _ dsr_n10 _ a w
    rw [dsr_e10]
    refine wp_seq ?_
    rw [dsr_e28]
    refine wp_seq ?_
    rw [dsr_e30]
    refine (dsr_r9b hqp bp bq q0 q64).run hst ?_
    clear hst
    intro a w hst
    show Code.wp _ dsr_n31 _ a w
    rw [dsr_e31]
    refine wp_cond_false (st_bool hst 3 rfl) ?_
    show Code.wp _ dsr_n33 _ a w
    rw [dsr_e33]
    refine wp_skip ?_
    show Code.wp _ dsr_n29 _ a w
    rw [dsr_e29]
    refine wp_seq ?_
    rw [dsr_e36]
    refine (dsr_r11 hqp bp bq q0 q64).run hst ?_
    clear hst
    intro a w hst
    show Code.wp _ dsr_n37 _ a w
    rw [dsr_e37]
    refine wp_seq ?_
    rw [dsr_e38]
    refine (dsr_r12 hqp bp bq q0 q64).run hst ?_
    clear hst
    intro a w hst
    show Code.wp _ dsr_n39 _ a w
    rw [dsr_e39]
    refine wp_ret ?_
    have e0:Nat.gcd q (p % q)=Nat.gcd pp qq:=by rw [← hg,Nat.gcd_comm p q,Nat.gcd_rec q p,Nat.gcd_comm]
    rw [e0] at hst
    exact ret_tmp hst rfl 2 rfl
 ·rw [dsr_e0]
  refine wp_seq ?_
  rw [dsr_e1]
  refine (dsr_r0b hlp hlq lt).run hst ?_
  clear hst
  intro a w hst
  show Code.wp _ dsr_n2 _ a w
  rw [dsr_e2]
  refine wp_seq ?_
  rw [dsr_e3]
  refine wp_seq ?_
  rw [dsr_e5]
  refine (dsr_r1b hlp hlq lt).run hst ?_
  clear hst
  intro a w hst
  show Code.wp _ dsr_n6 _ a w
  rw [dsr_e6]
  refine wp_cond_false (st_bool hst 3 rfl) ?_
  show Code.wp _ dsr_n8 _ a w
  rw [dsr_e8]
  refine wp_skip ?_
  show Code.wp _ dsr_n4 _ a w
  rw [dsr_e4]
  refine wp_seq ?_
  rw [dsr_e9]
  refine wp_block ?_
  show Code.wp _ dsr_n11 _ a w
  rw [dsr_e11]
  refine loop_ghost (fun (z:Nat × Nat) a w=>St W 56 [(0,(natF z.1)),(1,(natF z.2))] [] a w∧z.2≤z.1∧z.1≤max pp qq∧Nat.gcd z.1 z.2=Nat.gcd pp qq) (fun z=>z.2) ?_ (pp,qq) ⟨hst.to ⟨hst.slots.get (k:=0) rfl,hst.slots.get (k:=1) rfl,trivial⟩,by show qq≤pp; omega,by show pp≤max pp qq; omega,rfl⟩
  rintro ⟨p,q⟩ a w ⟨hst,hqp,hpm,hg⟩
  simp only [] at hst hqp hpm hg
  have bm:len (max pp qq)≤1099511627775:=by rcases Nat.le_total pp qq with h | h; (rw [Nat.max_eq_right h]; exact hlq); (rw [Nat.max_eq_left h]; exact hlp)
  have bp:len p≤1099511627775:=Nat.le_trans (len_mono hpm) bm
  have bq:len q≤1099511627775:=Nat.le_trans (len_mono hqp) bp
  show Code.wp _ dsr_n12 _ a w
  rcases Nat.lt_or_ge 2 (len q) with h3 | h3
  ·have h3:3≤len q:=h3
   rw [dsr_e12]
   refine wp_seq ?_
   rw [dsr_e13]
   refine wp_seq ?_
   rw [dsr_e15]
   refine (dsr_r3 hqp bp bq h3).run hst ?_
   clear hst
   intro a w hst
   show Code.wp _ dsr_n16 _ a w
   rw [dsr_e16]
   refine wp_cond_true (st_bool hst 2 rfl) ?_
   show Code.wp _ dsr_n17 _ a w
   rw [dsr_e17]
   refine wp_skip ?_
   show Code.wp _ dsr_n14 _ a w
   rw [dsr_e14]
   refine wp_block ?_
   show Code.wp _ dsr_n19 _ a w
   rw [dsr_e19]
   refine wp_seq ?_
   rw [dsr_e20]
   refine (dsr_r4 hqp bp bq h3).run hst ?_
   clear hst
   intro a w hst
   obtain ⟨c0,d0,c1,d1,o,hok,hst⟩:=st_open hst
   by_cases hz:d0=0
   ·have q0:0<q:=by rcases Nat.eq_zero_or_pos q with h | h; (rw [h,len_zero] at h3; omega); exact h
    show Code.wp _ dsr_n21 _ a w
    rw [dsr_e21]
    refine wp_seq ?_
    rw [dsr_e22]
    refine (dsr_r5 hqp bp bq h3 hok hz q0).run hst ?_
    clear hst
    intro a w hst
    show Code.wp _ dsr_n23 _ a w
    rw [dsr_e23]
    refine wp_cond_true (st_bool hst 3 rfl) ?_
    show Code.wp _ dsr_n24 _ a w
    rw [dsr_e24]
    refine wp_seq ?_
    rw [dsr_e26]
    refine (dsr_r6 hqp bp bq h3 hok hz q0).run hst ?_
    clear hst
    intro a w hst
    show Code.wp _ dsr_n27 _ a w
    rw [dsr_e27]
    refine (dsr_r7 hqp bp bq h3 hok hz q0).run hst ?_
    clear hst
    intro a w hst
    exact ⟨(q,p % q),⟨((hst.to (S':=[(0,(natF q)),(1,(natF (p % q)))]) ⟨hst.slots.get (k:=0) rfl,hst.slots.get (k:=1) rfl,trivial⟩).firstB 0),Nat.le_of_lt (Nat.mod_lt _ q0),by show q≤max pp qq; omega,by show Nat.gcd q (p % q)=_; rw [← hg,Nat.gcd_comm p q,Nat.gcd_rec q p,Nat.gcd_comm]⟩,Nat.mod_lt _ q0⟩
   ·obtain ⟨U,V,hUV,hgU,hU,hV,hVU⟩:=hok.2.2.2.2 hz
    show Code.wp _ dsr_n21 _ a w
    rw [dsr_e21]
    refine wp_seq ?_
    rw [dsr_e22]
    refine (dsr_r5b hqp bp bq h3 hok hz hUV hU hV).run hst ?_
    clear hst
    intro a w hst
    show Code.wp _ dsr_n23 _ a w
    rw [dsr_e23]
    refine wp_cond_false (st_bool hst 3 rfl) ?_
    show Code.wp _ dsr_n25 _ a w
    rw [dsr_e25]
    refine (dsr_r8 hqp bp bq h3 hok hz hUV hU hV).run hst ?_
    clear hst
    intro a w hst
    exact ⟨(U,V),⟨((hst.to (S':=[(0,(natF U)),(1,(natF V))]) ⟨hst.slots.get (k:=0) rfl,hst.slots.get (k:=1) rfl,trivial⟩).firstB 0),hVU,by show U≤max pp qq; omega,by show Nat.gcd U V=_; rw [hgU,hg]⟩,hV⟩
  ·rw [dsr_e12]
   refine wp_seq ?_
   rw [dsr_e13]
   refine wp_seq ?_
   rw [dsr_e15]
   refine (dsr_r3b hqp bp bq h3).run hst ?_
   clear hst
   intro a w hst
   show Code.wp _ dsr_n16 _ a w
   rw [dsr_e16]
   refine wp_cond_false (st_bool hst 2 rfl) ?_
   show Code.wp _ dsr_n18 _ a w
   rw [dsr_e18]
   refine wp_exit ?_
   rcases Nat.eq_zero_or_pos q with q0 | q0
   ·have e0:p=Nat.gcd pp qq:=by rw [← hg,q0,Nat.gcd_zero_right]
    show Code.wp _ dsr_n10 _ a w
    rw [dsr_e10]
    refine wp_seq ?_
    rw [dsr_e28]
    refine wp_seq ?_
    rw [dsr_e30]
    refine (dsr_r9 hqp bp bq q0).run hst ?_
    clear hst
    intro a w hst
    show Code.wp _ dsr_n31 _ a w
    rw [dsr_e31]
    refine wp_cond_true (st_bool hst 3 rfl) ?_
    show Code.wp _ dsr_n32 _ a w
    rw [dsr_e32]
    refine wp_seq ?_
    rw [dsr_e34]
    refine (dsr_r10 hqp bp bq q0).run hst ?_
    clear hst
    intro a w hst
    show Code.wp _ dsr_n35 _ a w
    rw [dsr_e35]
    refine wp_ret ?_
    rw [e0] at hst
    exact ret_tmp hst rfl 2 rfl
   ·have q64:q<18446744073709551616:=Nat.lt_of_lt_of_le (lt_pow_len q) (Nat.pow_le_pow_right (n:=4294967296) (by decide) h3)
    show Code.wp _ dsr_n10 _ a w
    rw [dsr_e10]
    refine wp_seq ?_
    rw [dsr_e28]
    refine wp_seq ?_
    rw [dsr_e30]
    refine (dsr_r9b hqp bp bq q0 q64).run hst ?_
    clear hst
    intro a w hst
    show Code.wp _ dsr_n31 _ a w
    rw [dsr_e31]
    refine wp_cond_false (st_bool hst 3 rfl) ?_
    show Code.wp _ dsr_n33 _ a w
    rw [dsr_e33]
    refine wp_skip ?_
    show Code.wp _ dsr_n29 _ a w
    rw [dsr_e29]
    refine wp_seq ?_
    rw [dsr_e36]
    refine (dsr_r11 hqp bp bq q0 q64).run hst ?_
    clear hst
    intro a w hst
    show Code.wp _ dsr_n37 _ a w
    rw [dsr_e37]
    refine wp_seq ?_
    rw [dsr_e38]
    refine (dsr_r12 hqp bp bq q0 q64).run hst ?_
    clear hst
    intro a w hst
    show Code.wp _ dsr_n39 _ a w
    rw [dsr_e39]
    refine wp_ret ?_
    have e0:Nat.gcd q (p % q)=Nat.gcd pp qq:=by rw [← hg,Nat.gcd_comm p q,Nat.gcd_rec q p,Nat.gcd_comm]
    rw [e0] at hst
    exact ret_tmp hst rfl 2 rfl
end Go.Proofs.YtgaehhapjnbieaaGreat
