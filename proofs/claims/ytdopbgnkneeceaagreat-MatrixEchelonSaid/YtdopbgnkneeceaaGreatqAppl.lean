/- The steps, applied (written by wip/tools/gen_apply.py). -/
import Derived.Test.YtdopbgnkneeceaaGreatqSim
import Derived.Test.YtdopbgnkneeceaaGreatqComb
set_option linter.unusedSectionVars false
set_option linter.unusedVariables false
set_option linter.unusedSimpArgs false
set_option maxRecDepth 100000
namespace Go.Proofs.YtdopbgnkneeceaaGreat
open Go.RowKit
section
variable {ops : Array Oper} {N : Nat} {Wb W0 : World} {a0 : Act} {F : List PF} {BX : List Bm} {AD : List (Nat × Nat × Nat)} {i : Nat} {g : Option (Nat × Bool)}
end
def En(a0 b0 a1 b1:Nat)(o:Bool):CF:=Afq #[.int .u64 (a0:Int),.int .u64 (b0:Int),.int .u64 (a1:Int),.int .u64 (b1:Int),.bool o] 134 (by decide)
theorem SR{a0 b0 a1 b1:Nat}{o:Bool}(w:World)(v:Value)(h:(Am (.agg #[.int .u64 (a0:Int),.int .u64 (b0:Int),.int .u64 (a1:Int),.int .u64 (b1:Int),.bool o])).p v w):∃ ob,(Instr.box 134 v).run Tryz.prog w = .ok (.pointer (some ⟨w.heap.size,0,none⟩)) (w.alloc ob)∧(En a0 b0 a1 b1 o).p w.heap.size (w.alloc ob):=by
 have h:v = .agg #[.int .u64 (a0:Int),.int .u64 (b0:Int),.int .u64 (a1:Int),.int .u64 (b1:Int),.bool o]:=h;subst h;exact ⟨.cells #[.int .u64 (a0:Int),.int .u64 (b0:Int),.int .u64 (a1:Int),.int .u64 (b1:Int),.bool o] 134 (0,0),by simp [go_sem],Io w _⟩
theorem AbF(q:Nat)(w:World):(Instr.fieldAt 134 (.pointer (some ⟨q,0,none⟩)) 0).run Tryz.prog w = .ok (.pointer (some ⟨q,0,none⟩)) w:=by simp [go_sem]
theorem lB{a0 b0 a1 b1:Nat}{o:Bool}(w:World)(q:Nat)(h:(En a0 b0 a1 b1 o).p q w):∃ v,(Instr.loadAt 112 (.pointer (some ⟨q,0,none⟩))).run Tryz.prog w = .ok v w∧(Am (.int .u64 (a0:Int))).p v w:=by
 have hh:w.heap[q]? = some (.cells #[.int .u64 (a0:Int),.int .u64 (b0:Int),.int .u64 (a1:Int),.int .u64 (b1:Int),.bool o] 134 (0,0)):=h;have h0:w.cell? ⟨q,0,none⟩=some (.int .u64 (a0:Int)):=by rw [cell_of_row w q 0 _ _ (0,0) hh]; rfl
 exact ⟨_,by simp [go_sem,h0],rfl⟩
theorem Zn(q:Nat)(w:World):(Instr.fieldAt 134 (.pointer (some ⟨q,0,none⟩)) 1).run Tryz.prog w = .ok (.pointer (some ⟨q,1,none⟩)) w:=by simp [go_sem]
theorem Pn{a0 b0 a1 b1:Nat}{o:Bool}(w:World)(q:Nat)(h:(En a0 b0 a1 b1 o).p q w):∃ v,(Instr.loadAt 112 (.pointer (some ⟨q,1,none⟩))).run Tryz.prog w = .ok v w∧(Am (.int .u64 (b0:Int))).p v w:=by
 have hh:w.heap[q]? = some (.cells #[.int .u64 (a0:Int),.int .u64 (b0:Int),.int .u64 (a1:Int),.int .u64 (b1:Int),.bool o] 134 (0,0)):=h;have h0:w.cell? ⟨q,1,none⟩=some (.int .u64 (b0:Int)):=by rw [cell_of_row w q 1 _ _ (0,0) hh]; rfl
 exact ⟨_,by simp [go_sem,h0],rfl⟩
theorem AbZ(q:Nat)(w:World):(Instr.fieldAt 134 (.pointer (some ⟨q,0,none⟩)) 2).run Tryz.prog w = .ok (.pointer (some ⟨q,2,none⟩)) w:=by simp [go_sem]
theorem iO{a0 b0 a1 b1:Nat}{o:Bool}(w:World)(q:Nat)(h:(En a0 b0 a1 b1 o).p q w):∃ v,(Instr.loadAt 112 (.pointer (some ⟨q,2,none⟩))).run Tryz.prog w = .ok v w∧(Am (.int .u64 (a1:Int))).p v w:=by
 have hh:w.heap[q]? = some (.cells #[.int .u64 (a0:Int),.int .u64 (b0:Int),.int .u64 (a1:Int),.int .u64 (b1:Int),.bool o] 134 (0,0)):=h;have h0:w.cell? ⟨q,2,none⟩=some (.int .u64 (a1:Int)):=by rw [cell_of_row w q 2 _ _ (0,0) hh]; rfl
 exact ⟨_,by simp [go_sem,h0],rfl⟩
theorem Ab0(q:Nat)(w:World):(Instr.fieldAt 134 (.pointer (some ⟨q,0,none⟩)) 3).run Tryz.prog w = .ok (.pointer (some ⟨q,3,none⟩)) w:=by simp [go_sem]
theorem sZ{a0 b0 a1 b1:Nat}{o:Bool}(w:World)(q:Nat)(h:(En a0 b0 a1 b1 o).p q w):∃ v,(Instr.loadAt 112 (.pointer (some ⟨q,3,none⟩))).run Tryz.prog w = .ok v w∧(Am (.int .u64 (b1:Int))).p v w:=by
 have hh:w.heap[q]? = some (.cells #[.int .u64 (a0:Int),.int .u64 (b0:Int),.int .u64 (a1:Int),.int .u64 (b1:Int),.bool o] 134 (0,0)):=h;have h0:w.cell? ⟨q,3,none⟩=some (.int .u64 (b1:Int)):=by rw [cell_of_row w q 3 _ _ (0,0) hh]; rfl
 exact ⟨_,by simp [go_sem,h0],rfl⟩
theorem Abr(q:Nat)(w:World):(Instr.fieldAt 134 (.pointer (some ⟨q,0,none⟩)) 4).run Tryz.prog w = .ok (.pointer (some ⟨q,4,none⟩)) w:=by simp [go_sem]
theorem sY{a0 b0 a1 b1:Nat}{o:Bool}(w:World)(q:Nat)(h:(En a0 b0 a1 b1 o).p q w):∃ v,(Instr.loadAt 4 (.pointer (some ⟨q,4,none⟩))).run Tryz.prog w = .ok v w∧(Am (.bool o)).p v w:=by
 have hh:w.heap[q]? = some (.cells #[.int .u64 (a0:Int),.int .u64 (b0:Int),.int .u64 (a1:Int),.int .u64 (b1:Int),.bool o] 134 (0,0)):=h;have h0:w.cell? ⟨q,4,none⟩=some (.bool o):=by rw [cell_of_row w q 4 _ _ (0,0) hh]; rfl
 exact ⟨_,by simp [go_sem,h0],rfl⟩
theorem Zv{w:World}{va vp vb vq:Value}{x y p q z:Nat}(ha:(Aw x).p va w)(hvp:(Am (.int .u64 (p:Int))).p vp w)(hb:(Aw y).p vb w)(hvq:(Am (.int .u64 (q:Int))).p vq w)(hp:p<4294967296)(hq:q<4294967296)(hz:z+q*y=p*x)(hm:max (len x) (len y)≤1099511627776)(hzl:len z≤max (len x) (len y)) :
  Calls Tryz.prog 141 #[va,vp,vb,vq] w (Aj (Aw z) w):=by
 have hvp:vp = .int .u64 (p:Int):=hvp;have hvq:vq = .int .u64 (q:Int):=hvq;subst hvp hvq;have ha:AB w va x:=ha;have hb:AB w vb y:=hb;obtain ⟨A,c,rfl,HA⟩:=ha.open_;obtain ⟨B,d,rfl,HB⟩:=hb.open_
 rcases Nat.lt_or_ge (len x) (len y) with h | h
 ·exact UW A B c d p q x y z w HA.out.mem.2.2 HB.out.mem.2.2 hp hq h (by omega) hz (by omega)
 ·exact UO A B c d p q x y z w HA.out.mem.2.2 HB.out.mem.2.2 hp hq h (by omega) hz (by omega)
theorem SG{Wb:World}{N:Nat}{S:List (Nat × PF)}{B:List (Nat × CF)}{a:Act}{w:World}{fn:Func}{t t':Nat}{R R':PF}(hst:St Wb N S B a w)(hr:fn.results = #[.tmp t,.tmp t'])(k:Nat)(hk:S[k]? = some (t,R))(k':Nat)(hk':S[k']? = some (t',R')):bodyPost Tryz.prog fn (Aj (B7 R R') Wb) .ret a w:=by
 obtain ⟨v,h1,h2⟩:=hst.slots.get hk;obtain ⟨v',h1',h2'⟩:=hst.slots.get hk';refine bodyPost_ret (v:=.tuple #[v,v']) ?_ hst.defers ⟨_,rfl,⟨_,_,rfl,h2,h2'⟩,hst.below⟩;simp [results,hr,go_sem,Array.getD_eq_getD_getElem?,h1,h1']
noncomputable def Nl:=DH Tryz.f127
noncomputable def Vn:=cl Nl
noncomputable def Kb:=cr Nl
theorem oT:Nl = .seq Vn Kb:=by kernel_rfl
noncomputable def Xe:=Ba Vn
theorem rA:Vn = .region 0 Xe false:=by kernel_rfl
noncomputable def RN:=cl Kb
noncomputable def NA:=cr Kb
theorem kX:Kb = .seq RN NA:=by kernel_rfl
noncomputable def Wu:=cl RN
noncomputable def J8:=cr RN
theorem mA:RN = .seq Wu J8:=by kernel_rfl
noncomputable def UN:=Ba Wu
theorem qK:Wu = .region 1 UN false:=by kernel_rfl
noncomputable def Md:=cl J8
noncomputable def Vj:=cr J8
theorem rJ:J8 = .cond (.tmp 9) Md Vj:=by kernel_rfl
noncomputable def Xj:=cl Md
noncomputable def Rx:=cr Md
theorem Ac4:Md = .seq Xj Rx:=by kernel_rfl
noncomputable def sQ:=Ba Xj
theorem Ady:Xj = .region 2 sQ true:=by kernel_rfl
theorem zY:Rx = .ret:=by kernel_rfl
theorem Ado:Vj = .skip:=by kernel_rfl
noncomputable def RJ:=cl NA
noncomputable def Rh:=cr NA
theorem AeM:NA = .seq RJ Rh:=by kernel_rfl
noncomputable def qS:=Ba RJ
theorem xM:RJ = .region 3 qS true:=by kernel_rfl
theorem xE:Rh = .ret:=by kernel_rfl
section
set_option linter.unusedSectionVars false
variable {Wb : World} {mm nn c0 d0 c1 d1 U V : Nat} (l0 : c0 < 4294967296) (l1 : d0 < 4294967296) (l2 : c1 < 4294967296) (l3 : d1 < 4294967296) (hmx : max (len mm) (len nn) ≤ 1099511627776) (hU : len U ≤ max (len mm) (len nn)) (hV : len V ≤ max (len mm) (len nn))
include l0 l1 l2 l3 hmx hU hV
theorem AcN(e1:U+c0*mm=d0*nn)(e2:V+d1*nn=c1*mm):RA 38 [(Am (.agg #[.int .u64 (c0:Int),.int .u64 (d0:Int),.int .u64 (c1:Int),.int .u64 (d1:Int),.bool true])),(Aw mm),(Aw nn)] [(En c0 d0 c1 d1 true)] ⟨[(0,(.ref 0)),(1,(.ref 1)),(2,(.ref 2))],[]⟩ ⟨[(0,(.ref 0)),(1,(.ref 1)),(2,(.ref 2)),(6,.nil),(7,.nil)],[(3,0)]⟩ Wb 0 Xe false:=RA.of
   { boxes:=[⟨134,(.ref 0),0,λw v h=>SR w v h⟩] } (by kernel_rfl)
theorem AdJ(e1:U+c0*mm=d0*nn)(e2:V+d1*nn=c1*mm):RA 38 [(Am (.agg #[.int .u64 (c0:Int),.int .u64 (d0:Int),.int .u64 (c1:Int),.int .u64 (d1:Int),.bool true])),(Aw mm),(Aw nn)] [(En c0 d0 c1 d1 true)] ⟨[(0,(.ref 0)),(1,(.ref 1)),(2,(.ref 2)),(6,.nil),(7,.nil)],[(3,0)]⟩ ⟨[(0,(.ref 0)),(1,(.ref 1)),(2,(.ref 2)),(6,.nil),(7,.nil),(9,(.bool true))],[(3,0)]⟩ Wb 1 UN false:=RA.of
   { loads:=[⟨4,4,0,(.bool true),λw q h=>sY w q h⟩],
     flds:=[⟨134,4,4,Abr⟩] } (by kernel_rfl)
theorem Afi(e1:U+c0*mm=d0*nn)(e2:V+d1*nn=c1*mm):RA 38 [(Am (.int .u64 (d0:Int))),(Am (.int .u64 (c0:Int))),(Aw nn),(Aw mm),(Aw U),(Am (.int .u64 (c1:Int))),(Am (.int .u64 (d1:Int))),(Aw V),(Am (.agg #[.int .u64 (c0:Int),.int .u64 (d0:Int),.int .u64 (c1:Int),.int .u64 (d1:Int),.bool true]))] [(En c0 d0 c1 d1 true)] ⟨[(0,(.ref 8)),(1,(.ref 3)),(2,(.ref 2)),(6,.nil),(7,.nil),(9,(.bool true))],[(3,0)]⟩ ⟨[(0,(.ref 8)),(1,(.ref 3)),(2,(.ref 2)),(6,(.ref 4)),(7,(.ref 7)),(9,(.bool true))],[(3,0)]⟩ Wb 2 sQ true:=RA.of
   { calls:=[c4 141 (.ref 2) (.ref 0) (.ref 3) (.ref 1) (.ref 4) λw v0 v1 v2 v3 hb h0 h1 h2 h3=>Zv h0 h1 h2 h3 (by assumption) (by assumption) e1 (Nat.max_comm (len mm) (len nn) ▸ hmx) (Nat.max_comm (len mm) (len nn) ▸ hU),
      c4 141 (.ref 3) (.ref 5) (.ref 2) (.ref 6) (.ref 7) λw v0 v1 v2 v3 hb h0 h1 h2 h3=>Zv h0 h1 h2 h3 (by assumption) (by assumption) e2 hmx hV],
     loads:=[⟨112,1,0,(.ref 0),λw q h=>Pn w q h⟩,
      ⟨112,0,0,(.ref 1),λw q h=>lB w q h⟩,
      ⟨112,2,0,(.ref 5),λw q h=>iO w q h⟩,
      ⟨112,3,0,(.ref 6),λw q h=>sZ w q h⟩],
     flds:=[⟨134,1,1,Zn⟩,
      ⟨134,0,0,AbF⟩,
      ⟨134,2,2,AbZ⟩,
      ⟨134,3,3,Ab0⟩] } (by kernel_rfl)
theorem yG(e1:U+d0*nn=c0*mm)(e2:V+c1*mm=d1*nn):RA 38 [(Am (.agg #[.int .u64 (c0:Int),.int .u64 (d0:Int),.int .u64 (c1:Int),.int .u64 (d1:Int),.bool false])),(Aw mm),(Aw nn)] [(En c0 d0 c1 d1 false)] ⟨[(0,(.ref 0)),(1,(.ref 1)),(2,(.ref 2))],[]⟩ ⟨[(0,(.ref 0)),(1,(.ref 1)),(2,(.ref 2)),(6,.nil),(7,.nil)],[(3,0)]⟩ Wb 0 Xe false:=RA.of
   { boxes:=[⟨134,(.ref 0),0,λw v h=>SR w v h⟩] } (by kernel_rfl)
theorem vH(e1:U+d0*nn=c0*mm)(e2:V+c1*mm=d1*nn):RA 38 [(Am (.agg #[.int .u64 (c0:Int),.int .u64 (d0:Int),.int .u64 (c1:Int),.int .u64 (d1:Int),.bool false])),(Aw mm),(Aw nn)] [(En c0 d0 c1 d1 false)] ⟨[(0,(.ref 0)),(1,(.ref 1)),(2,(.ref 2)),(6,.nil),(7,.nil)],[(3,0)]⟩ ⟨[(0,(.ref 0)),(1,(.ref 1)),(2,(.ref 2)),(6,.nil),(7,.nil),(9,(.bool false))],[(3,0)]⟩ Wb 1 UN false:=RA.of
   { loads:=[⟨4,4,0,(.bool false),λw q h=>sY w q h⟩],
     flds:=[⟨134,4,4,Abr⟩] } (by kernel_rfl)
theorem Af5(e1:U+d0*nn=c0*mm)(e2:V+c1*mm=d1*nn):RA 38 [(Am (.int .u64 (c0:Int))),(Am (.int .u64 (d0:Int))),(Aw mm),(Aw nn),(Aw U),(Am (.int .u64 (d1:Int))),(Am (.int .u64 (c1:Int))),(Aw V),(Am (.agg #[.int .u64 (c0:Int),.int .u64 (d0:Int),.int .u64 (c1:Int),.int .u64 (d1:Int),.bool false]))] [(En c0 d0 c1 d1 false)] ⟨[(0,(.ref 8)),(1,(.ref 2)),(2,(.ref 3)),(6,.nil),(7,.nil),(9,(.bool false))],[(3,0)]⟩ ⟨[(0,(.ref 8)),(1,(.ref 2)),(2,(.ref 3)),(6,(.ref 4)),(7,(.ref 7)),(9,(.bool false))],[(3,0)]⟩ Wb 3 qS true:=RA.of
   { calls:=[c4 141 (.ref 2) (.ref 0) (.ref 3) (.ref 1) (.ref 4) λw v0 v1 v2 v3 hb h0 h1 h2 h3=>Zv h0 h1 h2 h3 (by assumption) (by assumption) e1 hmx hU,
      c4 141 (.ref 3) (.ref 5) (.ref 2) (.ref 6) (.ref 7) λw v0 v1 v2 v3 hb h0 h1 h2 h3=>Zv h0 h1 h2 h3 (by assumption) (by assumption) e2 (Nat.max_comm (len mm) (len nn) ▸ hmx) (Nat.max_comm (len mm) (len nn) ▸ hV)],
     loads:=[⟨112,0,0,(.ref 0),λw q h=>lB w q h⟩,
      ⟨112,1,0,(.ref 1),λw q h=>Pn w q h⟩,
      ⟨112,3,0,(.ref 5),λw q h=>sZ w q h⟩,
      ⟨112,2,0,(.ref 6),λw q h=>iO w q h⟩],
     flds:=[⟨134,0,0,AbF⟩,
      ⟨134,1,1,Zn⟩,
      ⟨134,3,3,Ab0⟩,
      ⟨134,2,2,AbZ⟩] } (by kernel_rfl)
end
theorem fA(va vb:Value)(mm nn c0 d0 c1 d1 U V:Nat)(W:World)(ha:AB W va mm)(hb:AB W vb nn)(l0:c0<4294967296)(l1:d0<4294967296)(l2:c1<4294967296)(l3:d1<4294967296)(hmx:max (len mm) (len nn)≤1099511627776)(hU:len U≤max (len mm) (len nn))(hV:len V≤max (len mm) (len nn))(e1:U+c0*mm=d0*nn)(e2:V+d1*nn=c1*mm) :
  Calls Tryz.prog 127 #[.agg #[.int .u64 (c0:Int),.int .u64 (d0:Int),.int .u64 (c1:Int),.int .u64 (d1:Int),.bool true],va,vb] W (Aj (B7 (Aw U) (Aw V)) W):=by
 refine Do (S:=[(0,(Am (.agg #[.int .u64 (c0:Int),.int .u64 (d0:Int),.int .u64 (c1:Int),.int .u64 (d1:Int),.bool true]))),(1,(Aw mm)),(2,(Aw nn))]) Tryz.func127 (by kernel_rfl) Tryz.ntmps127 (by simp) (λx hx=>?_) λa w hst=>?_
 ·simp only [List.mem_cons,List.not_mem_nil,or_false] at hx
  rcases hx with rfl | rfl | rfl
  ·exact ⟨_,rfl,rfl⟩
  ·exact ⟨_,rfl,ha⟩
  ·exact ⟨_,rfl,hb⟩
 show Code.wp _ Nl _ a w;rw [oT];refine wp_seq ?_;rw [rA];refine (AcN l0 l1 l2 l3 hmx hU hV e1 e2).run hst ?_;clear hst;intro a w hst;show Code.wp _ Kb _ a w;rw [kX];refine wp_seq ?_;rw [mA];refine wp_seq ?_;rw [qK];refine (AdJ l0 l1 l2 l3 hmx hU hV e1 e2).run hst ?_;clear hst;intro a w hst;show Code.wp _ J8 _ a w;rw [rJ];refine wp_cond_true (A7 hst 5 rfl) ?_;show Code.wp _ Md _ a w;rw [Ac4];refine wp_seq ?_;rw [Ady];refine (Afi l0 l1 l2 l3 hmx hU hV e1 e2).run hst ?_;clear hst;intro a w hst;show Code.wp _ Rx _ a w;rw [zY];refine wp_ret ?_;exact SG hst rfl 3 rfl 4 rfl
theorem WX(va vb:Value)(mm nn c0 d0 c1 d1 U V:Nat)(W:World)(ha:AB W va mm)(hb:AB W vb nn)(l0:c0<4294967296)(l1:d0<4294967296)(l2:c1<4294967296)(l3:d1<4294967296)(hmx:max (len mm) (len nn)≤1099511627776)(hU:len U≤max (len mm) (len nn))(hV:len V≤max (len mm) (len nn))(e1:U+d0*nn=c0*mm)(e2:V+c1*mm=d1*nn) :
  Calls Tryz.prog 127 #[.agg #[.int .u64 (c0:Int),.int .u64 (d0:Int),.int .u64 (c1:Int),.int .u64 (d1:Int),.bool false],va,vb] W (Aj (B7 (Aw U) (Aw V)) W):=by
 refine Do (S:=[(0,(Am (.agg #[.int .u64 (c0:Int),.int .u64 (d0:Int),.int .u64 (c1:Int),.int .u64 (d1:Int),.bool false]))),(1,(Aw mm)),(2,(Aw nn))]) Tryz.func127 (by kernel_rfl) Tryz.ntmps127 (by simp) (λx hx=>?_) λa w hst=>?_
 ·simp only [List.mem_cons,List.not_mem_nil,or_false] at hx
  rcases hx with rfl | rfl | rfl
  ·exact ⟨_,rfl,rfl⟩
  ·exact ⟨_,rfl,ha⟩
  ·exact ⟨_,rfl,hb⟩
 show Code.wp _ Nl _ a w;rw [oT];refine wp_seq ?_;rw [rA];refine (yG l0 l1 l2 l3 hmx hU hV e1 e2).run hst ?_;clear hst;intro a w hst;show Code.wp _ Kb _ a w;rw [kX];refine wp_seq ?_;rw [mA];refine wp_seq ?_;rw [qK];refine (vH l0 l1 l2 l3 hmx hU hV e1 e2).run hst ?_;clear hst;intro a w hst;show Code.wp _ J8 _ a w;rw [rJ];refine wp_cond_false (A7 hst 5 rfl) ?_;show Code.wp _ Vj _ a w;rw [Ado];refine wp_skip ?_;show Code.wp _ NA _ a w;rw [AeM];refine wp_seq ?_;rw [xM];refine (Af5 l0 l1 l2 l3 hmx hU hV e1 e2).run hst ?_;clear hst;intro a w hst;show Code.wp _ Rh _ a w;rw [xE];refine wp_ret ?_;exact SG hst rfl 3 rfl 4 rfl
section
variable {ops : Array Oper} {N : Nat} {Wb W0 : World} {a0 : Act} {F : List PF} {BX : List Bm} {AD : List (Nat × Nat × Nat)} {i : Nat} {g : Option (Nat × Bool)}
end
def ED(p q a0 b0 a1 b1:Nat)(o:Bool):Prop:=a0<4294967296∧b0<4294967296∧a1<4294967296∧b1<4294967296∧(b0≠0→wV p q a0 b0 a1 b1 o)
def AeK(p q:Nat):PF:=⟨λv _=>∃(a0 b0 a1 b1:Nat)(o:Bool),v = .agg #[.int .u64 (a0:Int),.int .u64 (b0:Int),.int .u64 (a1:Int),.int .u64 (b1:Int),.bool o]∧ED p q a0 b0 a1 b1 o,λ_ _ _ _ h=>h⟩
def sX(p q:Nat):CF:=⟨λg w=>∃(a0 b0 a1 b1:Nat)(o:Bool),ED p q a0 b0 a1 b1 o∧(En a0 b0 a1 b1 o).p g w,
 λg w w' hg e ⟨a0,b0,a1,b1,o,hk,h⟩=>⟨a0,b0,a1,b1,o,hk,(En a0 b0 a1 b1 o).st g w w' hg e h⟩,λg w ⟨a0,b0,a1,b1,o,_,h⟩=>(En a0 b0 a1 b1 o).ty g w h⟩
theorem Zx{Wb:World}{N p q:Nat}{S:List (Nat × PF)}{a:Act}{w:World}(hst:St Wb N S [(5,sX p q)] a w):∃(a0 b0 a1 b1:Nat)(o:Bool),ED p q a0 b0 a1 b1 o∧St Wb N S [(5,En a0 b0 a1 b1 o)] a w:=by
 obtain ⟨s1,s2,s3,s4,s5,s6,s7⟩:=hst;obtain ⟨⟨g,h1,h2,a0,b0,a1,b1,o,hk,hb⟩,_⟩:=s6;exact ⟨a0,b0,a1,b1,o,hk,s1,s2,s3,s4,s5,⟨⟨g,h1,h2,hb⟩,trivial⟩,by simp⟩
theorem U3(w:World):(Instr.alloc 134 true (.tuple #[])).run Tryz.prog w = .ok (.pointer (some ⟨w.heap.size,0,none⟩)) (w.alloc (.cells #[.int .u64 0,.int .u64 0,.int .u64 0,.int .u64 0,.bool false] 134 (0,0))):=by simp [go_sem]
theorem UI(w:World):(En 0 0 0 0 false).p w.heap.size (w.alloc (.cells #[.int .u64 0,.int .u64 0,.int .u64 0,.int .u64 0,.bool false] 134 (0,0))):=Io w _
theorem Ac5{p q:Nat}:Fb 134 (En 0 0 0 0 false) (AeK p q) (sX p q):=by
 intro w g v h1 h2;obtain ⟨a0,b0,a1,b1,o,rfl,hk⟩:=h2;have hh:w.heap[g]? = some (.cells #[.int .u64 0,.int .u64 0,.int .u64 0,.int .u64 0,.bool false] 134 (0,0)):=h1;have c0:w.cell? ⟨g,0,none⟩=some (.int .u64 0):=by rw [cell_of_row w g 0 _ _ (0,0) hh]; rfl
 have c1:w.cell? ⟨g,1,none⟩=some (.int .u64 0):=by rw [cell_of_row w g 1 _ _ (0,0) hh]; rfl
 have c2:w.cell? ⟨g,2,none⟩=some (.int .u64 0):=by rw [cell_of_row w g 2 _ _ (0,0) hh]; rfl
 have c3:w.cell? ⟨g,3,none⟩=some (.int .u64 0):=by rw [cell_of_row w g 3 _ _ (0,0) hh]; rfl
 have c4:w.cell? ⟨g,4,none⟩=some (.bool false):=by rw [cell_of_row w g 4 _ _ (0,0) hh]; rfl
 have f0:=AA hh 0;have f1:=AA hh 1;have f2:=AA hh 2;have f3:=AA hh 3;have f4:=AA hh 4;have hne:(134:TypeId)≠114:=by decide
 have k1:=Az hh 0 (.int .u64 (a0:Int));have k2:=Az k1 1 (.int .u64 (b0:Int));have k3:=Az k2 2 (.int .u64 (a1:Int));have k4:=Az k3 3 (.int .u64 (b1:Int));have k5:=Az k4 4 (.bool o);refine ⟨((((w.setCell ⟨g,0,none⟩ (.int .u64 a0)).setCell ⟨g,1,none⟩ (.int .u64 b0)).setCell ⟨g,2,none⟩ (.int .u64 a1)).setCell ⟨g,3,none⟩ (.int .u64 b1)).setCell ⟨g,4,none⟩ (.bool o),by simp [go_sem,c0,c1,c2,c3,c4,f0,f1,f2,f3,f4],
  λB W hq hB=>((((hB.setCell hq _).setCell hq _).setCell hq _).setCell hq _).setCell hq _,?_,λj hj=>?_,⟨a0,b0,a1,b1,o,hk,k5⟩⟩
 ·exact ((((Bt.set hh hne 0 _).trans (Bt.set k1 hne 1 _)).trans (Bt.set k2 hne 2 _)).trans (Bt.set k3 hne 3 _)).trans (Bt.set k4 hne 4 _)
 ·exact (Below.heap_setCell _ _ _ j (by simpa using hj)).trans ((Below.heap_setCell _ _ _ j (by simpa using hj)).trans ((Below.heap_setCell _ _ _ j (by simpa using hj)).trans ((Below.heap_setCell _ _ _ j (by simpa using hj)).trans (Below.heap_setCell _ _ _ j (by simpa using hj)))))
theorem AgC{a0 b0 a1 b1:Nat}{o:Bool}(w:World)(q:Nat)(h:(En a0 b0 a1 b1 o).p q w):∃ v,(Instr.loadAt 134 (.pointer (some ⟨q,0,none⟩))).run Tryz.prog w = .ok v w∧(Am (.agg #[.int .u64 (a0:Int),.int .u64 (b0:Int),.int .u64 (a1:Int),.int .u64 (b1:Int),.bool o])).p v w:=by
 have hh:w.heap[q]? = some (.cells #[.int .u64 (a0:Int),.int .u64 (b0:Int),.int .u64 (a1:Int),.int .u64 (b1:Int),.bool o] 134 (0,0)):=h;have c0:w.cell? ⟨q,0,none⟩=some (.int .u64 (a0:Int)):=by rw [cell_of_row w q 0 _ _ (0,0) hh]; rfl
 have c1:w.cell? ⟨q,1,none⟩=some (.int .u64 (b0:Int)):=by rw [cell_of_row w q 1 _ _ (0,0) hh]; rfl
 have c2:w.cell? ⟨q,2,none⟩=some (.int .u64 (a1:Int)):=by rw [cell_of_row w q 2 _ _ (0,0) hh]; rfl
 have c3:w.cell? ⟨q,3,none⟩=some (.int .u64 (b1:Int)):=by rw [cell_of_row w q 3 _ _ (0,0) hh]; rfl
 have c4:w.cell? ⟨q,4,none⟩=some (.bool o):=by rw [cell_of_row w q 4 _ _ (0,0) hh]; rfl
 exact ⟨_,by simp [go_sem,c0,c1,c2,c3,c4],rfl⟩
theorem PG{ρ:Operand→Value}{w:World}{x:Operand}{n:Nat}(hx:(Aw n).p (ρ x) w):FU (.call { callee:=.builtin .len,args:=#[x],argTypes:=#[32] }) ρ w (Am (.int .i64 (len n:Int))):=by
 have hx:AB w (ρ x) n:=hx;obtain ⟨A,c,e,_⟩:=hx;exact Om (show (Am (.slice A (len n) c)).p (ρ x) w from e)
theorem yT{x y:Nat}(h:y≤x):decide (GC x y<0)=false:=by
 rcases Nat.lt_or_eq_of_le h with h | h
 ·rw [FB h]; decide
 ·rw [Gc h.symm]; decide
theorem AdB{q:Nat}(h:0<q):((len q:Int) == 0)=false:=by
 have:len q≠0:=λe=>by have:=AZ.1 e; omega
 simp;omega
section
variable {w : World} {va vb : Value} {x y : Nat}
theorem TE(ha:(Aw x).p va w)(hb:(Aw y).p vb w)(hx:len x≤1099511627776)(hy:len y≤1099511627776):Calls Tryz.prog 124 #[va,vb] w (Aj (Am (.int .i64 (GC x y))) w):=by
 have ha:AB w va x:=ha;have hb:AB w vb y:=hb;obtain ⟨A,c,rfl,HA⟩:=ha.open_;obtain ⟨B,d,rfl,HB⟩:=hb.open_;exact (Hl A B c d x y w HA.out HB.out hx hy).mono λ_ _ ⟨he,hb⟩=>⟨_,he,rfl,hb⟩
theorem ZF(ha:(Aw x).p va w)(hb:(Aw y).p vb w)(h3:3≤len x)(hla:len x≤1099511627776)(hba:y≤x):Calls Tryz.prog 125 #[va,vb] w (Aj (AeK x y) w):=
 (Qw va vb x y w ha hb h3 hla hba).mono λ_ _ ⟨a0,b0,a1,b1,o,he,k0,k1,k2,k3,k4,hb⟩=>⟨_,he,⟨a0,b0,a1,b1,o,rfl,k0,k1,k2,k3,k4⟩,hb⟩
theorem YC(ha:(Aw x).p va w)(hb:(Aw y).p vb w)(hx:len x≤1099511627775)(hy:len y≤1099511627775)(h0:0<y):Calls Tryz.prog 126 #[va,vb] w (Aj (B7 (Aw (x / y)) (Aw (x % y))) w):=
 (Nq va vb x y w ha hb hx hy h0).mono λ_ _ ⟨vq,vr,he,hq,hr,hb⟩=>⟨_,he,⟨vq,vr,rfl,hq,hr⟩,hb⟩
theorem YL(ha:(Aw x).p va w)(hx:x<18446744073709551616):Calls Tryz.prog 129 #[va] w (Aj (Am (.int .u64 (x:Int))) w):=by
 have ha:AB w va x:=ha;obtain ⟨A,c,rfl,HA⟩:=ha.open_;exact (IU A c x w HA.out.mem.2.2 hx).mono λ_ _ ⟨he,hw⟩=>⟨_,he,rfl,hw ▸ Below.refl _ _⟩
theorem Pe(ha:(Am (.int .u64 (x:Int))).p va w)(hb:(Am (.int .u64 (y:Int))).p vb w)(hx:x<18446744073709551616)(hy:y<18446744073709551616):Calls Tryz.prog 128 #[va,vb] w (Aj (Am (.int .u64 (Nat.gcd x y:Nat))) w):=by
 have ha:va = .int .u64 (x:Int):=ha;have hb:vb = .int .u64 (y:Int):=hb;subst ha hb;exact (K8 x y w hx hy).mono λ_ _ ⟨he,hb⟩=>⟨_,he,rfl,hb⟩
theorem fK(ha:(Am (.int .u64 (x:Int))).p va w)(hx:x<18446744073709551616):Calls Tryz.prog 103 #[va] w (Aj (Aw x) w):=by
 have ha:va = .int .u64 (x:Int):=ha;subst ha;exact CV x w hx
theorem Agb{vs:Value}{p q c0 d0 c1 d1 U V:Nat}{o:Bool}(hs:(Am (.agg #[.int .u64 (c0:Int),.int .u64 (d0:Int),.int .u64 (c1:Int),.int .u64 (d1:Int),.bool o])).p vs w)(ha:(Aw p).p va w)(hb:(Aw q).p vb w)(hok:ED p q c0 d0 c1 d1 o)(hUV:if o then U+c0*p=d0*q∧V+d1*q=c1*p else U+d0*q=c0*p∧V+c1*p=d1*q)(hU:U<p)(hV:V<q)(bp:len p≤1099511627775)(bq:len q≤1099511627775) :
  Calls Tryz.prog 127 #[vs,va,vb] w (Aj (B7 (Aw U) (Aw V)) w):=by
 have hs:vs = .agg #[.int .u64 (c0:Int),.int .u64 (d0:Int),.int .u64 (c1:Int),.int .u64 (d1:Int),.bool o]:=hs;subst hs;have h1:=AY (Nat.le_of_lt hU);have h2:=AY (Nat.le_of_lt hV);obtain ⟨k0,k1,k2,k3,_⟩:=hok
 cases o
 ·simp only [Bool.false_eq_true,if_false] at hUV
  exact WX va vb p q c0 d0 c1 d1 U V w ha hb k0 k1 k2 k3 (by omega) (by omega) (by omega) hUV.1 hUV.2
 ·simp only [if_true] at hUV
  exact fA va vb p q c0 d0 c1 d1 U V w ha hb k0 k1 k2 k3 (by omega) (by omega) (by omega) hUV.1 hUV.2
end
noncomputable def Qk:=DH Tryz.f118
noncomputable def Wf:=cl Qk
noncomputable def JW:=cr Qk
theorem lW:Qk = .seq Wf JW:=by kernel_rfl
noncomputable def WU:=Ba Wf
theorem oI:Wf = .region 0 WU false:=by kernel_rfl
noncomputable def Rt:=cl JW
noncomputable def Kv:=cr JW
theorem kY:JW = .seq Rt Kv:=by kernel_rfl
noncomputable def W8:=cl Rt
noncomputable def J5:=cr Rt
theorem gU:Rt = .seq W8 J5:=by kernel_rfl
noncomputable def Uh:=Ba W8
theorem pW:W8 = .region 1 Uh false:=by kernel_rfl
noncomputable def QZ:=cl J5
noncomputable def VV:=cr J5
theorem gY:J5 = .cond (.tmp 13) QZ VV:=by kernel_rfl
noncomputable def gN:=Ba QZ
theorem Afm:QZ = .region 2 gN false:=by kernel_rfl
theorem AdM:VV = .skip:=by kernel_rfl
noncomputable def VA:=cl Kv
noncomputable def Fq:=cr Kv
theorem qW:Kv = .seq VA Fq:=by kernel_rfl
noncomputable def Jc:=cl VA
theorem gR:VA = .block 0 Jc:=by kernel_rfl
noncomputable def Hj:=cl Jc
theorem XJ:Jc = .loop Hj:=by kernel_rfl
noncomputable def LM:=cl Hj
noncomputable def JI:=cr Hj
theorem LF:Hj = .seq LM JI:=by kernel_rfl
noncomputable def Re:=cl LM
noncomputable def Fe:=cr LM
theorem Lc:LM = .seq Re Fe:=by kernel_rfl
noncomputable def UG:=Ba Re
theorem LV:Re = .region 3 UG false:=by kernel_rfl
noncomputable def LL:=cl Fe
noncomputable def LJ:=cr Fe
theorem LU:Fe = .cond (.tmp 18) LL LJ:=by kernel_rfl
theorem XB:LL = .skip:=by kernel_rfl
theorem YP:LJ = .exit 0:=by kernel_rfl
noncomputable def Hx:=cl JI
theorem Ye:JI = .block 1 Hx:=by kernel_rfl
noncomputable def Pu:=cl Hx
noncomputable def Fs:=cr Hx
theorem XY:Hx = .seq Pu Fs:=by kernel_rfl
noncomputable def nK:=Ba Pu
theorem YX:Pu = .region 4 nK false:=by kernel_rfl
noncomputable def Rb:=cl Fs
noncomputable def Fw:=cr Fs
theorem Ld:Fs = .seq Rb Fw:=by kernel_rfl
noncomputable def Ux:=Ba Rb
theorem LT:Rb = .region 5 Ux false:=by kernel_rfl
noncomputable def Hz:=cl Fw
noncomputable def I7:=cr Fw
theorem Lr:Fw = .cond (.tmp 24) Hz I7:=by kernel_rfl
noncomputable def QF:=cl Hz
noncomputable def JH:=cr Hz
theorem X5:Hz = .seq QF JH:=by kernel_rfl
noncomputable def mO:=Ba QF
theorem XF:QF = .region 6 mO false:=by kernel_rfl
noncomputable def tG:=Ba JH
theorem YH:JH = .region 7 tG false:=by kernel_rfl
noncomputable def kF:=Ba I7
theorem Xm:I7 = .region 8 kF false:=by kernel_rfl
noncomputable def K9:=cl Fq
noncomputable def HJ:=cr Fq
theorem Lo:Fq = .seq K9 HJ:=by kernel_rfl
noncomputable def Py:=cl K9
noncomputable def Fu:=cr K9
theorem La:K9 = .seq Py Fu:=by kernel_rfl
noncomputable def Wt:=Ba Py
theorem Lx:Py = .region 9 Wt false:=by kernel_rfl
noncomputable def HF:=cl Fu
noncomputable def LI:=cr Fu
theorem LE:Fu = .cond (.tmp 42) HF LI:=by kernel_rfl
noncomputable def PW:=cl HF
noncomputable def Lb:=cr HF
theorem Yk:HF = .seq PW Lb:=by kernel_rfl
noncomputable def Zl:=Ba PW
theorem Xs:PW = .region 10 Zl false:=by kernel_rfl
theorem YO:Lb = .ret:=by kernel_rfl
theorem Xw:LI = .skip:=by kernel_rfl
noncomputable def Qb:=cl HJ
noncomputable def Ib:=cr HJ
theorem Y3:HJ = .seq Qb Ib:=by kernel_rfl
noncomputable def XG:=Ba Qb
theorem Yg:Qb = .region 11 XG false:=by kernel_rfl
noncomputable def Qs:=cl Ib
noncomputable def Ls:=cr Ib
theorem Y5:Ib = .seq Qs Ls:=by kernel_rfl
noncomputable def Yb:=Ba Qs
theorem YN:Qs = .region 12 Yb false:=by kernel_rfl
theorem Yf:Ls = .ret:=by kernel_rfl
section
set_option linter.unusedSectionVars false
variable {Wb : World}
theorem AeE{pp qq:Nat}(hlp:len pp≤1099511627775)(hlq:len qq≤1099511627775)(lt:pp<qq):RA 56 [(Aw pp),(Aw qq)] [] ⟨[(0,(.ref 0)),(1,(.ref 1))],[]⟩ ⟨[(0,(.ref 0)),(1,(.ref 1)),(4,.nil)],[]⟩ Wb 0 WU false:=RA.of
   {  } (by kernel_rfl)
theorem AfY{pp qq:Nat}(hlp:len pp≤1099511627775)(hlq:len qq≤1099511627775)(lt:pp<qq):RA 56 [(Aw pp),(Aw qq),(Am (.int .i64 (GC pp qq)))] [] ⟨[(0,(.ref 0)),(1,(.ref 1)),(4,.nil)],[]⟩ ⟨[(0,(.ref 0)),(1,(.ref 1)),(4,.nil),(13,(.bool true))],[]⟩ Wb 1 Uh false:=RA.of
   { pures:=[p2 (.bin .lss 3 3) (.ref 2) (.int .i64 0) (.bool true) λ_ _ _ _ _ hx hy=>GV (r:=true) (by rw [Hi lt]; decide) hx hy],
     calls:=[c2 124 (.ref 0) (.ref 1) (.ref 2) λw v0 v1 hb h0 h1=>TE h0 h1 (by omega) (by omega)] } (by kernel_rfl)
theorem Aew{pp qq:Nat}(hlp:len pp≤1099511627775)(hlq:len qq≤1099511627775)(lt:pp<qq):RA 56 [(Aw pp),(Aw qq)] [] ⟨[(0,(.ref 0)),(1,(.ref 1)),(4,.nil),(13,(.bool true))],[]⟩ ⟨[(0,(.ref 1)),(1,(.ref 0)),(4,.nil),(13,(.bool true))],[]⟩ Wb 2 gN false:=RA.of
   {  } (by kernel_rfl)
theorem gX{p q:Nat}(hqp:q≤p)(bp:len p≤1099511627775)(bq:len q≤1099511627775)(h3:3≤len q):RA 56 [(Aw q),(Am (.int .i64 (len q:Int))),(Aw p)] [] ⟨[(0,(.ref 2)),(1,(.ref 0))],[]⟩ ⟨[(0,(.ref 2)),(1,(.ref 0)),(18,(.bool true))],[]⟩ Wb 3 UG false:=RA.of
   { pures:=[p1 (.blt .len [32]) (.ref 0) (.ref 1) λ_ _ _ _ hx=>PG hx,
      p2 (.bin .gtr 3 3) (.ref 1) (.int .i64 2) (.bool true) λ_ _ _ _ _ hx hy=>Ff (r:=true) (by simp; omega) hx hy] } (by kernel_rfl)
theorem jF{p q:Nat}(hqp:q≤p)(bp:len p≤1099511627775)(bq:len q≤1099511627775)(h3:3≤len q):RA 56 [(Aw p),(Aw q),(AeK p q)] [(En 0 0 0 0 false),(sX p q)] ⟨[(0,(.ref 0)),(1,(.ref 1)),(18,(.bool true))],[]⟩ ⟨[(0,(.ref 0)),(1,(.ref 1)),(18,(.bool true))],[(5,1)]⟩ Wb 4 nK false:=RA.of
   { calls:=[c2 125 (.ref 0) (.ref 1) (.ref 2) λw v0 v1 hb h0 h1=>ZF h0 h1 (by have:=AY hqp; omega) (by omega) hqp],
     allocs:=[⟨134,0,_,U3,UI⟩],
     stores:=[⟨134,0,0,(.ref 2),1,Ac5⟩] } (by kernel_rfl)
theorem jA{p q:Nat}(hqp:q≤p)(bp:len p≤1099511627775)(bq:len q≤1099511627775)(h3:3≤len q){c0 d0 c1 d1:Nat}{o:Bool}(hok:ED p q c0 d0 c1 d1 o)(hz:d0=0)(q0:0<q):RA 56 [(Am (.int .u64 (d0:Int))),(Aw p),(Aw q)] [(En c0 d0 c1 d1 o)] ⟨[(0,(.ref 1)),(1,(.ref 2)),(18,(.bool true))],[(5,0)]⟩ ⟨[(0,(.ref 1)),(1,(.ref 2)),(18,(.bool true)),(24,(.bool true))],[(5,0)]⟩ Wb 5 Ux false:=RA.of
   { pures:=[p2 (.bin .eql 112 112) (.ref 0) (.int .u64 0) (.bool true) λ_ _ _ _ _ hx hy=>Cm (r:=true) (by simp; omega) hx hy],
     loads:=[⟨112,1,0,(.ref 0),λw q h=>Pn w q h⟩],
     flds:=[⟨134,1,1,Zn⟩] } (by kernel_rfl)
theorem oE{p q:Nat}(hqp:q≤p)(bp:len p≤1099511627775)(bq:len q≤1099511627775)(h3:3≤len q){c0 d0 c1 d1:Nat}{o:Bool}(hok:ED p q c0 d0 c1 d1 o)(hz:d0=0)(q0:0<q):RA 56 [(Aw p),(Aw q),(Aw (p / q)),(Aw (p % q))] [(En c0 d0 c1 d1 o)] ⟨[(0,(.ref 0)),(1,(.ref 1)),(18,(.bool true)),(24,(.bool true))],[(5,0)]⟩ ⟨[(0,(.ref 0)),(1,(.ref 1)),(7,(.ref 3)),(18,(.bool true)),(24,(.bool true))],[(5,0)]⟩ Wb 6 mO false:=RA.of
   { calls:=[c2 126 (.ref 0) (.ref 1) (.tup2 (.ref 2) (.ref 3)) λw v0 v1 hb h0 h1=>YC h0 h1 (by omega) (by omega) q0] } (by kernel_rfl)
theorem tF{p q:Nat}(hqp:q≤p)(bp:len p≤1099511627775)(bq:len q≤1099511627775)(h3:3≤len q){c0 d0 c1 d1:Nat}{o:Bool}(hok:ED p q c0 d0 c1 d1 o)(hz:d0=0)(q0:0<q):RA 56 [(Aw p),(Aw q),(Aw (p % q))] [(En c0 d0 c1 d1 o)] ⟨[(0,(.ref 0)),(1,(.ref 1)),(7,(.ref 2)),(18,(.bool true)),(24,(.bool true))],[(5,0)]⟩ ⟨[(0,(.ref 1)),(1,(.ref 2)),(7,(.ref 2)),(18,(.bool true)),(24,(.bool true))],[(5,0)]⟩ Wb 7 tG false:=RA.of
   {  } (by kernel_rfl)
theorem X7{p q:Nat}(hqp:q≤p)(bp:len p≤1099511627775)(bq:len q≤1099511627775)(h3:3≤len q){c0 d0 c1 d1:Nat}{o:Bool}(hok:ED p q c0 d0 c1 d1 o)(hz:d0≠0){U V:Nat}(hUV:if o then U+c0*p=d0*q∧V+d1*q=c1*p else U+d0*q=c0*p∧V+c1*p=d1*q)(hU:U<p)(hV:V<q):RA 56 [(Am (.int .u64 (d0:Int))),(Aw p),(Aw q)] [(En c0 d0 c1 d1 o)] ⟨[(0,(.ref 1)),(1,(.ref 2)),(18,(.bool true))],[(5,0)]⟩ ⟨[(0,(.ref 1)),(1,(.ref 2)),(18,(.bool true)),(24,(.bool false))],[(5,0)]⟩ Wb 5 Ux false:=RA.of
   { pures:=[p2 (.bin .eql 112 112) (.ref 0) (.int .u64 0) (.bool false) λ_ _ _ _ _ hx hy=>Cm (r:=false) (by simp; omega) hx hy],
     loads:=[⟨112,1,0,(.ref 0),λw q h=>Pn w q h⟩],
     flds:=[⟨134,1,1,Zn⟩] } (by kernel_rfl)
theorem nT{p q:Nat}(hqp:q≤p)(bp:len p≤1099511627775)(bq:len q≤1099511627775)(h3:3≤len q){c0 d0 c1 d1:Nat}{o:Bool}(hok:ED p q c0 d0 c1 d1 o)(hz:d0≠0){U V:Nat}(hUV:if o then U+c0*p=d0*q∧V+d1*q=c1*p else U+d0*q=c0*p∧V+c1*p=d1*q)(hU:U<p)(hV:V<q):RA 56 [(Am (.agg #[.int .u64 (c0:Int),.int .u64 (d0:Int),.int .u64 (c1:Int),.int .u64 (d1:Int),.bool o])),(Aw p),(Aw q),(Aw U),(Aw V)] [(En c0 d0 c1 d1 o)] ⟨[(0,(.ref 1)),(1,(.ref 2)),(18,(.bool true)),(24,(.bool false))],[(5,0)]⟩ ⟨[(0,(.ref 3)),(1,(.ref 4)),(18,(.bool true)),(24,(.bool false))],[(5,0)]⟩ Wb 8 kF false:=RA.of
   { calls:=[c3 127 (.ref 0) (.ref 1) (.ref 2) (.tup2 (.ref 3) (.ref 4)) λw v0 v1 v2 hb h0 h1 h2=>Agb h0 h1 h2 hok hUV hU hV bp bq],
     loads:=[⟨134,0,0,(.ref 0),λw q h=>AgC w q h⟩] } (by kernel_rfl)
theorem XD{p q:Nat}(hqp:q≤p)(bp:len p≤1099511627775)(bq:len q≤1099511627775)(h3:len q≤2):RA 56 [(Aw q),(Am (.int .i64 (len q:Int))),(Aw p)] [] ⟨[(0,(.ref 2)),(1,(.ref 0))],[]⟩ ⟨[(0,(.ref 2)),(1,(.ref 0)),(18,(.bool false))],[]⟩ Wb 3 UG false:=RA.of
   { pures:=[p1 (.blt .len [32]) (.ref 0) (.ref 1) λ_ _ _ _ hx=>PG hx,
      p2 (.bin .gtr 3 3) (.ref 1) (.int .i64 2) (.bool false) λ_ _ _ _ _ hx hy=>Ff (r:=false) (by simp; omega) hx hy] } (by kernel_rfl)
theorem sO{p q:Nat}(hqp:q≤p)(bp:len p≤1099511627775)(bq:len q≤1099511627775)(q0:q=0):RA 56 [(Aw q),(Am (.int .i64 (len q:Int))),(Aw p)] [] ⟨[(0,(.ref 2)),(1,(.ref 0)),(18,(.bool false))],[]⟩ ⟨[(0,(.ref 2)),(1,(.ref 0)),(18,(.bool false)),(42,(.bool true))],[]⟩ Wb 9 Wt false:=RA.of
   { pures:=[p1 (.blt .len [32]) (.ref 0) (.ref 1) λ_ _ _ _ hx=>PG hx,
      p2 (.bin .eql 3 3) (.ref 1) (.int .i64 0) (.bool true) λ_ _ _ _ _ hx hy=>Cm (r:=true) (by rw [q0,AX]; rfl) hx hy] } (by kernel_rfl)
theorem XQ{p q:Nat}(hqp:q≤p)(bp:len p≤1099511627775)(bq:len q≤1099511627775)(q0:q=0):RA 56 [(Aw p),(Aw q)] [] ⟨[(0,(.ref 0)),(1,(.ref 1)),(18,(.bool false)),(42,(.bool true))],[]⟩ ⟨[(0,(.ref 0)),(1,(.ref 1)),(4,(.ref 0)),(18,(.bool false)),(42,(.bool true))],[]⟩ Wb 10 Zl false:=RA.of
   {  } (by kernel_rfl)
theorem YI{p q:Nat}(hqp:q≤p)(bp:len p≤1099511627775)(bq:len q≤1099511627775)(q0:0<q)(q64:q<18446744073709551616):RA 56 [(Aw q),(Am (.int .i64 (len q:Int))),(Aw p)] [] ⟨[(0,(.ref 2)),(1,(.ref 0)),(18,(.bool false))],[]⟩ ⟨[(0,(.ref 2)),(1,(.ref 0)),(18,(.bool false)),(42,(.bool false))],[]⟩ Wb 9 Wt false:=RA.of
   { pures:=[p1 (.blt .len [32]) (.ref 0) (.ref 1) λ_ _ _ _ hx=>PG hx,
      p2 (.bin .eql 3 3) (.ref 1) (.int .i64 0) (.bool false) λ_ _ _ _ _ hx hy=>Cm (r:=false) (AdB q0) hx hy] } (by kernel_rfl)
theorem YU{p q:Nat}(hqp:q≤p)(bp:len p≤1099511627775)(bq:len q≤1099511627775)(q0:0<q)(q64:q<18446744073709551616):RA 56 [(Aw p),(Aw q),(Aw (p / q)),(Aw (p % q))] [] ⟨[(0,(.ref 0)),(1,(.ref 1)),(18,(.bool false)),(42,(.bool false))],[]⟩ ⟨[(0,(.ref 0)),(1,(.ref 1)),(9,(.ref 3)),(18,(.bool false)),(42,(.bool false))],[]⟩ Wb 11 XG false:=RA.of
   { calls:=[c2 126 (.ref 0) (.ref 1) (.tup2 (.ref 2) (.ref 3)) λw v0 v1 hb h0 h1=>YC h0 h1 (by omega) (by omega) q0] } (by kernel_rfl)
theorem Yl{p q:Nat}(hqp:q≤p)(bp:len p≤1099511627775)(bq:len q≤1099511627775)(q0:0<q)(q64:q<18446744073709551616):RA 56 [(Aw q),(Am (.int .u64 ((q:Nat):Int))),(Aw (p % q)),(Am (.int .u64 (((p % q):Nat):Int))),(Am (.int .u64 ((Nat.gcd q (p % q):Nat):Int))),(Aw (Nat.gcd q (p % q))),(Aw p)] [] ⟨[(0,(.ref 6)),(1,(.ref 0)),(9,(.ref 2)),(18,(.bool false)),(42,(.bool false))],[]⟩ ⟨[(0,(.ref 6)),(1,(.ref 0)),(4,(.ref 5)),(9,(.ref 2)),(18,(.bool false)),(42,(.bool false))],[]⟩ Wb 12 Yb false:=RA.of
   { calls:=[c1 129 (.ref 0) (.ref 1) λw v0 hb h0=>YL h0 q64,
      c1 129 (.ref 2) (.ref 3) λw v0 hb h0=>YL h0 (Nat.lt_trans (Nat.mod_lt _ q0) q64),
      c2 128 (.ref 1) (.ref 3) (.ref 4) λw v0 v1 hb h0 h1=>Pe h0 h1 q64 (Nat.lt_trans (Nat.mod_lt _ q0) q64),
      c1 103 (.ref 4) (.ref 5) λw v0 hb h0=>fK h0 (Nat.lt_of_le_of_lt (Nat.le_of_dvd q0 (Nat.gcd_dvd_left _ _)) q64)] } (by kernel_rfl)
theorem Aah{pp qq:Nat}(hlp:len pp≤1099511627775)(hlq:len qq≤1099511627775)(lt:qq≤pp):RA 56 [(Aw pp),(Aw qq)] [] ⟨[(0,(.ref 0)),(1,(.ref 1))],[]⟩ ⟨[(0,(.ref 0)),(1,(.ref 1)),(4,.nil)],[]⟩ Wb 0 WU false:=RA.of
   {  } (by kernel_rfl)
theorem yB{pp qq:Nat}(hlp:len pp≤1099511627775)(hlq:len qq≤1099511627775)(lt:qq≤pp):RA 56 [(Aw pp),(Aw qq),(Am (.int .i64 (GC pp qq)))] [] ⟨[(0,(.ref 0)),(1,(.ref 1)),(4,.nil)],[]⟩ ⟨[(0,(.ref 0)),(1,(.ref 1)),(4,.nil),(13,(.bool false))],[]⟩ Wb 1 Uh false:=RA.of
   { pures:=[p2 (.bin .lss 3 3) (.ref 2) (.int .i64 0) (.bool false) λ_ _ _ _ _ hx hy=>GV (r:=false) (yT lt) hx hy],
     calls:=[c2 124 (.ref 0) (.ref 1) (.ref 2) λw v0 v1 hb h0 h1=>TE h0 h1 (by omega) (by omega)] } (by kernel_rfl)
end
theorem SF(va vb:Value)(pp qq:Nat)(W:World)(ha:AB W va pp)(hb:AB W vb qq)(hlp:len pp≤1099511627775)(hlq:len qq≤1099511627775) :
  Calls Tryz.prog 118 #[va,vb] W (Aj (Aw (Nat.gcd pp qq)) W):=by
 refine Do (S:=[(0,(Aw pp)),(1,(Aw qq))]) Tryz.func118 (by kernel_rfl) Tryz.ntmps118 (by simp) (λx hx=>?_) λa w hst=>?_
 ·simp only [List.mem_cons,List.not_mem_nil,or_false] at hx
  rcases hx with rfl | rfl
  ·exact ⟨_,rfl,ha⟩
  ·exact ⟨_,rfl,hb⟩
 show Code.wp _ Qk _ a w
 rcases Nat.lt_or_ge pp qq with lt | lt
 ·rw [lW]
  refine wp_seq ?_;rw [oI];refine (AeE hlp hlq lt).run hst ?_;clear hst;intro a w hst;show Code.wp _ JW _ a w;rw [kY];refine wp_seq ?_;rw [gU];refine wp_seq ?_;rw [pW];refine (AfY hlp hlq lt).run hst ?_;clear hst;intro a w hst;show Code.wp _ J5 _ a w;rw [gY];refine wp_cond_true (A7 hst 3 rfl) ?_;show Code.wp _ QZ _ a w;rw [Afm];refine (Aew hlp hlq lt).run hst ?_;clear hst;intro a w hst;show Code.wp _ Kv _ a w;rw [qW];refine wp_seq ?_;rw [gR];refine wp_block ?_;show Code.wp _ Jc _ a w;rw [XJ];refine CN (fun (z:Nat × Nat) a w=>St W 56 [(0,(Aw z.1)),(1,(Aw z.2))] [] a w∧z.2≤z.1∧z.1≤max pp qq∧Nat.gcd z.1 z.2=Nat.gcd pp qq) (λz=>z.2) ?_ (qq,pp) ⟨hst.to ⟨hst.slots.get (k:=0) rfl,hst.slots.get (k:=1) rfl,trivial⟩,by show pp≤qq; omega,by show qq≤max pp qq; omega,Nat.gcd_comm _ _⟩
  rintro ⟨p,q⟩ a w ⟨hst,hqp,hpm,hg⟩
  simp only [] at hst hqp hpm hg;have bm:len (max pp qq)≤1099511627775:=by rcases Nat.le_total pp qq with h | h; (rw [Nat.max_eq_right h]; exact hlq); (rw [Nat.max_eq_left h]; exact hlp)
  have bp:len p≤1099511627775:=Nat.le_trans (AY hpm) bm;have bq:len q≤1099511627775:=Nat.le_trans (AY hqp) bp;show Code.wp _ Hj _ a w
  rcases Nat.lt_or_ge 2 (len q) with h3 | h3
  ·have h3:3≤len q:=h3
   rw [LF];refine wp_seq ?_;rw [Lc];refine wp_seq ?_;rw [LV];refine (gX hqp bp bq h3).run hst ?_;clear hst;intro a w hst;show Code.wp _ Fe _ a w;rw [LU];refine wp_cond_true (A7 hst 2 rfl) ?_;show Code.wp _ LL _ a w;rw [XB];refine wp_skip ?_;show Code.wp _ JI _ a w;rw [Ye];refine wp_block ?_;show Code.wp _ Hx _ a w;rw [XY];refine wp_seq ?_;rw [YX];refine (jF hqp bp bq h3).run hst ?_;clear hst;intro a w hst;obtain ⟨c0,d0,c1,d1,o,hok,hst⟩:=Zx hst
   by_cases hz:d0=0
   ·have q0:0<q:=by rcases Nat.eq_zero_or_pos q with h | h; (rw [h,AX] at h3; omega); exact h
    show Code.wp _ Fs _ a w;rw [Ld];refine wp_seq ?_;rw [LT];refine (jA hqp bp bq h3 hok hz q0).run hst ?_;clear hst;intro a w hst;show Code.wp _ Fw _ a w;rw [Lr];refine wp_cond_true (A7 hst 3 rfl) ?_;show Code.wp _ Hz _ a w;rw [X5];refine wp_seq ?_;rw [XF];refine (oE hqp bp bq h3 hok hz q0).run hst ?_;clear hst;intro a w hst;show Code.wp _ JH _ a w;rw [YH];refine (tF hqp bp bq h3 hok hz q0).run hst ?_;clear hst;intro a w hst;exact ⟨(q,p % q),⟨((hst.to (S':=[(0,(Aw q)),(1,(Aw (p % q)))]) ⟨hst.slots.get (k:=0) rfl,hst.slots.get (k:=1) rfl,trivial⟩).firstB 0),Nat.le_of_lt (Nat.mod_lt _ q0),by show q≤max pp qq; omega,by show Nat.gcd q (p % q)=_; rw [← hg,Nat.gcd_comm p q,Nat.gcd_rec q p,Nat.gcd_comm]⟩,Nat.mod_lt _ q0⟩
   ·obtain ⟨U,V,hUV,hgU,hU,hV,hVU⟩:=hok.2.2.2.2 hz
    show Code.wp _ Fs _ a w;rw [Ld];refine wp_seq ?_;rw [LT];refine (X7 hqp bp bq h3 hok hz hUV hU hV).run hst ?_;clear hst;intro a w hst;show Code.wp _ Fw _ a w;rw [Lr];refine wp_cond_false (A7 hst 3 rfl) ?_;show Code.wp _ I7 _ a w;rw [Xm];refine (nT hqp bp bq h3 hok hz hUV hU hV).run hst ?_;clear hst;intro a w hst;exact ⟨(U,V),⟨((hst.to (S':=[(0,(Aw U)),(1,(Aw V))]) ⟨hst.slots.get (k:=0) rfl,hst.slots.get (k:=1) rfl,trivial⟩).firstB 0),hVU,by show U≤max pp qq; omega,by show Nat.gcd U V=_; rw [hgU,hg]⟩,hV⟩
  ·rw [LF]
   refine wp_seq ?_;rw [Lc];refine wp_seq ?_;rw [LV];refine (XD hqp bp bq h3).run hst ?_;clear hst;intro a w hst;show Code.wp _ Fe _ a w;rw [LU];refine wp_cond_false (A7 hst 2 rfl) ?_;show Code.wp _ LJ _ a w;rw [YP];refine wp_exit ?_
   rcases Nat.eq_zero_or_pos q with q0 | q0
   ·have e0:p=Nat.gcd pp qq:=by rw [← hg,q0,Nat.gcd_zero_right]
    show Code.wp _ Fq _ a w;rw [Lo];refine wp_seq ?_;rw [La];refine wp_seq ?_;rw [Lx];refine (sO hqp bp bq q0).run hst ?_;clear hst;intro a w hst;show Code.wp _ Fu _ a w;rw [LE];refine wp_cond_true (A7 hst 3 rfl) ?_;show Code.wp _ HF _ a w;rw [Yk];refine wp_seq ?_;rw [Xs];refine (XQ hqp bp bq q0).run hst ?_;clear hst;intro a w hst;show Code.wp _ Lb _ a w;rw [YO];refine wp_ret ?_;rw [e0] at hst;exact Lu hst rfl 2 rfl
   ·have q64:q<18446744073709551616:=Nat.lt_of_lt_of_le (BG q) (Nat.pow_le_pow_right (n:=4294967296) (by decide) h3)
    show Code.wp _ Fq _ a w;rw [Lo];refine wp_seq ?_;rw [La];refine wp_seq ?_;rw [Lx];refine (YI hqp bp bq q0 q64).run hst ?_;clear hst;intro a w hst;show Code.wp _ Fu _ a w;rw [LE];refine wp_cond_false (A7 hst 3 rfl) ?_;show Code.wp _ LI _ a w;rw [Xw];refine wp_skip ?_;show Code.wp _ HJ _ a w;rw [Y3];refine wp_seq ?_;rw [Yg];refine (YU hqp bp bq q0 q64).run hst ?_;clear hst;intro a w hst;show Code.wp _ Ib _ a w;rw [Y5];refine wp_seq ?_;rw [YN];refine (Yl hqp bp bq q0 q64).run hst ?_;clear hst;intro a w hst;show Code.wp _ Ls _ a w;rw [Yf];refine wp_ret ?_;have e0:Nat.gcd q (p % q)=Nat.gcd pp qq:=by rw [← hg,Nat.gcd_comm p q,Nat.gcd_rec q p,Nat.gcd_comm]
    rw [e0] at hst;exact Lu hst rfl 2 rfl
 ·rw [lW]
  refine wp_seq ?_;rw [oI];refine (Aah hlp hlq lt).run hst ?_;clear hst;intro a w hst;show Code.wp _ JW _ a w;rw [kY];refine wp_seq ?_;rw [gU];refine wp_seq ?_;rw [pW];refine (yB hlp hlq lt).run hst ?_;clear hst;intro a w hst;show Code.wp _ J5 _ a w;rw [gY];refine wp_cond_false (A7 hst 3 rfl) ?_;show Code.wp _ VV _ a w;rw [AdM];refine wp_skip ?_;show Code.wp _ Kv _ a w;rw [qW];refine wp_seq ?_;rw [gR];refine wp_block ?_;show Code.wp _ Jc _ a w;rw [XJ];refine CN (fun (z:Nat × Nat) a w=>St W 56 [(0,(Aw z.1)),(1,(Aw z.2))] [] a w∧z.2≤z.1∧z.1≤max pp qq∧Nat.gcd z.1 z.2=Nat.gcd pp qq) (λz=>z.2) ?_ (pp,qq) ⟨hst.to ⟨hst.slots.get (k:=0) rfl,hst.slots.get (k:=1) rfl,trivial⟩,by show qq≤pp; omega,by show pp≤max pp qq; omega,rfl⟩
  rintro ⟨p,q⟩ a w ⟨hst,hqp,hpm,hg⟩
  simp only [] at hst hqp hpm hg;have bm:len (max pp qq)≤1099511627775:=by rcases Nat.le_total pp qq with h | h; (rw [Nat.max_eq_right h]; exact hlq); (rw [Nat.max_eq_left h]; exact hlp)
  have bp:len p≤1099511627775:=Nat.le_trans (AY hpm) bm;have bq:len q≤1099511627775:=Nat.le_trans (AY hqp) bp;show Code.wp _ Hj _ a w
  rcases Nat.lt_or_ge 2 (len q) with h3 | h3
  ·have h3:3≤len q:=h3
   rw [LF];refine wp_seq ?_;rw [Lc];refine wp_seq ?_;rw [LV];refine (gX hqp bp bq h3).run hst ?_;clear hst;intro a w hst;show Code.wp _ Fe _ a w;rw [LU];refine wp_cond_true (A7 hst 2 rfl) ?_;show Code.wp _ LL _ a w;rw [XB];refine wp_skip ?_;show Code.wp _ JI _ a w;rw [Ye];refine wp_block ?_;show Code.wp _ Hx _ a w;rw [XY];refine wp_seq ?_;rw [YX];refine (jF hqp bp bq h3).run hst ?_;clear hst;intro a w hst;obtain ⟨c0,d0,c1,d1,o,hok,hst⟩:=Zx hst
   by_cases hz:d0=0
   ·have q0:0<q:=by rcases Nat.eq_zero_or_pos q with h | h; (rw [h,AX] at h3; omega); exact h
    show Code.wp _ Fs _ a w;rw [Ld];refine wp_seq ?_;rw [LT];refine (jA hqp bp bq h3 hok hz q0).run hst ?_;clear hst;intro a w hst;show Code.wp _ Fw _ a w;rw [Lr];refine wp_cond_true (A7 hst 3 rfl) ?_;show Code.wp _ Hz _ a w;rw [X5];refine wp_seq ?_;rw [XF];refine (oE hqp bp bq h3 hok hz q0).run hst ?_;clear hst;intro a w hst;show Code.wp _ JH _ a w;rw [YH];refine (tF hqp bp bq h3 hok hz q0).run hst ?_;clear hst;intro a w hst;exact ⟨(q,p % q),⟨((hst.to (S':=[(0,(Aw q)),(1,(Aw (p % q)))]) ⟨hst.slots.get (k:=0) rfl,hst.slots.get (k:=1) rfl,trivial⟩).firstB 0),Nat.le_of_lt (Nat.mod_lt _ q0),by show q≤max pp qq; omega,by show Nat.gcd q (p % q)=_; rw [← hg,Nat.gcd_comm p q,Nat.gcd_rec q p,Nat.gcd_comm]⟩,Nat.mod_lt _ q0⟩
   ·obtain ⟨U,V,hUV,hgU,hU,hV,hVU⟩:=hok.2.2.2.2 hz
    show Code.wp _ Fs _ a w;rw [Ld];refine wp_seq ?_;rw [LT];refine (X7 hqp bp bq h3 hok hz hUV hU hV).run hst ?_;clear hst;intro a w hst;show Code.wp _ Fw _ a w;rw [Lr];refine wp_cond_false (A7 hst 3 rfl) ?_;show Code.wp _ I7 _ a w;rw [Xm];refine (nT hqp bp bq h3 hok hz hUV hU hV).run hst ?_;clear hst;intro a w hst;exact ⟨(U,V),⟨((hst.to (S':=[(0,(Aw U)),(1,(Aw V))]) ⟨hst.slots.get (k:=0) rfl,hst.slots.get (k:=1) rfl,trivial⟩).firstB 0),hVU,by show U≤max pp qq; omega,by show Nat.gcd U V=_; rw [hgU,hg]⟩,hV⟩
  ·rw [LF]
   refine wp_seq ?_;rw [Lc];refine wp_seq ?_;rw [LV];refine (XD hqp bp bq h3).run hst ?_;clear hst;intro a w hst;show Code.wp _ Fe _ a w;rw [LU];refine wp_cond_false (A7 hst 2 rfl) ?_;show Code.wp _ LJ _ a w;rw [YP];refine wp_exit ?_
   rcases Nat.eq_zero_or_pos q with q0 | q0
   ·have e0:p=Nat.gcd pp qq:=by rw [← hg,q0,Nat.gcd_zero_right]
    show Code.wp _ Fq _ a w;rw [Lo];refine wp_seq ?_;rw [La];refine wp_seq ?_;rw [Lx];refine (sO hqp bp bq q0).run hst ?_;clear hst;intro a w hst;show Code.wp _ Fu _ a w;rw [LE];refine wp_cond_true (A7 hst 3 rfl) ?_;show Code.wp _ HF _ a w;rw [Yk];refine wp_seq ?_;rw [Xs];refine (XQ hqp bp bq q0).run hst ?_;clear hst;intro a w hst;show Code.wp _ Lb _ a w;rw [YO];refine wp_ret ?_;rw [e0] at hst;exact Lu hst rfl 2 rfl
   ·have q64:q<18446744073709551616:=Nat.lt_of_lt_of_le (BG q) (Nat.pow_le_pow_right (n:=4294967296) (by decide) h3)
    show Code.wp _ Fq _ a w;rw [Lo];refine wp_seq ?_;rw [La];refine wp_seq ?_;rw [Lx];refine (YI hqp bp bq q0 q64).run hst ?_;clear hst;intro a w hst;show Code.wp _ Fu _ a w;rw [LE];refine wp_cond_false (A7 hst 3 rfl) ?_;show Code.wp _ LI _ a w;rw [Xw];refine wp_skip ?_;show Code.wp _ HJ _ a w;rw [Y3];refine wp_seq ?_;rw [Yg];refine (YU hqp bp bq q0 q64).run hst ?_;clear hst;intro a w hst;show Code.wp _ Ib _ a w;rw [Y5];refine wp_seq ?_;rw [YN];refine (Yl hqp bp bq q0 q64).run hst ?_;clear hst;intro a w hst;show Code.wp _ Ls _ a w;rw [Yf];refine wp_ret ?_;have e0:Nat.gcd q (p % q)=Nat.gcd pp qq:=by rw [← hg,Nat.gcd_comm p q,Nat.gcd_rec q p,Nat.gcd_comm]
    rw [e0] at hst;exact Lu hst rfl 2 rfl
end Go.Proofs.YtdopbgnkneeceaaGreat
