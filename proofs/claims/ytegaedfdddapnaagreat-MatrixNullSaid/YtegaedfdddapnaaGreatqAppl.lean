/- The steps, applied (written by wip/tools/gen_apply.py). -/
import Derived.Test.YtegaedfdddapnaaGreatqSim
import Derived.Test.YtegaedfdddapnaaGreatqComb
set_option linter.unusedSectionVars false
set_option linter.unusedVariables false
set_option linter.unusedSimpArgs false
set_option maxRecDepth 100000
namespace Go.Proofs.YtegaedfdddapnaaGreat
open Go.RowKit
section
variable {ops : Array Oper} {N : Nat} {Wb W0 : World} {a0 : Act} {F : List PF} {BX : List Bk} {AD : List (Nat × Nat × Nat)} {i : Nat} {g : Option (Nat × Bool)}
end
def Ed(a0 b0 a1 b1:Nat)(o:Bool):CF:=Aeg #[.int .u64 (a0:Int),.int .u64 (b0:Int),.int .u64 (a1:Int),.int .u64 (b1:Int),.bool o] 134 (by decide)
theorem RS{a0 b0 a1 b1:Nat}{o:Bool}(w:World)(v:Value)(h:(Am (.agg #[.int .u64 (a0:Int),.int .u64 (b0:Int),.int .u64 (a1:Int),.int .u64 (b1:Int),.bool o])).p v w):∃ ob,(Instr.box 134 v).run Tryz.prog w = .ok (.pointer (some ⟨w.heap.size,0,none⟩)) (w.alloc ob)∧(Ed a0 b0 a1 b1 o).p w.heap.size (w.alloc ob):=by
 have h:v = .agg #[.int .u64 (a0:Int),.int .u64 (b0:Int),.int .u64 (a1:Int),.int .u64 (b1:Int),.bool o]:=h;subst h;exact ⟨.cells #[.int .u64 (a0:Int),.int .u64 (b0:Int),.int .u64 (a1:Int),.int .u64 (b1:Int),.bool o] 134 (0,0),by simp [go_sem],Io w _⟩
theorem AaP(q:Nat)(w:World):(Instr.fieldAt 134 (.pointer (some ⟨q,0,none⟩)) 0).run Tryz.prog w = .ok (.pointer (some ⟨q,0,none⟩)) w:=by simp [go_sem]
theorem bC{a0 b0 a1 b1:Nat}{o:Bool}(w:World)(q:Nat)(h:(Ed a0 b0 a1 b1 o).p q w):∃ v,(Instr.loadAt 112 (.pointer (some ⟨q,0,none⟩))).run Tryz.prog w = .ok v w∧(Am (.int .u64 (a0:Int))).p v w:=by
 have hh:w.heap[q]? = some (.cells #[.int .u64 (a0:Int),.int .u64 (b0:Int),.int .u64 (a1:Int),.int .u64 (b1:Int),.bool o] 134 (0,0)):=h;have h0:w.cell? ⟨q,0,none⟩=some (.int .u64 (a0:Int)):=by rw [cell_of_row w q 0 _ _ (0,0) hh]; rfl
 exact ⟨_,by simp [go_sem,h0],rfl⟩
theorem Wo(q:Nat)(w:World):(Instr.fieldAt 134 (.pointer (some ⟨q,0,none⟩)) 1).run Tryz.prog w = .ok (.pointer (some ⟨q,1,none⟩)) w:=by simp [go_sem]
theorem Pp{a0 b0 a1 b1:Nat}{o:Bool}(w:World)(q:Nat)(h:(Ed a0 b0 a1 b1 o).p q w):∃ v,(Instr.loadAt 112 (.pointer (some ⟨q,1,none⟩))).run Tryz.prog w = .ok v w∧(Am (.int .u64 (b0:Int))).p v w:=by
 have hh:w.heap[q]? = some (.cells #[.int .u64 (a0:Int),.int .u64 (b0:Int),.int .u64 (a1:Int),.int .u64 (b1:Int),.bool o] 134 (0,0)):=h;have h0:w.cell? ⟨q,1,none⟩=some (.int .u64 (b0:Int)):=by rw [cell_of_row w q 1 _ _ (0,0) hh]; rfl
 exact ⟨_,by simp [go_sem,h0],rfl⟩
theorem xV(q:Nat)(w:World):(Instr.fieldAt 134 (.pointer (some ⟨q,0,none⟩)) 2).run Tryz.prog w = .ok (.pointer (some ⟨q,2,none⟩)) w:=by simp [go_sem]
theorem aJ{a0 b0 a1 b1:Nat}{o:Bool}(w:World)(q:Nat)(h:(Ed a0 b0 a1 b1 o).p q w):∃ v,(Instr.loadAt 112 (.pointer (some ⟨q,2,none⟩))).run Tryz.prog w = .ok v w∧(Am (.int .u64 (a1:Int))).p v w:=by
 have hh:w.heap[q]? = some (.cells #[.int .u64 (a0:Int),.int .u64 (b0:Int),.int .u64 (a1:Int),.int .u64 (b1:Int),.bool o] 134 (0,0)):=h;have h0:w.cell? ⟨q,2,none⟩=some (.int .u64 (a1:Int)):=by rw [cell_of_row w q 2 _ _ (0,0) hh]; rfl
 exact ⟨_,by simp [go_sem,h0],rfl⟩
theorem Aad(q:Nat)(w:World):(Instr.fieldAt 134 (.pointer (some ⟨q,0,none⟩)) 3).run Tryz.prog w = .ok (.pointer (some ⟨q,3,none⟩)) w:=by simp [go_sem]
theorem mL{a0 b0 a1 b1:Nat}{o:Bool}(w:World)(q:Nat)(h:(Ed a0 b0 a1 b1 o).p q w):∃ v,(Instr.loadAt 112 (.pointer (some ⟨q,3,none⟩))).run Tryz.prog w = .ok v w∧(Am (.int .u64 (b1:Int))).p v w:=by
 have hh:w.heap[q]? = some (.cells #[.int .u64 (a0:Int),.int .u64 (b0:Int),.int .u64 (a1:Int),.int .u64 (b1:Int),.bool o] 134 (0,0)):=h;have h0:w.cell? ⟨q,3,none⟩=some (.int .u64 (b1:Int)):=by rw [cell_of_row w q 3 _ _ (0,0) hh]; rfl
 exact ⟨_,by simp [go_sem,h0],rfl⟩
theorem xX(q:Nat)(w:World):(Instr.fieldAt 134 (.pointer (some ⟨q,0,none⟩)) 4).run Tryz.prog w = .ok (.pointer (some ⟨q,4,none⟩)) w:=by simp [go_sem]
theorem lX{a0 b0 a1 b1:Nat}{o:Bool}(w:World)(q:Nat)(h:(Ed a0 b0 a1 b1 o).p q w):∃ v,(Instr.loadAt 4 (.pointer (some ⟨q,4,none⟩))).run Tryz.prog w = .ok v w∧(Am (.bool o)).p v w:=by
 have hh:w.heap[q]? = some (.cells #[.int .u64 (a0:Int),.int .u64 (b0:Int),.int .u64 (a1:Int),.int .u64 (b1:Int),.bool o] 134 (0,0)):=h;have h0:w.cell? ⟨q,4,none⟩=some (.bool o):=by rw [cell_of_row w q 4 _ _ (0,0) hh]; rfl
 exact ⟨_,by simp [go_sem,h0],rfl⟩
theorem WL{w:World}{va vp vb vq:Value}{x y p q z:Nat}(ha:(Aw x).p va w)(hvp:(Am (.int .u64 (p:Int))).p vp w)(hb:(Aw y).p vb w)(hvq:(Am (.int .u64 (q:Int))).p vq w)(hp:p<4294967296)(hq:q<4294967296)(hz:z+q*y=p*x)(hm:max (len x) (len y)≤1099511627776)(hzl:len z≤max (len x) (len y)) :
  Calls Tryz.prog 141 #[va,vp,vb,vq] w (Aj (Aw z) w):=by
 have hvp:vp = .int .u64 (p:Int):=hvp;have hvq:vq = .int .u64 (q:Int):=hvq;subst hvp hvq;have ha:AB w va x:=ha;have hb:AB w vb y:=hb;obtain ⟨A,c,rfl,HA⟩:=ha.open_;obtain ⟨B,d,rfl,HB⟩:=hb.open_
 rcases Nat.lt_or_ge (len x) (len y) with h | h
 ·exact Vb A B c d p q x y z w HA.out.mem.2.2 HB.out.mem.2.2 hp hq h (by omega) hz (by omega)
 ·exact Vp A B c d p q x y z w HA.out.mem.2.2 HB.out.mem.2.2 hp hq h (by omega) hz (by omega)
theorem Ss{Wb:World}{N:Nat}{S:List (Nat × PF)}{B:List (Nat × CF)}{a:Act}{w:World}{fn:Func}{t t':Nat}{R R':PF}(hst:St Wb N S B a w)(hr:fn.results = #[.tmp t,.tmp t'])(k:Nat)(hk:S[k]? = some (t,R))(k':Nat)(hk':S[k']? = some (t',R')):bodyPost Tryz.prog fn (Aj (B5 R R') Wb) .ret a w:=by
 obtain ⟨v,h1,h2⟩:=hst.slots.get hk;obtain ⟨v',h1',h2'⟩:=hst.slots.get hk';refine bodyPost_ret (v:=.tuple #[v,v']) ?_ hst.defers ⟨_,rfl,⟨_,_,rfl,h2,h2'⟩,hst.below⟩;simp [results,hr,go_sem,Array.getD_eq_getD_getElem?,h1,h1']
noncomputable def MV:=DG Tryz.f127
noncomputable def Vk:=cl MV
noncomputable def JU:=cr MV
theorem gT:MV = .seq Vk JU:=by kernel_rfl
noncomputable def US:=Ba Vk
theorem dJ:Vk = .region 0 US false:=by kernel_rfl
noncomputable def Pe:=cl JU
noncomputable def M8:=cr JU
theorem kU:JU = .seq Pe M8:=by kernel_rfl
noncomputable def U8:=cl Pe
noncomputable def J_:=cr Pe
theorem dT:Pe = .seq U8 J_:=by kernel_rfl
noncomputable def Um:=Ba U8
theorem kQ:U8 = .region 1 Um false:=by kernel_rfl
noncomputable def MP:=cl J_
noncomputable def Vo:=cr J_
theorem dY:J_ = .cond (.tmp 9) MP Vo:=by kernel_rfl
noncomputable def TV:=cl MP
noncomputable def QQ:=cr MP
theorem AdD:MP = .seq TV QQ:=by kernel_rfl
noncomputable def jN:=Ba TV
theorem Abo:TV = .region 2 jN true:=by kernel_rfl
theorem oZ:QQ = .ret:=by kernel_rfl
theorem Aa1:Vo = .skip:=by kernel_rfl
noncomputable def RI:=cl M8
noncomputable def QI:=cr M8
theorem Aba:M8 = .seq RI QI:=by kernel_rfl
noncomputable def mW:=Ba RI
theorem qZ:RI = .region 3 mW true:=by kernel_rfl
theorem rP:QI = .ret:=by kernel_rfl
section
set_option linter.unusedSectionVars false
variable {Wb : World} {mm nn c0 d0 c1 d1 U V : Nat} (l0 : c0 < 4294967296) (l1 : d0 < 4294967296) (l2 : c1 < 4294967296) (l3 : d1 < 4294967296) (hmx : max (len mm) (len nn) ≤ 1099511627776) (hU : len U ≤ max (len mm) (len nn)) (hV : len V ≤ max (len mm) (len nn))
include l0 l1 l2 l3 hmx hU hV
theorem AdH(e1:U+c0*mm=d0*nn)(e2:V+d1*nn=c1*mm):RA 38 [(Am (.agg #[.int .u64 (c0:Int),.int .u64 (d0:Int),.int .u64 (c1:Int),.int .u64 (d1:Int),.bool true])),(Aw mm),(Aw nn)] [(Ed c0 d0 c1 d1 true)] ⟨[(0,(.ref 0)),(1,(.ref 1)),(2,(.ref 2))],[]⟩ ⟨[(0,(.ref 0)),(1,(.ref 1)),(2,(.ref 2)),(6,.nil),(7,.nil)],[(3,0)]⟩ Wb 0 US false:=RA.of
   { boxes:=[⟨134,(.ref 0),0,λw v h=>RS w v h⟩] } (by kernel_rfl)
theorem Ada(e1:U+c0*mm=d0*nn)(e2:V+d1*nn=c1*mm):RA 38 [(Am (.agg #[.int .u64 (c0:Int),.int .u64 (d0:Int),.int .u64 (c1:Int),.int .u64 (d1:Int),.bool true])),(Aw mm),(Aw nn)] [(Ed c0 d0 c1 d1 true)] ⟨[(0,(.ref 0)),(1,(.ref 1)),(2,(.ref 2)),(6,.nil),(7,.nil)],[(3,0)]⟩ ⟨[(0,(.ref 0)),(1,(.ref 1)),(2,(.ref 2)),(6,.nil),(7,.nil),(9,(.bool true))],[(3,0)]⟩ Wb 1 Um false:=RA.of
   { loads:=[⟨4,4,0,(.bool true),λw q h=>lX w q h⟩],
     flds:=[⟨134,4,4,xX⟩] } (by kernel_rfl)
theorem AcQ(e1:U+c0*mm=d0*nn)(e2:V+d1*nn=c1*mm):RA 38 [(Am (.int .u64 (d0:Int))),(Am (.int .u64 (c0:Int))),(Aw nn),(Aw mm),(Aw U),(Am (.int .u64 (c1:Int))),(Am (.int .u64 (d1:Int))),(Aw V),(Am (.agg #[.int .u64 (c0:Int),.int .u64 (d0:Int),.int .u64 (c1:Int),.int .u64 (d1:Int),.bool true]))] [(Ed c0 d0 c1 d1 true)] ⟨[(0,(.ref 8)),(1,(.ref 3)),(2,(.ref 2)),(6,.nil),(7,.nil),(9,(.bool true))],[(3,0)]⟩ ⟨[(0,(.ref 8)),(1,(.ref 3)),(2,(.ref 2)),(6,(.ref 4)),(7,(.ref 7)),(9,(.bool true))],[(3,0)]⟩ Wb 2 jN true:=RA.of
   { calls:=[c4 141 (.ref 2) (.ref 0) (.ref 3) (.ref 1) (.ref 4) λw v0 v1 v2 v3 hb h0 h1 h2 h3=>WL h0 h1 h2 h3 (by assumption) (by assumption) e1 (Nat.max_comm (len mm) (len nn) ▸ hmx) (Nat.max_comm (len mm) (len nn) ▸ hU),
      c4 141 (.ref 3) (.ref 5) (.ref 2) (.ref 6) (.ref 7) λw v0 v1 v2 v3 hb h0 h1 h2 h3=>WL h0 h1 h2 h3 (by assumption) (by assumption) e2 hmx hV],
     loads:=[⟨112,1,0,(.ref 0),λw q h=>Pp w q h⟩,
      ⟨112,0,0,(.ref 1),λw q h=>bC w q h⟩,
      ⟨112,2,0,(.ref 5),λw q h=>aJ w q h⟩,
      ⟨112,3,0,(.ref 6),λw q h=>mL w q h⟩],
     flds:=[⟨134,1,1,Wo⟩,
      ⟨134,0,0,AaP⟩,
      ⟨134,2,2,xV⟩,
      ⟨134,3,3,Aad⟩] } (by kernel_rfl)
theorem uG(e1:U+d0*nn=c0*mm)(e2:V+c1*mm=d1*nn):RA 38 [(Am (.agg #[.int .u64 (c0:Int),.int .u64 (d0:Int),.int .u64 (c1:Int),.int .u64 (d1:Int),.bool false])),(Aw mm),(Aw nn)] [(Ed c0 d0 c1 d1 false)] ⟨[(0,(.ref 0)),(1,(.ref 1)),(2,(.ref 2))],[]⟩ ⟨[(0,(.ref 0)),(1,(.ref 1)),(2,(.ref 2)),(6,.nil),(7,.nil)],[(3,0)]⟩ Wb 0 US false:=RA.of
   { boxes:=[⟨134,(.ref 0),0,λw v h=>RS w v h⟩] } (by kernel_rfl)
theorem wW(e1:U+d0*nn=c0*mm)(e2:V+c1*mm=d1*nn):RA 38 [(Am (.agg #[.int .u64 (c0:Int),.int .u64 (d0:Int),.int .u64 (c1:Int),.int .u64 (d1:Int),.bool false])),(Aw mm),(Aw nn)] [(Ed c0 d0 c1 d1 false)] ⟨[(0,(.ref 0)),(1,(.ref 1)),(2,(.ref 2)),(6,.nil),(7,.nil)],[(3,0)]⟩ ⟨[(0,(.ref 0)),(1,(.ref 1)),(2,(.ref 2)),(6,.nil),(7,.nil),(9,(.bool false))],[(3,0)]⟩ Wb 1 Um false:=RA.of
   { loads:=[⟨4,4,0,(.bool false),λw q h=>lX w q h⟩],
     flds:=[⟨134,4,4,xX⟩] } (by kernel_rfl)
theorem Aco(e1:U+d0*nn=c0*mm)(e2:V+c1*mm=d1*nn):RA 38 [(Am (.int .u64 (c0:Int))),(Am (.int .u64 (d0:Int))),(Aw mm),(Aw nn),(Aw U),(Am (.int .u64 (d1:Int))),(Am (.int .u64 (c1:Int))),(Aw V),(Am (.agg #[.int .u64 (c0:Int),.int .u64 (d0:Int),.int .u64 (c1:Int),.int .u64 (d1:Int),.bool false]))] [(Ed c0 d0 c1 d1 false)] ⟨[(0,(.ref 8)),(1,(.ref 2)),(2,(.ref 3)),(6,.nil),(7,.nil),(9,(.bool false))],[(3,0)]⟩ ⟨[(0,(.ref 8)),(1,(.ref 2)),(2,(.ref 3)),(6,(.ref 4)),(7,(.ref 7)),(9,(.bool false))],[(3,0)]⟩ Wb 3 mW true:=RA.of
   { calls:=[c4 141 (.ref 2) (.ref 0) (.ref 3) (.ref 1) (.ref 4) λw v0 v1 v2 v3 hb h0 h1 h2 h3=>WL h0 h1 h2 h3 (by assumption) (by assumption) e1 hmx hU,
      c4 141 (.ref 3) (.ref 5) (.ref 2) (.ref 6) (.ref 7) λw v0 v1 v2 v3 hb h0 h1 h2 h3=>WL h0 h1 h2 h3 (by assumption) (by assumption) e2 (Nat.max_comm (len mm) (len nn) ▸ hmx) (Nat.max_comm (len mm) (len nn) ▸ hV)],
     loads:=[⟨112,0,0,(.ref 0),λw q h=>bC w q h⟩,
      ⟨112,1,0,(.ref 1),λw q h=>Pp w q h⟩,
      ⟨112,3,0,(.ref 5),λw q h=>mL w q h⟩,
      ⟨112,2,0,(.ref 6),λw q h=>aJ w q h⟩],
     flds:=[⟨134,0,0,AaP⟩,
      ⟨134,1,1,Wo⟩,
      ⟨134,3,3,Aad⟩,
      ⟨134,2,2,xV⟩] } (by kernel_rfl)
end
theorem YT(va vb:Value)(mm nn c0 d0 c1 d1 U V:Nat)(W:World)(ha:AB W va mm)(hb:AB W vb nn)(l0:c0<4294967296)(l1:d0<4294967296)(l2:c1<4294967296)(l3:d1<4294967296)(hmx:max (len mm) (len nn)≤1099511627776)(hU:len U≤max (len mm) (len nn))(hV:len V≤max (len mm) (len nn))(e1:U+c0*mm=d0*nn)(e2:V+d1*nn=c1*mm) :
  Calls Tryz.prog 127 #[.agg #[.int .u64 (c0:Int),.int .u64 (d0:Int),.int .u64 (c1:Int),.int .u64 (d1:Int),.bool true],va,vb] W (Aj (B5 (Aw U) (Aw V)) W):=by
 refine Dh (S:=[(0,(Am (.agg #[.int .u64 (c0:Int),.int .u64 (d0:Int),.int .u64 (c1:Int),.int .u64 (d1:Int),.bool true]))),(1,(Aw mm)),(2,(Aw nn))]) Tryz.func127 (by kernel_rfl) Tryz.ntmps127 (by simp) (λx hx=>?_) λa w hst=>?_
 ·simp only [List.mem_cons,List.not_mem_nil,or_false] at hx
  rcases hx with rfl | rfl | rfl
  ·exact ⟨_,rfl,rfl⟩
  ·exact ⟨_,rfl,ha⟩
  ·exact ⟨_,rfl,hb⟩
 show Code.wp _ MV _ a w;rw [gT];refine wp_seq ?_;rw [dJ];refine (AdH l0 l1 l2 l3 hmx hU hV e1 e2).run hst ?_;clear hst;intro a w hst;show Code.wp _ JU _ a w;rw [kU];refine wp_seq ?_;rw [dT];refine wp_seq ?_;rw [kQ];refine (Ada l0 l1 l2 l3 hmx hU hV e1 e2).run hst ?_;clear hst;intro a w hst;show Code.wp _ J_ _ a w;rw [dY];refine wp_cond_true (A7 hst 5 rfl) ?_;show Code.wp _ MP _ a w;rw [AdD];refine wp_seq ?_;rw [Abo];refine (AcQ l0 l1 l2 l3 hmx hU hV e1 e2).run hst ?_;clear hst;intro a w hst;show Code.wp _ QQ _ a w;rw [oZ];refine wp_ret ?_;exact Ss hst rfl 3 rfl 4 rfl
theorem VZ(va vb:Value)(mm nn c0 d0 c1 d1 U V:Nat)(W:World)(ha:AB W va mm)(hb:AB W vb nn)(l0:c0<4294967296)(l1:d0<4294967296)(l2:c1<4294967296)(l3:d1<4294967296)(hmx:max (len mm) (len nn)≤1099511627776)(hU:len U≤max (len mm) (len nn))(hV:len V≤max (len mm) (len nn))(e1:U+d0*nn=c0*mm)(e2:V+c1*mm=d1*nn) :
  Calls Tryz.prog 127 #[.agg #[.int .u64 (c0:Int),.int .u64 (d0:Int),.int .u64 (c1:Int),.int .u64 (d1:Int),.bool false],va,vb] W (Aj (B5 (Aw U) (Aw V)) W):=by
 refine Dh (S:=[(0,(Am (.agg #[.int .u64 (c0:Int),.int .u64 (d0:Int),.int .u64 (c1:Int),.int .u64 (d1:Int),.bool false]))),(1,(Aw mm)),(2,(Aw nn))]) Tryz.func127 (by kernel_rfl) Tryz.ntmps127 (by simp) (λx hx=>?_) λa w hst=>?_
 ·simp only [List.mem_cons,List.not_mem_nil,or_false] at hx
  rcases hx with rfl | rfl | rfl
  ·exact ⟨_,rfl,rfl⟩
  ·exact ⟨_,rfl,ha⟩
  ·exact ⟨_,rfl,hb⟩
 show Code.wp _ MV _ a w;rw [gT];refine wp_seq ?_;rw [dJ];refine (uG l0 l1 l2 l3 hmx hU hV e1 e2).run hst ?_;clear hst;intro a w hst;show Code.wp _ JU _ a w;rw [kU];refine wp_seq ?_;rw [dT];refine wp_seq ?_;rw [kQ];refine (wW l0 l1 l2 l3 hmx hU hV e1 e2).run hst ?_;clear hst;intro a w hst;show Code.wp _ J_ _ a w;rw [dY];refine wp_cond_false (A7 hst 5 rfl) ?_;show Code.wp _ Vo _ a w;rw [Aa1];refine wp_skip ?_;show Code.wp _ M8 _ a w;rw [Aba];refine wp_seq ?_;rw [qZ];refine (Aco l0 l1 l2 l3 hmx hU hV e1 e2).run hst ?_;clear hst;intro a w hst;show Code.wp _ QI _ a w;rw [rP];refine wp_ret ?_;exact Ss hst rfl 3 rfl 4 rfl
section
variable {ops : Array Oper} {N : Nat} {Wb W0 : World} {a0 : Act} {F : List PF} {BX : List Bk} {AD : List (Nat × Nat × Nat)} {i : Nat} {g : Option (Nat × Bool)}
end
def El(p q a0 b0 a1 b1:Nat)(o:Bool):Prop:=a0<4294967296∧b0<4294967296∧a1<4294967296∧b1<4294967296∧(b0≠0→uP p q a0 b0 a1 b1 o)
def AcV(p q:Nat):PF:=⟨λv _=>∃(a0 b0 a1 b1:Nat)(o:Bool),v = .agg #[.int .u64 (a0:Int),.int .u64 (b0:Int),.int .u64 (a1:Int),.int .u64 (b1:Int),.bool o]∧El p q a0 b0 a1 b1 o,λ_ _ _ _ h=>h⟩
def mE(p q:Nat):CF:=⟨λg w=>∃(a0 b0 a1 b1:Nat)(o:Bool),El p q a0 b0 a1 b1 o∧(Ed a0 b0 a1 b1 o).p g w,
 λg w w' hg e ⟨a0,b0,a1,b1,o,hk,h⟩=>⟨a0,b0,a1,b1,o,hk,(Ed a0 b0 a1 b1 o).st g w w' hg e h⟩,λg w ⟨a0,b0,a1,b1,o,_,h⟩=>(Ed a0 b0 a1 b1 o).ty g w h⟩
theorem Xa{Wb:World}{N p q:Nat}{S:List (Nat × PF)}{a:Act}{w:World}(hst:St Wb N S [(5,mE p q)] a w):∃(a0 b0 a1 b1:Nat)(o:Bool),El p q a0 b0 a1 b1 o∧St Wb N S [(5,Ed a0 b0 a1 b1 o)] a w:=by
 obtain ⟨s1,s2,s3,s4,s5,s6,s7⟩:=hst;obtain ⟨⟨g,h1,h2,a0,b0,a1,b1,o,hk,hb⟩,_⟩:=s6;exact ⟨a0,b0,a1,b1,o,hk,s1,s2,s3,s4,s5,⟨⟨g,h1,h2,hb⟩,trivial⟩,by simp⟩
theorem V6(w:World):(Instr.alloc 134 true (.tuple #[])).run Tryz.prog w = .ok (.pointer (some ⟨w.heap.size,0,none⟩)) (w.alloc (.cells #[.int .u64 0,.int .u64 0,.int .u64 0,.int .u64 0,.bool false] 134 (0,0))):=by simp [go_sem]
theorem Ux(w:World):(Ed 0 0 0 0 false).p w.heap.size (w.alloc (.cells #[.int .u64 0,.int .u64 0,.int .u64 0,.int .u64 0,.bool false] 134 (0,0))):=Io w _
theorem AdX{p q:Nat}:Fb 134 (Ed 0 0 0 0 false) (AcV p q) (mE p q):=by
 intro w g v h1 h2;obtain ⟨a0,b0,a1,b1,o,rfl,hk⟩:=h2;have hh:w.heap[g]? = some (.cells #[.int .u64 0,.int .u64 0,.int .u64 0,.int .u64 0,.bool false] 134 (0,0)):=h1;have c0:w.cell? ⟨g,0,none⟩=some (.int .u64 0):=by rw [cell_of_row w g 0 _ _ (0,0) hh]; rfl
 have c1:w.cell? ⟨g,1,none⟩=some (.int .u64 0):=by rw [cell_of_row w g 1 _ _ (0,0) hh]; rfl
 have c2:w.cell? ⟨g,2,none⟩=some (.int .u64 0):=by rw [cell_of_row w g 2 _ _ (0,0) hh]; rfl
 have c3:w.cell? ⟨g,3,none⟩=some (.int .u64 0):=by rw [cell_of_row w g 3 _ _ (0,0) hh]; rfl
 have c4:w.cell? ⟨g,4,none⟩=some (.bool false):=by rw [cell_of_row w g 4 _ _ (0,0) hh]; rfl
 have f0:=AA hh 0;have f1:=AA hh 1;have f2:=AA hh 2;have f3:=AA hh 3;have f4:=AA hh 4;have hne:(134:TypeId)≠114:=by decide
 have k1:=Az hh 0 (.int .u64 (a0:Int));have k2:=Az k1 1 (.int .u64 (b0:Int));have k3:=Az k2 2 (.int .u64 (a1:Int));have k4:=Az k3 3 (.int .u64 (b1:Int));have k5:=Az k4 4 (.bool o);refine ⟨((((w.setCell ⟨g,0,none⟩ (.int .u64 a0)).setCell ⟨g,1,none⟩ (.int .u64 b0)).setCell ⟨g,2,none⟩ (.int .u64 a1)).setCell ⟨g,3,none⟩ (.int .u64 b1)).setCell ⟨g,4,none⟩ (.bool o),by simp [go_sem,c0,c1,c2,c3,c4,f0,f1,f2,f3,f4],
  λB W hq hB=>((((hB.setCell hq _).setCell hq _).setCell hq _).setCell hq _).setCell hq _,?_,λj hj=>?_,⟨a0,b0,a1,b1,o,hk,k5⟩⟩
 ·exact ((((Bs.set hh hne 0 _).trans (Bs.set k1 hne 1 _)).trans (Bs.set k2 hne 2 _)).trans (Bs.set k3 hne 3 _)).trans (Bs.set k4 hne 4 _)
 ·exact (Below.heap_setCell _ _ _ j (by simpa using hj)).trans ((Below.heap_setCell _ _ _ j (by simpa using hj)).trans ((Below.heap_setCell _ _ _ j (by simpa using hj)).trans ((Below.heap_setCell _ _ _ j (by simpa using hj)).trans (Below.heap_setCell _ _ _ j (by simpa using hj)))))
theorem AeZ{a0 b0 a1 b1:Nat}{o:Bool}(w:World)(q:Nat)(h:(Ed a0 b0 a1 b1 o).p q w):∃ v,(Instr.loadAt 134 (.pointer (some ⟨q,0,none⟩))).run Tryz.prog w = .ok v w∧(Am (.agg #[.int .u64 (a0:Int),.int .u64 (b0:Int),.int .u64 (a1:Int),.int .u64 (b1:Int),.bool o])).p v w:=by
 have hh:w.heap[q]? = some (.cells #[.int .u64 (a0:Int),.int .u64 (b0:Int),.int .u64 (a1:Int),.int .u64 (b1:Int),.bool o] 134 (0,0)):=h;have c0:w.cell? ⟨q,0,none⟩=some (.int .u64 (a0:Int)):=by rw [cell_of_row w q 0 _ _ (0,0) hh]; rfl
 have c1:w.cell? ⟨q,1,none⟩=some (.int .u64 (b0:Int)):=by rw [cell_of_row w q 1 _ _ (0,0) hh]; rfl
 have c2:w.cell? ⟨q,2,none⟩=some (.int .u64 (a1:Int)):=by rw [cell_of_row w q 2 _ _ (0,0) hh]; rfl
 have c3:w.cell? ⟨q,3,none⟩=some (.int .u64 (b1:Int)):=by rw [cell_of_row w q 3 _ _ (0,0) hh]; rfl
 have c4:w.cell? ⟨q,4,none⟩=some (.bool o):=by rw [cell_of_row w q 4 _ _ (0,0) hh]; rfl
 exact ⟨_,by simp [go_sem,c0,c1,c2,c3,c4],rfl⟩
theorem Pr{ρ:Operand→Value}{w:World}{x:Operand}{n:Nat}(hx:(Aw n).p (ρ x) w):FI (.call { callee:=.builtin .len,args:=#[x],argTypes:=#[32] }) ρ w (Am (.int .i64 (len n:Int))):=by
 have hx:AB w (ρ x) n:=hx;obtain ⟨A,c,e,_⟩:=hx;exact Ow (show (Am (.slice A (len n) c)).p (ρ x) w from e)
theorem sB{x y:Nat}(h:y≤x):decide (Gy x y<0)=false:=by
 rcases Nat.lt_or_eq_of_le h with h | h
 ·rw [Fh h]; decide
 ·rw [FR h.symm]; decide
theorem Ac7{q:Nat}(h:0<q):((len q:Int) == 0)=false:=by
 have:len q≠0:=λe=>by have:=AZ.1 e; omega
 simp;omega
section
variable {w : World} {va vb : Value} {x y : Nat}
theorem SL(ha:(Aw x).p va w)(hb:(Aw y).p vb w)(hx:len x≤1099511627776)(hy:len y≤1099511627776):Calls Tryz.prog 124 #[va,vb] w (Aj (Am (.int .i64 (Gy x y))) w):=by
 have ha:AB w va x:=ha;have hb:AB w vb y:=hb;obtain ⟨A,c,rfl,HA⟩:=ha.open_;obtain ⟨B,d,rfl,HB⟩:=hb.open_;exact (Ha A B c d x y w HA.out HB.out hx hy).mono λ_ _ ⟨he,hb⟩=>⟨_,he,rfl,hb⟩
theorem ZV(ha:(Aw x).p va w)(hb:(Aw y).p vb w)(h3:3≤len x)(hla:len x≤1099511627776)(hba:y≤x):Calls Tryz.prog 125 #[va,vb] w (Aj (AcV x y) w):=
 (QY va vb x y w ha hb h3 hla hba).mono λ_ _ ⟨a0,b0,a1,b1,o,he,k0,k1,k2,k3,k4,hb⟩=>⟨_,he,⟨a0,b0,a1,b1,o,rfl,k0,k1,k2,k3,k4⟩,hb⟩
theorem XX(ha:(Aw x).p va w)(hb:(Aw y).p vb w)(hx:len x≤1099511627775)(hy:len y≤1099511627775)(h0:0<y):Calls Tryz.prog 126 #[va,vb] w (Aj (B5 (Aw (x / y)) (Aw (x % y))) w):=
 (ME va vb x y w ha hb hx hy h0).mono λ_ _ ⟨vq,vr,he,hq,hr,hb⟩=>⟨_,he,⟨vq,vr,rfl,hq,hr⟩,hb⟩
theorem Yb(ha:(Aw x).p va w)(hx:x<18446744073709551616):Calls Tryz.prog 129 #[va] w (Aj (Am (.int .u64 (x:Int))) w):=by
 have ha:AB w va x:=ha;obtain ⟨A,c,rfl,HA⟩:=ha.open_;exact (IR A c x w HA.out.mem.2.2 hx).mono λ_ _ ⟨he,hw⟩=>⟨_,he,rfl,hw ▸ Below.refl _ _⟩
theorem P8(ha:(Am (.int .u64 (x:Int))).p va w)(hb:(Am (.int .u64 (y:Int))).p vb w)(hx:x<18446744073709551616)(hy:y<18446744073709551616):Calls Tryz.prog 128 #[va,vb] w (Aj (Am (.int .u64 (Nat.gcd x y:Nat))) w):=by
 have ha:va = .int .u64 (x:Int):=ha;have hb:vb = .int .u64 (y:Int):=hb;subst ha hb;exact (KU x y w hx hy).mono λ_ _ ⟨he,hb⟩=>⟨_,he,rfl,hb⟩
theorem ZQ(ha:(Am (.int .u64 (x:Int))).p va w)(hx:x<18446744073709551616):Calls Tryz.prog 103 #[va] w (Aj (Aw x) w):=by
 have ha:va = .int .u64 (x:Int):=ha;subst ha;exact CU x w hx
theorem AdR{vs:Value}{p q c0 d0 c1 d1 U V:Nat}{o:Bool}(hs:(Am (.agg #[.int .u64 (c0:Int),.int .u64 (d0:Int),.int .u64 (c1:Int),.int .u64 (d1:Int),.bool o])).p vs w)(ha:(Aw p).p va w)(hb:(Aw q).p vb w)(hok:El p q c0 d0 c1 d1 o)(hUV:if o then U+c0*p=d0*q∧V+d1*q=c1*p else U+d0*q=c0*p∧V+c1*p=d1*q)(hU:U<p)(hV:V<q)(bp:len p≤1099511627775)(bq:len q≤1099511627775) :
  Calls Tryz.prog 127 #[vs,va,vb] w (Aj (B5 (Aw U) (Aw V)) w):=by
 have hs:vs = .agg #[.int .u64 (c0:Int),.int .u64 (d0:Int),.int .u64 (c1:Int),.int .u64 (d1:Int),.bool o]:=hs;subst hs;have h1:=AX (Nat.le_of_lt hU);have h2:=AX (Nat.le_of_lt hV);obtain ⟨k0,k1,k2,k3,_⟩:=hok
 cases o
 ·simp only [Bool.false_eq_true,if_false] at hUV
  exact VZ va vb p q c0 d0 c1 d1 U V w ha hb k0 k1 k2 k3 (by omega) (by omega) (by omega) hUV.1 hUV.2
 ·simp only [if_true] at hUV
  exact YT va vb p q c0 d0 c1 d1 U V w ha hb k0 k1 k2 k3 (by omega) (by omega) (by omega) hUV.1 hUV.2
end
noncomputable def Ps:=DG Tryz.f118
noncomputable def VY:=cl Ps
noncomputable def Kp:=cr Ps
theorem iV:Ps = .seq VY Kp:=by kernel_rfl
noncomputable def VD:=Ba VY
theorem eG:VY = .region 0 VD false:=by kernel_rfl
noncomputable def Qo:=cl Kp
noncomputable def Ki:=cr Kp
theorem fA:Kp = .seq Qo Ki:=by kernel_rfl
noncomputable def UT:=cl Qo
noncomputable def JJ:=cr Qo
theorem fW:Qo = .seq UT JJ:=by kernel_rfl
noncomputable def Uh:=Ba UT
theorem dB:UT = .region 1 Uh false:=by kernel_rfl
noncomputable def QH:=cl JJ
noncomputable def Vv:=cr JJ
theorem jI:JJ = .cond (.tmp 13) QH Vv:=by kernel_rfl
noncomputable def gA:=Ba QH
theorem AeA:QH = .region 2 gA false:=by kernel_rfl
theorem Ad2:Vv = .skip:=by kernel_rfl
noncomputable def VR:=cl Ki
noncomputable def E8:=cr Ki
theorem jY:Ki = .seq VR E8:=by kernel_rfl
noncomputable def Jx:=cl VR
theorem iB:VR = .block 0 Jx:=by kernel_rfl
noncomputable def Hi:=cl Jx
theorem X8:Jx = .loop Hi:=by kernel_rfl
noncomputable def LD:=cl Hi
noncomputable def JA:=cr Hi
theorem Li:Hi = .seq LD JA:=by kernel_rfl
noncomputable def QZ:=cl LD
noncomputable def Fg:=cr LD
theorem Lz:LD = .seq QZ Fg:=by kernel_rfl
noncomputable def UJ:=Ba QZ
theorem K3:QZ = .region 3 UJ false:=by kernel_rfl
noncomputable def Lr:=cl Fg
noncomputable def Lj:=cr Fg
theorem K9:Fg = .cond (.tmp 18) Lr Lj:=by kernel_rfl
theorem Ye:Lr = .skip:=by kernel_rfl
theorem WK:Lj = .exit 0:=by kernel_rfl
noncomputable def G4:=cl JA
theorem Xn:JA = .block 1 G4:=by kernel_rfl
noncomputable def Pc:=cl G4
noncomputable def ET:=cr G4
theorem Wk:G4 = .seq Pc ET:=by kernel_rfl
noncomputable def jH:=Ba Pc
theorem WT:Pc = .region 4 jH false:=by kernel_rfl
noncomputable def PA:=cl ET
noncomputable def EY:=cr ET
theorem Lg:ET = .seq PA EY:=by kernel_rfl
noncomputable def Vn:=Ba PA
theorem Ld:PA = .region 5 Vn false:=by kernel_rfl
noncomputable def Ht:=cl EY
noncomputable def Js:=cr EY
theorem Lw:EY = .cond (.tmp 24) Ht Js:=by kernel_rfl
noncomputable def Pb:=cl Ht
noncomputable def Jy:=cr Ht
theorem Wy:Ht = .seq Pb Jy:=by kernel_rfl
noncomputable def eI:=Ba Pb
theorem Yn:Pb = .region 6 eI false:=by kernel_rfl
noncomputable def iN:=Ba Jy
theorem XJ:Jy = .region 7 iN false:=by kernel_rfl
noncomputable def cY:=Ba Js
theorem XO:Js = .region 8 cY false:=by kernel_rfl
noncomputable def Lh:=cl E8
noncomputable def Hl:=cr E8
theorem LN:E8 = .seq Lh Hl:=by kernel_rfl
noncomputable def Ry:=cl Lh
noncomputable def Fc:=cr Lh
theorem Lp:Lh = .seq Ry Fc:=by kernel_rfl
noncomputable def Up:=Ba Ry
theorem LG:Ry = .region 9 Up false:=by kernel_rfl
noncomputable def Hm:=cl Fc
noncomputable def Lq:=cr Fc
theorem KW:Fc = .cond (.tmp 42) Hm Lq:=by kernel_rfl
noncomputable def Pz:=cl Hm
noncomputable def K7:=cr Hm
theorem Wh:Hm = .seq Pz K7:=by kernel_rfl
noncomputable def Wn:=Ba Pz
theorem Xp:Pz = .region 10 Wn false:=by kernel_rfl
theorem Xb:K7 = .ret:=by kernel_rfl
theorem XW:Lq = .skip:=by kernel_rfl
noncomputable def QW:=cl Hl
noncomputable def HF:=cr Hl
theorem We:Hl = .seq QW HF:=by kernel_rfl
noncomputable def Wg:=Ba QW
theorem Wz:QW = .region 11 Wg false:=by kernel_rfl
noncomputable def PB:=cl HF
noncomputable def KZ:=cr HF
theorem X9:HF = .seq PB KZ:=by kernel_rfl
noncomputable def Yd:=Ba PB
theorem YB:PB = .region 12 Yd false:=by kernel_rfl
theorem Yo:KZ = .ret:=by kernel_rfl
section
set_option linter.unusedSectionVars false
variable {Wb : World}
theorem Aez{pp qq:Nat}(hlp:len pp≤1099511627775)(hlq:len qq≤1099511627775)(lt:pp<qq):RA 56 [(Aw pp),(Aw qq)] [] ⟨[(0,(.ref 0)),(1,(.ref 1))],[]⟩ ⟨[(0,(.ref 0)),(1,(.ref 1)),(4,.nil)],[]⟩ Wb 0 VD false:=RA.of
   {  } (by kernel_rfl)
theorem Adt{pp qq:Nat}(hlp:len pp≤1099511627775)(hlq:len qq≤1099511627775)(lt:pp<qq):RA 56 [(Aw pp),(Aw qq),(Am (.int .i64 (Gy pp qq)))] [] ⟨[(0,(.ref 0)),(1,(.ref 1)),(4,.nil)],[]⟩ ⟨[(0,(.ref 0)),(1,(.ref 1)),(4,.nil),(13,(.bool true))],[]⟩ Wb 1 Uh false:=RA.of
   { pures:=[p2 (.bin .lss 3 3) (.ref 2) (.int .i64 0) (.bool true) λ_ _ _ _ _ hx hy=>GZ (r:=true) (by rw [Hx lt]; decide) hx hy],
     calls:=[c2 124 (.ref 0) (.ref 1) (.ref 2) λw v0 v1 hb h0 h1=>SL h0 h1 (by omega) (by omega)] } (by kernel_rfl)
theorem AcT{pp qq:Nat}(hlp:len pp≤1099511627775)(hlq:len qq≤1099511627775)(lt:pp<qq):RA 56 [(Aw pp),(Aw qq)] [] ⟨[(0,(.ref 0)),(1,(.ref 1)),(4,.nil),(13,(.bool true))],[]⟩ ⟨[(0,(.ref 1)),(1,(.ref 0)),(4,.nil),(13,(.bool true))],[]⟩ Wb 2 gA false:=RA.of
   {  } (by kernel_rfl)
theorem lJ{p q:Nat}(hqp:q≤p)(bp:len p≤1099511627775)(bq:len q≤1099511627775)(h3:3≤len q):RA 56 [(Aw q),(Am (.int .i64 (len q:Int))),(Aw p)] [] ⟨[(0,(.ref 2)),(1,(.ref 0))],[]⟩ ⟨[(0,(.ref 2)),(1,(.ref 0)),(18,(.bool true))],[]⟩ Wb 3 UJ false:=RA.of
   { pures:=[p1 (.blt .len [32]) (.ref 0) (.ref 1) λ_ _ _ _ hx=>Pr hx,
      p2 (.bin .gtr 3 3) (.ref 1) (.int .i64 2) (.bool true) λ_ _ _ _ _ hx hy=>ES (r:=true) (by simp; omega) hx hy] } (by kernel_rfl)
theorem bE{p q:Nat}(hqp:q≤p)(bp:len p≤1099511627775)(bq:len q≤1099511627775)(h3:3≤len q):RA 56 [(Aw p),(Aw q),(AcV p q)] [(Ed 0 0 0 0 false),(mE p q)] ⟨[(0,(.ref 0)),(1,(.ref 1)),(18,(.bool true))],[]⟩ ⟨[(0,(.ref 0)),(1,(.ref 1)),(18,(.bool true))],[(5,1)]⟩ Wb 4 jH false:=RA.of
   { calls:=[c2 125 (.ref 0) (.ref 1) (.ref 2) λw v0 v1 hb h0 h1=>ZV h0 h1 (by have:=AX hqp; omega) (by omega) hqp],
     allocs:=[⟨134,0,_,V6,Ux⟩],
     stores:=[⟨134,0,0,(.ref 2),1,AdX⟩] } (by kernel_rfl)
theorem aH{p q:Nat}(hqp:q≤p)(bp:len p≤1099511627775)(bq:len q≤1099511627775)(h3:3≤len q){c0 d0 c1 d1:Nat}{o:Bool}(hok:El p q c0 d0 c1 d1 o)(hz:d0=0)(q0:0<q):RA 56 [(Am (.int .u64 (d0:Int))),(Aw p),(Aw q)] [(Ed c0 d0 c1 d1 o)] ⟨[(0,(.ref 1)),(1,(.ref 2)),(18,(.bool true))],[(5,0)]⟩ ⟨[(0,(.ref 1)),(1,(.ref 2)),(18,(.bool true)),(24,(.bool true))],[(5,0)]⟩ Wb 5 Vn false:=RA.of
   { pures:=[p2 (.bin .eql 112 112) (.ref 0) (.int .u64 0) (.bool true) λ_ _ _ _ _ hx hy=>Cu (r:=true) (by simp; omega) hx hy],
     loads:=[⟨112,1,0,(.ref 0),λw q h=>Pp w q h⟩],
     flds:=[⟨134,1,1,Wo⟩] } (by kernel_rfl)
theorem nL{p q:Nat}(hqp:q≤p)(bp:len p≤1099511627775)(bq:len q≤1099511627775)(h3:3≤len q){c0 d0 c1 d1:Nat}{o:Bool}(hok:El p q c0 d0 c1 d1 o)(hz:d0=0)(q0:0<q):RA 56 [(Aw p),(Aw q),(Aw (p / q)),(Aw (p % q))] [(Ed c0 d0 c1 d1 o)] ⟨[(0,(.ref 0)),(1,(.ref 1)),(18,(.bool true)),(24,(.bool true))],[(5,0)]⟩ ⟨[(0,(.ref 0)),(1,(.ref 1)),(7,(.ref 3)),(18,(.bool true)),(24,(.bool true))],[(5,0)]⟩ Wb 6 eI false:=RA.of
   { calls:=[c2 126 (.ref 0) (.ref 1) (.tup2 (.ref 2) (.ref 3)) λw v0 v1 hb h0 h1=>XX h0 h1 (by omega) (by omega) q0] } (by kernel_rfl)
theorem bP{p q:Nat}(hqp:q≤p)(bp:len p≤1099511627775)(bq:len q≤1099511627775)(h3:3≤len q){c0 d0 c1 d1:Nat}{o:Bool}(hok:El p q c0 d0 c1 d1 o)(hz:d0=0)(q0:0<q):RA 56 [(Aw p),(Aw q),(Aw (p % q))] [(Ed c0 d0 c1 d1 o)] ⟨[(0,(.ref 0)),(1,(.ref 1)),(7,(.ref 2)),(18,(.bool true)),(24,(.bool true))],[(5,0)]⟩ ⟨[(0,(.ref 1)),(1,(.ref 2)),(7,(.ref 2)),(18,(.bool true)),(24,(.bool true))],[(5,0)]⟩ Wb 7 iN false:=RA.of
   {  } (by kernel_rfl)
theorem Ya{p q:Nat}(hqp:q≤p)(bp:len p≤1099511627775)(bq:len q≤1099511627775)(h3:3≤len q){c0 d0 c1 d1:Nat}{o:Bool}(hok:El p q c0 d0 c1 d1 o)(hz:d0≠0){U V:Nat}(hUV:if o then U+c0*p=d0*q∧V+d1*q=c1*p else U+d0*q=c0*p∧V+c1*p=d1*q)(hU:U<p)(hV:V<q):RA 56 [(Am (.int .u64 (d0:Int))),(Aw p),(Aw q)] [(Ed c0 d0 c1 d1 o)] ⟨[(0,(.ref 1)),(1,(.ref 2)),(18,(.bool true))],[(5,0)]⟩ ⟨[(0,(.ref 1)),(1,(.ref 2)),(18,(.bool true)),(24,(.bool false))],[(5,0)]⟩ Wb 5 Vn false:=RA.of
   { pures:=[p2 (.bin .eql 112 112) (.ref 0) (.int .u64 0) (.bool false) λ_ _ _ _ _ hx hy=>Cu (r:=false) (by simp; omega) hx hy],
     loads:=[⟨112,1,0,(.ref 0),λw q h=>Pp w q h⟩],
     flds:=[⟨134,1,1,Wo⟩] } (by kernel_rfl)
theorem dR{p q:Nat}(hqp:q≤p)(bp:len p≤1099511627775)(bq:len q≤1099511627775)(h3:3≤len q){c0 d0 c1 d1:Nat}{o:Bool}(hok:El p q c0 d0 c1 d1 o)(hz:d0≠0){U V:Nat}(hUV:if o then U+c0*p=d0*q∧V+d1*q=c1*p else U+d0*q=c0*p∧V+c1*p=d1*q)(hU:U<p)(hV:V<q):RA 56 [(Am (.agg #[.int .u64 (c0:Int),.int .u64 (d0:Int),.int .u64 (c1:Int),.int .u64 (d1:Int),.bool o])),(Aw p),(Aw q),(Aw U),(Aw V)] [(Ed c0 d0 c1 d1 o)] ⟨[(0,(.ref 1)),(1,(.ref 2)),(18,(.bool true)),(24,(.bool false))],[(5,0)]⟩ ⟨[(0,(.ref 3)),(1,(.ref 4)),(18,(.bool true)),(24,(.bool false))],[(5,0)]⟩ Wb 8 cY false:=RA.of
   { calls:=[c3 127 (.ref 0) (.ref 1) (.ref 2) (.tup2 (.ref 3) (.ref 4)) λw v0 v1 v2 hb h0 h1 h2=>AdR h0 h1 h2 hok hUV hU hV bp bq],
     loads:=[⟨134,0,0,(.ref 0),λw q h=>AeZ w q h⟩] } (by kernel_rfl)
theorem WQ{p q:Nat}(hqp:q≤p)(bp:len p≤1099511627775)(bq:len q≤1099511627775)(h3:len q≤2):RA 56 [(Aw q),(Am (.int .i64 (len q:Int))),(Aw p)] [] ⟨[(0,(.ref 2)),(1,(.ref 0))],[]⟩ ⟨[(0,(.ref 2)),(1,(.ref 0)),(18,(.bool false))],[]⟩ Wb 3 UJ false:=RA.of
   { pures:=[p1 (.blt .len [32]) (.ref 0) (.ref 1) λ_ _ _ _ hx=>Pr hx,
      p2 (.bin .gtr 3 3) (.ref 1) (.int .i64 2) (.bool false) λ_ _ _ _ _ hx hy=>ES (r:=false) (by simp; omega) hx hy] } (by kernel_rfl)
theorem mP{p q:Nat}(hqp:q≤p)(bp:len p≤1099511627775)(bq:len q≤1099511627775)(q0:q=0):RA 56 [(Aw q),(Am (.int .i64 (len q:Int))),(Aw p)] [] ⟨[(0,(.ref 2)),(1,(.ref 0)),(18,(.bool false))],[]⟩ ⟨[(0,(.ref 2)),(1,(.ref 0)),(18,(.bool false)),(42,(.bool true))],[]⟩ Wb 9 Up false:=RA.of
   { pures:=[p1 (.blt .len [32]) (.ref 0) (.ref 1) λ_ _ _ _ hx=>Pr hx,
      p2 (.bin .eql 3 3) (.ref 1) (.int .i64 0) (.bool true) λ_ _ _ _ _ hx hy=>Cu (r:=true) (by rw [q0,AY]; rfl) hx hy] } (by kernel_rfl)
theorem WE{p q:Nat}(hqp:q≤p)(bp:len p≤1099511627775)(bq:len q≤1099511627775)(q0:q=0):RA 56 [(Aw p),(Aw q)] [] ⟨[(0,(.ref 0)),(1,(.ref 1)),(18,(.bool false)),(42,(.bool true))],[]⟩ ⟨[(0,(.ref 0)),(1,(.ref 1)),(4,(.ref 0)),(18,(.bool false)),(42,(.bool true))],[]⟩ Wb 10 Wn false:=RA.of
   {  } (by kernel_rfl)
theorem Xt{p q:Nat}(hqp:q≤p)(bp:len p≤1099511627775)(bq:len q≤1099511627775)(q0:0<q)(q64:q<18446744073709551616):RA 56 [(Aw q),(Am (.int .i64 (len q:Int))),(Aw p)] [] ⟨[(0,(.ref 2)),(1,(.ref 0)),(18,(.bool false))],[]⟩ ⟨[(0,(.ref 2)),(1,(.ref 0)),(18,(.bool false)),(42,(.bool false))],[]⟩ Wb 9 Up false:=RA.of
   { pures:=[p1 (.blt .len [32]) (.ref 0) (.ref 1) λ_ _ _ _ hx=>Pr hx,
      p2 (.bin .eql 3 3) (.ref 1) (.int .i64 0) (.bool false) λ_ _ _ _ _ hx hy=>Cu (r:=false) (Ac7 q0) hx hy] } (by kernel_rfl)
theorem WU{p q:Nat}(hqp:q≤p)(bp:len p≤1099511627775)(bq:len q≤1099511627775)(q0:0<q)(q64:q<18446744073709551616):RA 56 [(Aw p),(Aw q),(Aw (p / q)),(Aw (p % q))] [] ⟨[(0,(.ref 0)),(1,(.ref 1)),(18,(.bool false)),(42,(.bool false))],[]⟩ ⟨[(0,(.ref 0)),(1,(.ref 1)),(9,(.ref 3)),(18,(.bool false)),(42,(.bool false))],[]⟩ Wb 11 Wg false:=RA.of
   { calls:=[c2 126 (.ref 0) (.ref 1) (.tup2 (.ref 2) (.ref 3)) λw v0 v1 hb h0 h1=>XX h0 h1 (by omega) (by omega) q0] } (by kernel_rfl)
theorem W7{p q:Nat}(hqp:q≤p)(bp:len p≤1099511627775)(bq:len q≤1099511627775)(q0:0<q)(q64:q<18446744073709551616):RA 56 [(Aw q),(Am (.int .u64 ((q:Nat):Int))),(Aw (p % q)),(Am (.int .u64 (((p % q):Nat):Int))),(Am (.int .u64 ((Nat.gcd q (p % q):Nat):Int))),(Aw (Nat.gcd q (p % q))),(Aw p)] [] ⟨[(0,(.ref 6)),(1,(.ref 0)),(9,(.ref 2)),(18,(.bool false)),(42,(.bool false))],[]⟩ ⟨[(0,(.ref 6)),(1,(.ref 0)),(4,(.ref 5)),(9,(.ref 2)),(18,(.bool false)),(42,(.bool false))],[]⟩ Wb 12 Yd false:=RA.of
   { calls:=[c1 129 (.ref 0) (.ref 1) λw v0 hb h0=>Yb h0 q64,
      c1 129 (.ref 2) (.ref 3) λw v0 hb h0=>Yb h0 (Nat.lt_trans (Nat.mod_lt _ q0) q64),
      c2 128 (.ref 1) (.ref 3) (.ref 4) λw v0 v1 hb h0 h1=>P8 h0 h1 q64 (Nat.lt_trans (Nat.mod_lt _ q0) q64),
      c1 103 (.ref 4) (.ref 5) λw v0 hb h0=>ZQ h0 (Nat.lt_of_le_of_lt (Nat.le_of_dvd q0 (Nat.gcd_dvd_left _ _)) q64)] } (by kernel_rfl)
theorem tM{pp qq:Nat}(hlp:len pp≤1099511627775)(hlq:len qq≤1099511627775)(lt:qq≤pp):RA 56 [(Aw pp),(Aw qq)] [] ⟨[(0,(.ref 0)),(1,(.ref 1))],[]⟩ ⟨[(0,(.ref 0)),(1,(.ref 1)),(4,.nil)],[]⟩ Wb 0 VD false:=RA.of
   {  } (by kernel_rfl)
theorem tN{pp qq:Nat}(hlp:len pp≤1099511627775)(hlq:len qq≤1099511627775)(lt:qq≤pp):RA 56 [(Aw pp),(Aw qq),(Am (.int .i64 (Gy pp qq)))] [] ⟨[(0,(.ref 0)),(1,(.ref 1)),(4,.nil)],[]⟩ ⟨[(0,(.ref 0)),(1,(.ref 1)),(4,.nil),(13,(.bool false))],[]⟩ Wb 1 Uh false:=RA.of
   { pures:=[p2 (.bin .lss 3 3) (.ref 2) (.int .i64 0) (.bool false) λ_ _ _ _ _ hx hy=>GZ (r:=false) (sB lt) hx hy],
     calls:=[c2 124 (.ref 0) (.ref 1) (.ref 2) λw v0 v1 hb h0 h1=>SL h0 h1 (by omega) (by omega)] } (by kernel_rfl)
end
theorem SF(va vb:Value)(pp qq:Nat)(W:World)(ha:AB W va pp)(hb:AB W vb qq)(hlp:len pp≤1099511627775)(hlq:len qq≤1099511627775) :
  Calls Tryz.prog 118 #[va,vb] W (Aj (Aw (Nat.gcd pp qq)) W):=by
 refine Dh (S:=[(0,(Aw pp)),(1,(Aw qq))]) Tryz.func118 (by kernel_rfl) Tryz.ntmps118 (by simp) (λx hx=>?_) λa w hst=>?_
 ·simp only [List.mem_cons,List.not_mem_nil,or_false] at hx
  rcases hx with rfl | rfl
  ·exact ⟨_,rfl,ha⟩
  ·exact ⟨_,rfl,hb⟩
 show Code.wp _ Ps _ a w
 rcases Nat.lt_or_ge pp qq with lt | lt
 ·rw [iV]
  refine wp_seq ?_;rw [eG];refine (Aez hlp hlq lt).run hst ?_;clear hst;intro a w hst;show Code.wp _ Kp _ a w;rw [fA];refine wp_seq ?_;rw [fW];refine wp_seq ?_;rw [dB];refine (Adt hlp hlq lt).run hst ?_;clear hst;intro a w hst;show Code.wp _ JJ _ a w;rw [jI];refine wp_cond_true (A7 hst 3 rfl) ?_;show Code.wp _ QH _ a w;rw [AeA];refine (AcT hlp hlq lt).run hst ?_;clear hst;intro a w hst;show Code.wp _ Ki _ a w;rw [jY];refine wp_seq ?_;rw [iB];refine wp_block ?_;show Code.wp _ Jx _ a w;rw [X8];refine CO (fun (z:Nat × Nat) a w=>St W 56 [(0,(Aw z.1)),(1,(Aw z.2))] [] a w∧z.2≤z.1∧z.1≤max pp qq∧Nat.gcd z.1 z.2=Nat.gcd pp qq) (λz=>z.2) ?_ (qq,pp) ⟨hst.to ⟨hst.slots.get (k:=0) rfl,hst.slots.get (k:=1) rfl,trivial⟩,by show pp≤qq; omega,by show qq≤max pp qq; omega,Nat.gcd_comm _ _⟩
  rintro ⟨p,q⟩ a w ⟨hst,hqp,hpm,hg⟩
  simp only [] at hst hqp hpm hg;have bm:len (max pp qq)≤1099511627775:=by rcases Nat.le_total pp qq with h | h; (rw [Nat.max_eq_right h]; exact hlq); (rw [Nat.max_eq_left h]; exact hlp)
  have bp:len p≤1099511627775:=Nat.le_trans (AX hpm) bm;have bq:len q≤1099511627775:=Nat.le_trans (AX hqp) bp;show Code.wp _ Hi _ a w
  rcases Nat.lt_or_ge 2 (len q) with h3 | h3
  ·have h3:3≤len q:=h3
   rw [Li];refine wp_seq ?_;rw [Lz];refine wp_seq ?_;rw [K3];refine (lJ hqp bp bq h3).run hst ?_;clear hst;intro a w hst;show Code.wp _ Fg _ a w;rw [K9];refine wp_cond_true (A7 hst 2 rfl) ?_;show Code.wp _ Lr _ a w;rw [Ye];refine wp_skip ?_;show Code.wp _ JA _ a w;rw [Xn];refine wp_block ?_;show Code.wp _ G4 _ a w;rw [Wk];refine wp_seq ?_;rw [WT];refine (bE hqp bp bq h3).run hst ?_;clear hst;intro a w hst;obtain ⟨c0,d0,c1,d1,o,hok,hst⟩:=Xa hst
   by_cases hz:d0=0
   ·have q0:0<q:=by rcases Nat.eq_zero_or_pos q with h | h; (rw [h,AY] at h3; omega); exact h
    show Code.wp _ ET _ a w;rw [Lg];refine wp_seq ?_;rw [Ld];refine (aH hqp bp bq h3 hok hz q0).run hst ?_;clear hst;intro a w hst;show Code.wp _ EY _ a w;rw [Lw];refine wp_cond_true (A7 hst 3 rfl) ?_;show Code.wp _ Ht _ a w;rw [Wy];refine wp_seq ?_;rw [Yn];refine (nL hqp bp bq h3 hok hz q0).run hst ?_;clear hst;intro a w hst;show Code.wp _ Jy _ a w;rw [XJ];refine (bP hqp bp bq h3 hok hz q0).run hst ?_;clear hst;intro a w hst;exact ⟨(q,p % q),⟨((hst.to (S':=[(0,(Aw q)),(1,(Aw (p % q)))]) ⟨hst.slots.get (k:=0) rfl,hst.slots.get (k:=1) rfl,trivial⟩).firstB 0),Nat.le_of_lt (Nat.mod_lt _ q0),by show q≤max pp qq; omega,by show Nat.gcd q (p % q)=_; rw [← hg,Nat.gcd_comm p q,Nat.gcd_rec q p,Nat.gcd_comm]⟩,Nat.mod_lt _ q0⟩
   ·obtain ⟨U,V,hUV,hgU,hU,hV,hVU⟩:=hok.2.2.2.2 hz
    show Code.wp _ ET _ a w;rw [Lg];refine wp_seq ?_;rw [Ld];refine (Ya hqp bp bq h3 hok hz hUV hU hV).run hst ?_;clear hst;intro a w hst;show Code.wp _ EY _ a w;rw [Lw];refine wp_cond_false (A7 hst 3 rfl) ?_;show Code.wp _ Js _ a w;rw [XO];refine (dR hqp bp bq h3 hok hz hUV hU hV).run hst ?_;clear hst;intro a w hst;exact ⟨(U,V),⟨((hst.to (S':=[(0,(Aw U)),(1,(Aw V))]) ⟨hst.slots.get (k:=0) rfl,hst.slots.get (k:=1) rfl,trivial⟩).firstB 0),hVU,by show U≤max pp qq; omega,by show Nat.gcd U V=_; rw [hgU,hg]⟩,hV⟩
  ·rw [Li]
   refine wp_seq ?_;rw [Lz];refine wp_seq ?_;rw [K3];refine (WQ hqp bp bq h3).run hst ?_;clear hst;intro a w hst;show Code.wp _ Fg _ a w;rw [K9];refine wp_cond_false (A7 hst 2 rfl) ?_;show Code.wp _ Lj _ a w;rw [WK];refine wp_exit ?_
   rcases Nat.eq_zero_or_pos q with q0 | q0
   ·have e0:p=Nat.gcd pp qq:=by rw [← hg,q0,Nat.gcd_zero_right]
    show Code.wp _ E8 _ a w;rw [LN];refine wp_seq ?_;rw [Lp];refine wp_seq ?_;rw [LG];refine (mP hqp bp bq q0).run hst ?_;clear hst;intro a w hst;show Code.wp _ Fc _ a w;rw [KW];refine wp_cond_true (A7 hst 3 rfl) ?_;show Code.wp _ Hm _ a w;rw [Wh];refine wp_seq ?_;rw [Xp];refine (WE hqp bp bq q0).run hst ?_;clear hst;intro a w hst;show Code.wp _ K7 _ a w;rw [Xb];refine wp_ret ?_;rw [e0] at hst;exact Ll hst rfl 2 rfl
   ·have q64:q<18446744073709551616:=Nat.lt_of_lt_of_le (BG q) (Nat.pow_le_pow_right (n:=4294967296) (by decide) h3)
    show Code.wp _ E8 _ a w;rw [LN];refine wp_seq ?_;rw [Lp];refine wp_seq ?_;rw [LG];refine (Xt hqp bp bq q0 q64).run hst ?_;clear hst;intro a w hst;show Code.wp _ Fc _ a w;rw [KW];refine wp_cond_false (A7 hst 3 rfl) ?_;show Code.wp _ Lq _ a w;rw [XW];refine wp_skip ?_;show Code.wp _ Hl _ a w;rw [We];refine wp_seq ?_;rw [Wz];refine (WU hqp bp bq q0 q64).run hst ?_;clear hst;intro a w hst;show Code.wp _ HF _ a w;rw [X9];refine wp_seq ?_;rw [YB];refine (W7 hqp bp bq q0 q64).run hst ?_;clear hst;intro a w hst;show Code.wp _ KZ _ a w;rw [Yo];refine wp_ret ?_;have e0:Nat.gcd q (p % q)=Nat.gcd pp qq:=by rw [← hg,Nat.gcd_comm p q,Nat.gcd_rec q p,Nat.gcd_comm]
    rw [e0] at hst;exact Ll hst rfl 2 rfl
 ·rw [iV]
  refine wp_seq ?_;rw [eG];refine (tM hlp hlq lt).run hst ?_;clear hst;intro a w hst;show Code.wp _ Kp _ a w;rw [fA];refine wp_seq ?_;rw [fW];refine wp_seq ?_;rw [dB];refine (tN hlp hlq lt).run hst ?_;clear hst;intro a w hst;show Code.wp _ JJ _ a w;rw [jI];refine wp_cond_false (A7 hst 3 rfl) ?_;show Code.wp _ Vv _ a w;rw [Ad2];refine wp_skip ?_;show Code.wp _ Ki _ a w;rw [jY];refine wp_seq ?_;rw [iB];refine wp_block ?_;show Code.wp _ Jx _ a w;rw [X8];refine CO (fun (z:Nat × Nat) a w=>St W 56 [(0,(Aw z.1)),(1,(Aw z.2))] [] a w∧z.2≤z.1∧z.1≤max pp qq∧Nat.gcd z.1 z.2=Nat.gcd pp qq) (λz=>z.2) ?_ (pp,qq) ⟨hst.to ⟨hst.slots.get (k:=0) rfl,hst.slots.get (k:=1) rfl,trivial⟩,by show qq≤pp; omega,by show pp≤max pp qq; omega,rfl⟩
  rintro ⟨p,q⟩ a w ⟨hst,hqp,hpm,hg⟩
  simp only [] at hst hqp hpm hg;have bm:len (max pp qq)≤1099511627775:=by rcases Nat.le_total pp qq with h | h; (rw [Nat.max_eq_right h]; exact hlq); (rw [Nat.max_eq_left h]; exact hlp)
  have bp:len p≤1099511627775:=Nat.le_trans (AX hpm) bm;have bq:len q≤1099511627775:=Nat.le_trans (AX hqp) bp;show Code.wp _ Hi _ a w
  rcases Nat.lt_or_ge 2 (len q) with h3 | h3
  ·have h3:3≤len q:=h3
   rw [Li];refine wp_seq ?_;rw [Lz];refine wp_seq ?_;rw [K3];refine (lJ hqp bp bq h3).run hst ?_;clear hst;intro a w hst;show Code.wp _ Fg _ a w;rw [K9];refine wp_cond_true (A7 hst 2 rfl) ?_;show Code.wp _ Lr _ a w;rw [Ye];refine wp_skip ?_;show Code.wp _ JA _ a w;rw [Xn];refine wp_block ?_;show Code.wp _ G4 _ a w;rw [Wk];refine wp_seq ?_;rw [WT];refine (bE hqp bp bq h3).run hst ?_;clear hst;intro a w hst;obtain ⟨c0,d0,c1,d1,o,hok,hst⟩:=Xa hst
   by_cases hz:d0=0
   ·have q0:0<q:=by rcases Nat.eq_zero_or_pos q with h | h; (rw [h,AY] at h3; omega); exact h
    show Code.wp _ ET _ a w;rw [Lg];refine wp_seq ?_;rw [Ld];refine (aH hqp bp bq h3 hok hz q0).run hst ?_;clear hst;intro a w hst;show Code.wp _ EY _ a w;rw [Lw];refine wp_cond_true (A7 hst 3 rfl) ?_;show Code.wp _ Ht _ a w;rw [Wy];refine wp_seq ?_;rw [Yn];refine (nL hqp bp bq h3 hok hz q0).run hst ?_;clear hst;intro a w hst;show Code.wp _ Jy _ a w;rw [XJ];refine (bP hqp bp bq h3 hok hz q0).run hst ?_;clear hst;intro a w hst;exact ⟨(q,p % q),⟨((hst.to (S':=[(0,(Aw q)),(1,(Aw (p % q)))]) ⟨hst.slots.get (k:=0) rfl,hst.slots.get (k:=1) rfl,trivial⟩).firstB 0),Nat.le_of_lt (Nat.mod_lt _ q0),by show q≤max pp qq; omega,by show Nat.gcd q (p % q)=_; rw [← hg,Nat.gcd_comm p q,Nat.gcd_rec q p,Nat.gcd_comm]⟩,Nat.mod_lt _ q0⟩
   ·obtain ⟨U,V,hUV,hgU,hU,hV,hVU⟩:=hok.2.2.2.2 hz
    show Code.wp _ ET _ a w;rw [Lg];refine wp_seq ?_;rw [Ld];refine (Ya hqp bp bq h3 hok hz hUV hU hV).run hst ?_;clear hst;intro a w hst;show Code.wp _ EY _ a w;rw [Lw];refine wp_cond_false (A7 hst 3 rfl) ?_;show Code.wp _ Js _ a w;rw [XO];refine (dR hqp bp bq h3 hok hz hUV hU hV).run hst ?_;clear hst;intro a w hst;exact ⟨(U,V),⟨((hst.to (S':=[(0,(Aw U)),(1,(Aw V))]) ⟨hst.slots.get (k:=0) rfl,hst.slots.get (k:=1) rfl,trivial⟩).firstB 0),hVU,by show U≤max pp qq; omega,by show Nat.gcd U V=_; rw [hgU,hg]⟩,hV⟩
  ·rw [Li]
   refine wp_seq ?_;rw [Lz];refine wp_seq ?_;rw [K3];refine (WQ hqp bp bq h3).run hst ?_;clear hst;intro a w hst;show Code.wp _ Fg _ a w;rw [K9];refine wp_cond_false (A7 hst 2 rfl) ?_;show Code.wp _ Lj _ a w;rw [WK];refine wp_exit ?_
   rcases Nat.eq_zero_or_pos q with q0 | q0
   ·have e0:p=Nat.gcd pp qq:=by rw [← hg,q0,Nat.gcd_zero_right]
    show Code.wp _ E8 _ a w;rw [LN];refine wp_seq ?_;rw [Lp];refine wp_seq ?_;rw [LG];refine (mP hqp bp bq q0).run hst ?_;clear hst;intro a w hst;show Code.wp _ Fc _ a w;rw [KW];refine wp_cond_true (A7 hst 3 rfl) ?_;show Code.wp _ Hm _ a w;rw [Wh];refine wp_seq ?_;rw [Xp];refine (WE hqp bp bq q0).run hst ?_;clear hst;intro a w hst;show Code.wp _ K7 _ a w;rw [Xb];refine wp_ret ?_;rw [e0] at hst;exact Ll hst rfl 2 rfl
   ·have q64:q<18446744073709551616:=Nat.lt_of_lt_of_le (BG q) (Nat.pow_le_pow_right (n:=4294967296) (by decide) h3)
    show Code.wp _ E8 _ a w;rw [LN];refine wp_seq ?_;rw [Lp];refine wp_seq ?_;rw [LG];refine (Xt hqp bp bq q0 q64).run hst ?_;clear hst;intro a w hst;show Code.wp _ Fc _ a w;rw [KW];refine wp_cond_false (A7 hst 3 rfl) ?_;show Code.wp _ Lq _ a w;rw [XW];refine wp_skip ?_;show Code.wp _ Hl _ a w;rw [We];refine wp_seq ?_;rw [Wz];refine (WU hqp bp bq q0 q64).run hst ?_;clear hst;intro a w hst;show Code.wp _ HF _ a w;rw [X9];refine wp_seq ?_;rw [YB];refine (W7 hqp bp bq q0 q64).run hst ?_;clear hst;intro a w hst;show Code.wp _ KZ _ a w;rw [Yo];refine wp_ret ?_;have e0:Nat.gcd q (p % q)=Nat.gcd pp qq:=by rw [← hg,Nat.gcd_comm p q,Nat.gcd_rec q p,Nat.gcd_comm]
    rw [e0] at hst;exact Ll hst rfl 2 rfl
end Go.Proofs.YtegaedfdddapnaaGreat
