/- The steps, applied (written by wip/tools/gen_apply.py). -/
import Derived.Test.YtgaehhapjnbieaaGreatqSim
import Derived.Test.YtgaehhapjnbieaaGreatqComb
set_option linter.unusedSectionVars false
set_option linter.unusedVariables false
set_option linter.unusedSimpArgs false
set_option maxRecDepth 100000
namespace Go.Proofs.YtgaehhapjnbieaaGreat
open Go.RowKit
section
variable {ops : Array Oper} {N : Nat} {Wb W0 : World} {a0 : Act} {F : List PF} {BX : List BF} {AD : List (Nat × Nat × Nat)} {i : Nat} {g : Option (Nat × Bool)}
end
def Fu(a0 b0 a1 b1:Nat)(o:Bool):CF:=AjC #[.int .u64 (a0:Int),.int .u64 (b0:Int),.int .u64 (a1:Int),.int .u64 (b1:Int),.bool o] 127 (by decide)
theorem V_{a0 b0 a1 b1:Nat}{o:Bool}(w:World)(v:Value)(h:(Ap (.agg #[.int .u64 (a0:Int),.int .u64 (b0:Int),.int .u64 (a1:Int),.int .u64 (b1:Int),.bool o])).p v w):∃ ob,(Instr.box 127 v).run Tryz.prog w = .ok (.pointer (some ⟨w.heap.size,0,none⟩)) (w.alloc ob)∧(Fu a0 b0 a1 b1 o).p w.heap.size (w.alloc ob):=by
 have h:v = .agg #[.int .u64 (a0:Int),.int .u64 (b0:Int),.int .u64 (a1:Int),.int .u64 (b1:Int),.bool o]:=h;subst h;exact ⟨.cells #[.int .u64 (a0:Int),.int .u64 (b0:Int),.int .u64 (a1:Int),.int .u64 (b1:Int),.bool o] 127 (0,0),by simp [go_sem],JG w _⟩
theorem Agm(q:Nat)(w:World):(Instr.fieldAt 127 (.pointer (some ⟨q,0,none⟩)) 0).run Tryz.prog w = .ok (.pointer (some ⟨q,0,none⟩)) w:=by simp [go_sem]
theorem rH{a0 b0 a1 b1:Nat}{o:Bool}(w:World)(q:Nat)(h:(Fu a0 b0 a1 b1 o).p q w):∃ v,(Instr.loadAt 107 (.pointer (some ⟨q,0,none⟩))).run Tryz.prog w = .ok v w∧(Ap (.int .u64 (a0:Int))).p v w:=by
 have hh:w.heap[q]? = some (.cells #[.int .u64 (a0:Int),.int .u64 (b0:Int),.int .u64 (a1:Int),.int .u64 (b1:Int),.bool o] 127 (0,0)):=h;have h0:w.cell? ⟨q,0,none⟩=some (.int .u64 (a0:Int)):=by rw [cell_of_row w q 0 _ _ (0,0) hh]; rfl
 exact ⟨_,by simp [go_sem,h0],rfl⟩
theorem dG(q:Nat)(w:World):(Instr.fieldAt 127 (.pointer (some ⟨q,0,none⟩)) 1).run Tryz.prog w = .ok (.pointer (some ⟨q,1,none⟩)) w:=by simp [go_sem]
theorem Ti{a0 b0 a1 b1:Nat}{o:Bool}(w:World)(q:Nat)(h:(Fu a0 b0 a1 b1 o).p q w):∃ v,(Instr.loadAt 107 (.pointer (some ⟨q,1,none⟩))).run Tryz.prog w = .ok v w∧(Ap (.int .u64 (b0:Int))).p v w:=by
 have hh:w.heap[q]? = some (.cells #[.int .u64 (a0:Int),.int .u64 (b0:Int),.int .u64 (a1:Int),.int .u64 (b1:Int),.bool o] 127 (0,0)):=h;have h0:w.cell? ⟨q,1,none⟩=some (.int .u64 (b0:Int)):=by rw [cell_of_row w q 1 _ _ (0,0) hh]; rfl
 exact ⟨_,by simp [go_sem,h0],rfl⟩
theorem AhZ(q:Nat)(w:World):(Instr.fieldAt 127 (.pointer (some ⟨q,0,none⟩)) 2).run Tryz.prog w = .ok (.pointer (some ⟨q,2,none⟩)) w:=by simp [go_sem]
theorem zI{a0 b0 a1 b1:Nat}{o:Bool}(w:World)(q:Nat)(h:(Fu a0 b0 a1 b1 o).p q w):∃ v,(Instr.loadAt 107 (.pointer (some ⟨q,2,none⟩))).run Tryz.prog w = .ok v w∧(Ap (.int .u64 (a1:Int))).p v w:=by
 have hh:w.heap[q]? = some (.cells #[.int .u64 (a0:Int),.int .u64 (b0:Int),.int .u64 (a1:Int),.int .u64 (b1:Int),.bool o] 127 (0,0)):=h;have h0:w.cell? ⟨q,2,none⟩=some (.int .u64 (a1:Int)):=by rw [cell_of_row w q 2 _ _ (0,0) hh]; rfl
 exact ⟨_,by simp [go_sem,h0],rfl⟩
theorem AhI(q:Nat)(w:World):(Instr.fieldAt 127 (.pointer (some ⟨q,0,none⟩)) 3).run Tryz.prog w = .ok (.pointer (some ⟨q,3,none⟩)) w:=by simp [go_sem]
theorem sG{a0 b0 a1 b1:Nat}{o:Bool}(w:World)(q:Nat)(h:(Fu a0 b0 a1 b1 o).p q w):∃ v,(Instr.loadAt 107 (.pointer (some ⟨q,3,none⟩))).run Tryz.prog w = .ok v w∧(Ap (.int .u64 (b1:Int))).p v w:=by
 have hh:w.heap[q]? = some (.cells #[.int .u64 (a0:Int),.int .u64 (b0:Int),.int .u64 (a1:Int),.int .u64 (b1:Int),.bool o] 127 (0,0)):=h;have h0:w.cell? ⟨q,3,none⟩=some (.int .u64 (b1:Int)):=by rw [cell_of_row w q 3 _ _ (0,0) hh]; rfl
 exact ⟨_,by simp [go_sem,h0],rfl⟩
theorem Ag1(q:Nat)(w:World):(Instr.fieldAt 127 (.pointer (some ⟨q,0,none⟩)) 4).run Tryz.prog w = .ok (.pointer (some ⟨q,4,none⟩)) w:=by simp [go_sem]
theorem rU{a0 b0 a1 b1:Nat}{o:Bool}(w:World)(q:Nat)(h:(Fu a0 b0 a1 b1 o).p q w):∃ v,(Instr.loadAt 4 (.pointer (some ⟨q,4,none⟩))).run Tryz.prog w = .ok v w∧(Ap (.bool o)).p v w:=by
 have hh:w.heap[q]? = some (.cells #[.int .u64 (a0:Int),.int .u64 (b0:Int),.int .u64 (a1:Int),.int .u64 (b1:Int),.bool o] 127 (0,0)):=h;have h0:w.cell? ⟨q,4,none⟩=some (.bool o):=by rw [cell_of_row w q 4 _ _ (0,0) hh]; rfl
 exact ⟨_,by simp [go_sem,h0],rfl⟩
theorem dY{w:World}{va vp vb vq:Value}{x y p q z:Nat}(ha:(AH x).p va w)(hvp:(Ap (.int .u64 (p:Int))).p vp w)(hb:(AH y).p vb w)(hvq:(Ap (.int .u64 (q:Int))).p vq w)(hp:p<4294967296)(hq:q<4294967296)(hz:z+q*y=p*x)(hm:max (len x) (len y)≤1099511627776)(hzl:len z≤max (len x) (len y)) :
  Calls Tryz.prog 153 #[va,vp,vb,vq] w (Ak (AH z) w):=by
 have hvp:vp = .int .u64 (p:Int):=hvp;have hvq:vq = .int .u64 (q:Int):=hvq;subst hvp hvq;have ha:AM w va x:=ha;have hb:AM w vb y:=hb;obtain ⟨A,c,rfl,HA⟩:=ha.open_;obtain ⟨B,d,rfl,HB⟩:=hb.open_
 rcases Nat.lt_or_ge (len x) (len y) with h | h
 ·exact Z8 A B c d p q x y z w HA.out.mem.2.2 HB.out.mem.2.2 hp hq h (by omega) hz (by omega)
 ·exact YQ A B c d p q x y z w HA.out.mem.2.2 HB.out.mem.2.2 hp hq h (by omega) hz (by omega)
theorem Xh{Wb:World}{N:Nat}{S:List (Nat × PF)}{B:List (Nat × CF)}{a:Act}{w:World}{fn:Func}{t t':Nat}{R R':PF}(hst:St Wb N S B a w)(hr:fn.results = #[.tmp t,.tmp t'])(k:Nat)(hk:S[k]? = some (t,R))(k':Nat)(hk':S[k']? = some (t',R')):bodyPost Tryz.prog fn (Ak (CJ R R') Wb) .ret a w:=by
 obtain ⟨v,h1,h2⟩:=hst.slots.get hk;obtain ⟨v',h1',h2'⟩:=hst.slots.get hk';refine bodyPost_ret (v:=.tuple #[v,v']) ?_ hst.defers ⟨_,rfl,⟨_,_,rfl,h2,h2'⟩,hst.below⟩;simp [results,hr,go_sem,Array.getD_eq_getD_getElem?,h1,h1']
noncomputable def Ph:=Bw Tryz.f141
noncomputable def XR:=cl Ph
noncomputable def L5:=cr Ph
theorem Abf:Ph = .seq XR L5:=by kernel_rfl
noncomputable def Yb:=Bt XR
theorem qI:XR = .region 0 Yb false:=by kernel_rfl
noncomputable def Sp:=cl L5
noncomputable def OQ:=cr L5
theorem xX:L5 = .seq Sp OQ:=by kernel_rfl
noncomputable def ZO:=cl Sp
noncomputable def LV:=cr Sp
theorem Aa2:Sp = .seq ZO LV:=by kernel_rfl
noncomputable def Zw:=Bt ZO
theorem uN:ZO = .region 1 Zw false:=by kernel_rfl
noncomputable def On:=cl LV
noncomputable def ZE:=cr LV
theorem vT:LV = .cond (.tmp 9) On ZE:=by kernel_rfl
noncomputable def Xx:=cl On
noncomputable def Tu:=cr On
theorem AjO:On = .seq Xx Tu:=by kernel_rfl
noncomputable def xK:=Bt Xx
theorem AiY:Xx = .region 2 xK true:=by kernel_rfl
theorem Aef:Tu = .ret:=by kernel_rfl
theorem Akh:ZE = .skip:=by kernel_rfl
noncomputable def Tz:=cl OQ
noncomputable def SM:=cr OQ
theorem Akn:OQ = .seq Tz SM:=by kernel_rfl
noncomputable def Aca:=Bt Tz
theorem Afh:Tz = .region 3 Aca true:=by kernel_rfl
theorem AdC:SM = .ret:=by kernel_rfl
section
set_option linter.unusedSectionVars false
variable {Wb : World} {mm nn c0 d0 c1 d1 U V : Nat} (l0 : c0 < 4294967296) (l1 : d0 < 4294967296) (l2 : c1 < 4294967296) (l3 : d1 < 4294967296) (hmx : max (len mm) (len nn) ≤ 1099511627776) (hU : len U ≤ max (len mm) (len nn)) (hV : len V ≤ max (len mm) (len nn))
include l0 l1 l2 l3 hmx hU hV
theorem Akq(e1:U+c0*mm=d0*nn)(e2:V+d1*nn=c1*mm):RA 38 [(Ap (.agg #[.int .u64 (c0:Int),.int .u64 (d0:Int),.int .u64 (c1:Int),.int .u64 (d1:Int),.bool true])),(AH mm),(AH nn)] [(Fu c0 d0 c1 d1 true)] ⟨[(0,(.ref 0)),(1,(.ref 1)),(2,(.ref 2))],[]⟩ ⟨[(0,(.ref 0)),(1,(.ref 1)),(2,(.ref 2)),(6,.nil),(7,.nil)],[(3,0)]⟩ Wb 0 Yb false:=RA.of
   { boxes:=[⟨127,(.ref 0),0,λw v h=>V_ w v h⟩] } (by kernel_rfl)
theorem Aij(e1:U+c0*mm=d0*nn)(e2:V+d1*nn=c1*mm):RA 38 [(Ap (.agg #[.int .u64 (c0:Int),.int .u64 (d0:Int),.int .u64 (c1:Int),.int .u64 (d1:Int),.bool true])),(AH mm),(AH nn)] [(Fu c0 d0 c1 d1 true)] ⟨[(0,(.ref 0)),(1,(.ref 1)),(2,(.ref 2)),(6,.nil),(7,.nil)],[(3,0)]⟩ ⟨[(0,(.ref 0)),(1,(.ref 1)),(2,(.ref 2)),(6,.nil),(7,.nil),(9,(.bool true))],[(3,0)]⟩ Wb 1 Zw false:=RA.of
   { loads:=[⟨4,4,0,(.bool true),λw q h=>rU w q h⟩],
     flds:=[⟨127,4,4,Ag1⟩] } (by kernel_rfl)
theorem AiG(e1:U+c0*mm=d0*nn)(e2:V+d1*nn=c1*mm):RA 38 [(Ap (.int .u64 (d0:Int))),(Ap (.int .u64 (c0:Int))),(AH nn),(AH mm),(AH U),(Ap (.int .u64 (c1:Int))),(Ap (.int .u64 (d1:Int))),(AH V),(Ap (.agg #[.int .u64 (c0:Int),.int .u64 (d0:Int),.int .u64 (c1:Int),.int .u64 (d1:Int),.bool true]))] [(Fu c0 d0 c1 d1 true)] ⟨[(0,(.ref 8)),(1,(.ref 3)),(2,(.ref 2)),(6,.nil),(7,.nil),(9,(.bool true))],[(3,0)]⟩ ⟨[(0,(.ref 8)),(1,(.ref 3)),(2,(.ref 2)),(6,(.ref 4)),(7,(.ref 7)),(9,(.bool true))],[(3,0)]⟩ Wb 2 xK true:=RA.of
   { calls:=[c4 153 (.ref 2) (.ref 0) (.ref 3) (.ref 1) (.ref 4) λw v0 v1 v2 v3 hb h0 h1 h2 h3=>dY h0 h1 h2 h3 (by assumption) (by assumption) e1 (Nat.max_comm (len mm) (len nn) ▸ hmx) (Nat.max_comm (len mm) (len nn) ▸ hU),
      c4 153 (.ref 3) (.ref 5) (.ref 2) (.ref 6) (.ref 7) λw v0 v1 v2 v3 hb h0 h1 h2 h3=>dY h0 h1 h2 h3 (by assumption) (by assumption) e2 hmx hV],
     loads:=[⟨107,1,0,(.ref 0),λw q h=>Ti w q h⟩,
      ⟨107,0,0,(.ref 1),λw q h=>rH w q h⟩,
      ⟨107,2,0,(.ref 5),λw q h=>zI w q h⟩,
      ⟨107,3,0,(.ref 6),λw q h=>sG w q h⟩],
     flds:=[⟨127,1,1,dG⟩,
      ⟨127,0,0,Agm⟩,
      ⟨127,2,2,AhZ⟩,
      ⟨127,3,3,AhI⟩] } (by kernel_rfl)
theorem Ae9(e1:U+d0*nn=c0*mm)(e2:V+c1*mm=d1*nn):RA 38 [(Ap (.agg #[.int .u64 (c0:Int),.int .u64 (d0:Int),.int .u64 (c1:Int),.int .u64 (d1:Int),.bool false])),(AH mm),(AH nn)] [(Fu c0 d0 c1 d1 false)] ⟨[(0,(.ref 0)),(1,(.ref 1)),(2,(.ref 2))],[]⟩ ⟨[(0,(.ref 0)),(1,(.ref 1)),(2,(.ref 2)),(6,.nil),(7,.nil)],[(3,0)]⟩ Wb 0 Yb false:=RA.of
   { boxes:=[⟨127,(.ref 0),0,λw v h=>V_ w v h⟩] } (by kernel_rfl)
theorem AeO(e1:U+d0*nn=c0*mm)(e2:V+c1*mm=d1*nn):RA 38 [(Ap (.agg #[.int .u64 (c0:Int),.int .u64 (d0:Int),.int .u64 (c1:Int),.int .u64 (d1:Int),.bool false])),(AH mm),(AH nn)] [(Fu c0 d0 c1 d1 false)] ⟨[(0,(.ref 0)),(1,(.ref 1)),(2,(.ref 2)),(6,.nil),(7,.nil)],[(3,0)]⟩ ⟨[(0,(.ref 0)),(1,(.ref 1)),(2,(.ref 2)),(6,.nil),(7,.nil),(9,(.bool false))],[(3,0)]⟩ Wb 1 Zw false:=RA.of
   { loads:=[⟨4,4,0,(.bool false),λw q h=>rU w q h⟩],
     flds:=[⟨127,4,4,Ag1⟩] } (by kernel_rfl)
theorem AjP(e1:U+d0*nn=c0*mm)(e2:V+c1*mm=d1*nn):RA 38 [(Ap (.int .u64 (c0:Int))),(Ap (.int .u64 (d0:Int))),(AH mm),(AH nn),(AH U),(Ap (.int .u64 (d1:Int))),(Ap (.int .u64 (c1:Int))),(AH V),(Ap (.agg #[.int .u64 (c0:Int),.int .u64 (d0:Int),.int .u64 (c1:Int),.int .u64 (d1:Int),.bool false]))] [(Fu c0 d0 c1 d1 false)] ⟨[(0,(.ref 8)),(1,(.ref 2)),(2,(.ref 3)),(6,.nil),(7,.nil),(9,(.bool false))],[(3,0)]⟩ ⟨[(0,(.ref 8)),(1,(.ref 2)),(2,(.ref 3)),(6,(.ref 4)),(7,(.ref 7)),(9,(.bool false))],[(3,0)]⟩ Wb 3 Aca true:=RA.of
   { calls:=[c4 153 (.ref 2) (.ref 0) (.ref 3) (.ref 1) (.ref 4) λw v0 v1 v2 v3 hb h0 h1 h2 h3=>dY h0 h1 h2 h3 (by assumption) (by assumption) e1 hmx hU,
      c4 153 (.ref 3) (.ref 5) (.ref 2) (.ref 6) (.ref 7) λw v0 v1 v2 v3 hb h0 h1 h2 h3=>dY h0 h1 h2 h3 (by assumption) (by assumption) e2 (Nat.max_comm (len mm) (len nn) ▸ hmx) (Nat.max_comm (len mm) (len nn) ▸ hV)],
     loads:=[⟨107,0,0,(.ref 0),λw q h=>rH w q h⟩,
      ⟨107,1,0,(.ref 1),λw q h=>Ti w q h⟩,
      ⟨107,3,0,(.ref 5),λw q h=>sG w q h⟩,
      ⟨107,2,0,(.ref 6),λw q h=>zI w q h⟩],
     flds:=[⟨127,0,0,Agm⟩,
      ⟨127,1,1,dG⟩,
      ⟨127,3,3,AhI⟩,
      ⟨127,2,2,AhZ⟩] } (by kernel_rfl)
end
theorem oY(va vb:Value)(mm nn c0 d0 c1 d1 U V:Nat)(W:World)(ha:AM W va mm)(hb:AM W vb nn)(l0:c0<4294967296)(l1:d0<4294967296)(l2:c1<4294967296)(l3:d1<4294967296)(hmx:max (len mm) (len nn)≤1099511627776)(hU:len U≤max (len mm) (len nn))(hV:len V≤max (len mm) (len nn))(e1:U+c0*mm=d0*nn)(e2:V+d1*nn=c1*mm) :
  Calls Tryz.prog 141 #[.agg #[.int .u64 (c0:Int),.int .u64 (d0:Int),.int .u64 (c1:Int),.int .u64 (d1:Int),.bool true],va,vb] W (Ak (CJ (AH U) (AH V)) W):=by
 refine Em (S:=[(0,(Ap (.agg #[.int .u64 (c0:Int),.int .u64 (d0:Int),.int .u64 (c1:Int),.int .u64 (d1:Int),.bool true]))),(1,(AH mm)),(2,(AH nn))]) Tryz.func141 (by kernel_rfl) Tryz.ntmps141 (by simp) (λx hx=>?_) λa w hst=>?_
 ·simp only [List.mem_cons,List.not_mem_nil,or_false] at hx
  rcases hx with rfl | rfl | rfl
  ·exact ⟨_,rfl,rfl⟩
  ·exact ⟨_,rfl,ha⟩
  ·exact ⟨_,rfl,hb⟩
 show Code.wp _ Ph _ a w;rw [Abf];refine wp_seq ?_;rw [qI];refine (Akq l0 l1 l2 l3 hmx hU hV e1 e2).run hst ?_;clear hst;intro a w hst;show Code.wp _ L5 _ a w;rw [xX];refine wp_seq ?_;rw [Aa2];refine wp_seq ?_;rw [uN];refine (Aij l0 l1 l2 l3 hmx hU hV e1 e2).run hst ?_;clear hst;intro a w hst;show Code.wp _ LV _ a w;rw [vT];refine wp_cond_true (Bp hst 5 rfl) ?_;show Code.wp _ On _ a w;rw [AjO];refine wp_seq ?_;rw [AiY];refine (AiG l0 l1 l2 l3 hmx hU hV e1 e2).run hst ?_;clear hst;intro a w hst;show Code.wp _ Tu _ a w;rw [Aef];refine wp_ret ?_;exact Xh hst rfl 3 rfl 4 rfl
theorem Z6(va vb:Value)(mm nn c0 d0 c1 d1 U V:Nat)(W:World)(ha:AM W va mm)(hb:AM W vb nn)(l0:c0<4294967296)(l1:d0<4294967296)(l2:c1<4294967296)(l3:d1<4294967296)(hmx:max (len mm) (len nn)≤1099511627776)(hU:len U≤max (len mm) (len nn))(hV:len V≤max (len mm) (len nn))(e1:U+d0*nn=c0*mm)(e2:V+c1*mm=d1*nn) :
  Calls Tryz.prog 141 #[.agg #[.int .u64 (c0:Int),.int .u64 (d0:Int),.int .u64 (c1:Int),.int .u64 (d1:Int),.bool false],va,vb] W (Ak (CJ (AH U) (AH V)) W):=by
 refine Em (S:=[(0,(Ap (.agg #[.int .u64 (c0:Int),.int .u64 (d0:Int),.int .u64 (c1:Int),.int .u64 (d1:Int),.bool false]))),(1,(AH mm)),(2,(AH nn))]) Tryz.func141 (by kernel_rfl) Tryz.ntmps141 (by simp) (λx hx=>?_) λa w hst=>?_
 ·simp only [List.mem_cons,List.not_mem_nil,or_false] at hx
  rcases hx with rfl | rfl | rfl
  ·exact ⟨_,rfl,rfl⟩
  ·exact ⟨_,rfl,ha⟩
  ·exact ⟨_,rfl,hb⟩
 show Code.wp _ Ph _ a w;rw [Abf];refine wp_seq ?_;rw [qI];refine (Ae9 l0 l1 l2 l3 hmx hU hV e1 e2).run hst ?_;clear hst;intro a w hst;show Code.wp _ L5 _ a w;rw [xX];refine wp_seq ?_;rw [Aa2];refine wp_seq ?_;rw [uN];refine (AeO l0 l1 l2 l3 hmx hU hV e1 e2).run hst ?_;clear hst;intro a w hst;show Code.wp _ LV _ a w;rw [vT];refine wp_cond_false (Bp hst 5 rfl) ?_;show Code.wp _ ZE _ a w;rw [Akh];refine wp_skip ?_;show Code.wp _ OQ _ a w;rw [Akn];refine wp_seq ?_;rw [Afh];refine (AjP l0 l1 l2 l3 hmx hU hV e1 e2).run hst ?_;clear hst;intro a w hst;show Code.wp _ SM _ a w;rw [AdC];refine wp_ret ?_;exact Xh hst rfl 3 rfl 4 rfl
section
variable {ops : Array Oper} {N : Nat} {Wb W0 : World} {a0 : Act} {F : List PF} {BX : List BF} {AD : List (Nat × Nat × Nat)} {i : Nat} {g : Option (Nat × Bool)}
end
def FM(p q a0 b0 a1 b1:Nat)(o:Bool):Prop:=a0<4294967296∧b0<4294967296∧a1<4294967296∧b1<4294967296∧(b0≠0→AfK p q a0 b0 a1 b1 o)
def AjW(p q:Nat):PF:=⟨λv _=>∃(a0 b0 a1 b1:Nat)(o:Bool),v = .agg #[.int .u64 (a0:Int),.int .u64 (b0:Int),.int .u64 (a1:Int),.int .u64 (b1:Int),.bool o]∧FM p q a0 b0 a1 b1 o,λ_ _ _ _ h=>h⟩
def tZ(p q:Nat):CF:=⟨λg w=>∃(a0 b0 a1 b1:Nat)(o:Bool),FM p q a0 b0 a1 b1 o∧(Fu a0 b0 a1 b1 o).p g w,
 λg w w' hg e ⟨a0,b0,a1,b1,o,hk,h⟩=>⟨a0,b0,a1,b1,o,hk,(Fu a0 b0 a1 b1 o).st g w w' hg e h⟩,λg w ⟨a0,b0,a1,b1,o,_,h⟩=>(Fu a0 b0 a1 b1 o).ty g w h⟩
theorem dH{Wb:World}{N p q:Nat}{S:List (Nat × PF)}{a:Act}{w:World}(hst:St Wb N S [(5,tZ p q)] a w):∃(a0 b0 a1 b1:Nat)(o:Bool),FM p q a0 b0 a1 b1 o∧St Wb N S [(5,Fu a0 b0 a1 b1 o)] a w:=by
 obtain ⟨s1,s2,s3,s4,s5,s6,s7⟩:=hst;obtain ⟨⟨g,h1,h2,a0,b0,a1,b1,o,hk,hb⟩,_⟩:=s6;exact ⟨a0,b0,a1,b1,o,hk,s1,s2,s3,s4,s5,⟨⟨g,h1,h2,hb⟩,trivial⟩,by simp⟩
theorem aD(w:World):(Instr.alloc 127 true (.tuple #[])).run Tryz.prog w = .ok (.pointer (some ⟨w.heap.size,0,none⟩)) (w.alloc (.cells #[.int .u64 0,.int .u64 0,.int .u64 0,.int .u64 0,.bool false] 127 (0,0))):=by simp [go_sem]
theorem Y2(w:World):(Fu 0 0 0 0 false).p w.heap.size (w.alloc (.cells #[.int .u64 0,.int .u64 0,.int .u64 0,.int .u64 0,.bool false] 127 (0,0))):=JG w _
theorem Aj2{p q:Nat}:Gy 127 (Fu 0 0 0 0 false) (AjW p q) (tZ p q):=by
 intro w g v h1 h2;obtain ⟨a0,b0,a1,b1,o,rfl,hk⟩:=h2;have hh:w.heap[g]? = some (.cells #[.int .u64 0,.int .u64 0,.int .u64 0,.int .u64 0,.bool false] 127 (0,0)):=h1;have c0:w.cell? ⟨g,0,none⟩=some (.int .u64 0):=by rw [cell_of_row w g 0 _ _ (0,0) hh]; rfl
 have c1:w.cell? ⟨g,1,none⟩=some (.int .u64 0):=by rw [cell_of_row w g 1 _ _ (0,0) hh]; rfl
 have c2:w.cell? ⟨g,2,none⟩=some (.int .u64 0):=by rw [cell_of_row w g 2 _ _ (0,0) hh]; rfl
 have c3:w.cell? ⟨g,3,none⟩=some (.int .u64 0):=by rw [cell_of_row w g 3 _ _ (0,0) hh]; rfl
 have c4:w.cell? ⟨g,4,none⟩=some (.bool false):=by rw [cell_of_row w g 4 _ _ (0,0) hh]; rfl
 have f0:=AF hh 0;have f1:=AF hh 1;have f2:=AF hh 2;have f3:=AF hh 3;have f4:=AF hh 4;have hne:(127:TypeId)≠109:=by decide
 have k1:=AI hh 0 (.int .u64 (a0:Int));have k2:=AI k1 1 (.int .u64 (b0:Int));have k3:=AI k2 2 (.int .u64 (a1:Int));have k4:=AI k3 3 (.int .u64 (b1:Int));have k5:=AI k4 4 (.bool o);refine ⟨((((w.setCell ⟨g,0,none⟩ (.int .u64 a0)).setCell ⟨g,1,none⟩ (.int .u64 b0)).setCell ⟨g,2,none⟩ (.int .u64 a1)).setCell ⟨g,3,none⟩ (.int .u64 b1)).setCell ⟨g,4,none⟩ (.bool o),by simp [go_sem,c0,c1,c2,c3,c4,f0,f1,f2,f3,f4],
  λB W hq hB=>((((hB.setCell hq _).setCell hq _).setCell hq _).setCell hq _).setCell hq _,?_,λj hj=>?_,⟨a0,b0,a1,b1,o,hk,k5⟩⟩
 ·exact ((((Bz.set hh hne 0 _).trans (Bz.set k1 hne 1 _)).trans (Bz.set k2 hne 2 _)).trans (Bz.set k3 hne 3 _)).trans (Bz.set k4 hne 4 _)
 ·exact (Below.heap_setCell _ _ _ j (by simpa using hj)).trans ((Below.heap_setCell _ _ _ j (by simpa using hj)).trans ((Below.heap_setCell _ _ _ j (by simpa using hj)).trans ((Below.heap_setCell _ _ _ j (by simpa using hj)).trans (Below.heap_setCell _ _ _ j (by simpa using hj)))))
theorem Aqy{a0 b0 a1 b1:Nat}{o:Bool}(w:World)(q:Nat)(h:(Fu a0 b0 a1 b1 o).p q w):∃ v,(Instr.loadAt 127 (.pointer (some ⟨q,0,none⟩))).run Tryz.prog w = .ok v w∧(Ap (.agg #[.int .u64 (a0:Int),.int .u64 (b0:Int),.int .u64 (a1:Int),.int .u64 (b1:Int),.bool o])).p v w:=by
 have hh:w.heap[q]? = some (.cells #[.int .u64 (a0:Int),.int .u64 (b0:Int),.int .u64 (a1:Int),.int .u64 (b1:Int),.bool o] 127 (0,0)):=h;have c0:w.cell? ⟨q,0,none⟩=some (.int .u64 (a0:Int)):=by rw [cell_of_row w q 0 _ _ (0,0) hh]; rfl
 have c1:w.cell? ⟨q,1,none⟩=some (.int .u64 (b0:Int)):=by rw [cell_of_row w q 1 _ _ (0,0) hh]; rfl
 have c2:w.cell? ⟨q,2,none⟩=some (.int .u64 (a1:Int)):=by rw [cell_of_row w q 2 _ _ (0,0) hh]; rfl
 have c3:w.cell? ⟨q,3,none⟩=some (.int .u64 (b1:Int)):=by rw [cell_of_row w q 3 _ _ (0,0) hh]; rfl
 have c4:w.cell? ⟨q,4,none⟩=some (.bool o):=by rw [cell_of_row w q 4 _ _ (0,0) hh]; rfl
 exact ⟨_,by simp [go_sem,c0,c1,c2,c3,c4],rfl⟩
theorem Ul{ρ:Operand→Value}{w:World}{x:Operand}{n:Nat}(hx:(AH n).p (ρ x) w):Hl (.call { callee:=.builtin .len,args:=#[x],argTypes:=#[32] }) ρ w (Ap (.int .i64 (len n:Int))):=by
 have hx:AM w (ρ x) n:=hx;obtain ⟨A,c,e,_⟩:=hx;exact RG (show (Ap (.slice A (len n) c)).p (ρ x) w from e)
theorem AdF{x y:Nat}(h:y≤x):decide (G5 x y<0)=false:=by
 rcases Nat.lt_or_eq_of_le h with h | h
 ·rw [Fk h]; decide
 ·rw [FH h.symm]; decide
theorem Alt{q:Nat}(h:0<q):((len q:Int) == 0)=false:=by
 have:len q≠0:=λe=>by have:=Bh.1 e; omega
 simp;omega
section
variable {w : World} {va vb : Value} {x y : Nat}
theorem W_(ha:(AH x).p va w)(hb:(AH y).p vb w)(hx:len x≤1099511627776)(hy:len y≤1099511627776):Calls Tryz.prog 129 #[va,vb] w (Ak (Ap (.int .i64 (G5 x y))) w):=by
 have ha:AM w va x:=ha;have hb:AM w vb y:=hb;obtain ⟨A,c,rfl,HA⟩:=ha.open_;obtain ⟨B,d,rfl,HB⟩:=hb.open_;exact (I_ A B c d x y w HA.out HB.out hx hy).mono λ_ _ ⟨he,hb⟩=>⟨_,he,rfl,hb⟩
theorem oA(ha:(AH x).p va w)(hb:(AH y).p vb w)(h3:3≤len x)(hla:len x≤1099511627776)(hba:y≤x):Calls Tryz.prog 139 #[va,vb] w (Ak (AjW x y) w):=
 (Tv va vb x y w ha hb h3 hla hba).mono λ_ _ ⟨a0,b0,a1,b1,o,he,k0,k1,k2,k3,k4,hb⟩=>⟨_,he,⟨a0,b0,a1,b1,o,rfl,k0,k1,k2,k3,k4⟩,hb⟩
theorem gQ(ha:(AH x).p va w)(hb:(AH y).p vb w)(hx:len x≤1099511627775)(hy:len y≤1099511627775)(h0:0<y):Calls Tryz.prog 140 #[va,vb] w (Ak (CJ (AH (x / y)) (AH (x % y))) w):=
 (Pa va vb x y w ha hb hx hy h0).mono λ_ _ ⟨vq,vr,he,hq,hr,hb⟩=>⟨_,he,⟨vq,vr,rfl,hq,hr⟩,hb⟩
theorem gU(ha:(AH x).p va w)(hx:x<18446744073709551616):Calls Tryz.prog 143 #[va] w (Ak (Ap (.int .u64 (x:Int))) w):=by
 have ha:AM w va x:=ha;obtain ⟨A,c,rfl,HA⟩:=ha.open_;exact (JQ A c x w HA.out.mem.2.2 hx).mono λ_ _ ⟨he,hw⟩=>⟨_,he,rfl,hw ▸ Below.refl _ _⟩
theorem Sv(ha:(Ap (.int .u64 (x:Int))).p va w)(hb:(Ap (.int .u64 (y:Int))).p vb w)(hx:x<18446744073709551616)(hy:y<18446744073709551616):Calls Tryz.prog 142 #[va,vb] w (Ak (Ap (.int .u64 (Nat.gcd x y:Nat))) w):=by
 have ha:va = .int .u64 (x:Int):=ha;have hb:vb = .int .u64 (y:Int):=hb;subst ha hb;exact (Nd x y w hx hy).mono λ_ _ ⟨he,hb⟩=>⟨_,he,rfl,hb⟩
theorem mC(ha:(Ap (.int .u64 (x:Int))).p va w)(hx:x<18446744073709551616):Calls Tryz.prog 128 #[va] w (Ak (AH x) w):=by
 have ha:va = .int .u64 (x:Int):=ha;subst ha;exact DO x w hx
theorem Ai0{vs:Value}{p q c0 d0 c1 d1 U V:Nat}{o:Bool}(hs:(Ap (.agg #[.int .u64 (c0:Int),.int .u64 (d0:Int),.int .u64 (c1:Int),.int .u64 (d1:Int),.bool o])).p vs w)(ha:(AH p).p va w)(hb:(AH q).p vb w)(hok:FM p q c0 d0 c1 d1 o)(hUV:if o then U+c0*p=d0*q∧V+d1*q=c1*p else U+d0*q=c0*p∧V+c1*p=d1*q)(hU:U<p)(hV:V<q)(bp:len p≤1099511627775)(bq:len q≤1099511627775) :
  Calls Tryz.prog 141 #[vs,va,vb] w (Ak (CJ (AH U) (AH V)) w):=by
 have hs:vs = .agg #[.int .u64 (c0:Int),.int .u64 (d0:Int),.int .u64 (c1:Int),.int .u64 (d1:Int),.bool o]:=hs;subst hs;have h1:=Bm (Nat.le_of_lt hU);have h2:=Bm (Nat.le_of_lt hV);obtain ⟨k0,k1,k2,k3,_⟩:=hok
 cases o
 ·simp only [Bool.false_eq_true,if_false] at hUV
  exact Z6 va vb p q c0 d0 c1 d1 U V w ha hb k0 k1 k2 k3 (by omega) (by omega) (by omega) hUV.1 hUV.2
 ·simp only [if_true] at hUV
  exact oY va vb p q c0 d0 c1 d1 U V w ha hb k0 k1 k2 k3 (by omega) (by omega) (by omega) hUV.1 hUV.2
end
noncomputable def TI:=Bw Tryz.f130
noncomputable def Ya:=cl TI
noncomputable def LF:=cr TI
theorem tP:TI = .seq Ya LF:=by kernel_rfl
noncomputable def YZ:=Bt Ya
theorem wX:Ya = .region 0 YZ false:=by kernel_rfl
noncomputable def SF:=cl LF
noncomputable def LK:=cr LF
theorem tS:LF = .seq SF LK:=by kernel_rfl
noncomputable def Zj:=cl SF
noncomputable def Mc:=cr SF
theorem pY:SF = .seq Zj Mc:=by kernel_rfl
noncomputable def YP:=Bt Zj
theorem Abn:Zj = .region 1 YP false:=by kernel_rfl
noncomputable def Ud:=cl Mc
noncomputable def YK:=cr Mc
theorem yZ:Mc = .cond (.tmp 13) Ud YK:=by kernel_rfl
noncomputable def AbZ:=Bt Ud
theorem Akc:Ud = .region 2 AbZ false:=by kernel_rfl
theorem Ajs:YK = .skip:=by kernel_rfl
noncomputable def XW:=cl LK
noncomputable def GG:=cr LK
theorem xH:LK = .seq XW GG:=by kernel_rfl
noncomputable def KN:=cl XW
theorem zE:XW = .block 0 KN:=by kernel_rfl
noncomputable def I2:=cl KN
theorem dV:KN = .loop I2:=by kernel_rfl
noncomputable def Nu:=cl I2
noncomputable def KV:=cr I2
theorem N6:I2 = .seq Nu KV:=by kernel_rfl
noncomputable def SG:=cl Nu
noncomputable def GM:=cr Nu
theorem NO:Nu = .seq SG GM:=by kernel_rfl
noncomputable def Xz:=Bt SG
theorem NL:SG = .region 3 Xz false:=by kernel_rfl
noncomputable def NX:=cl GM
noncomputable def Nx:=cr GM
theorem Nn:GM = .cond (.tmp 18) NX Nx:=by kernel_rfl
theorem gE:NX = .skip:=by kernel_rfl
theorem eM:Nx = .exit 0:=by kernel_rfl
noncomputable def Jb:=cl KV
theorem fO:KV = .block 1 Jb:=by kernel_rfl
noncomputable def SH:=cl Jb
noncomputable def GJ:=cr Jb
theorem aU:Jb = .seq SH GJ:=by kernel_rfl
noncomputable def Ack:=Bt SH
theorem bJ:SH = .region 4 Ack false:=by kernel_rfl
noncomputable def T6:=cl GJ
noncomputable def Gu:=cr GJ
theorem N4:GJ = .seq T6 Gu:=by kernel_rfl
noncomputable def YD:=Bt T6
theorem N0:T6 = .region 5 YD false:=by kernel_rfl
noncomputable def I7:=cl Gu
noncomputable def KI:=cr Gu
theorem Ng:Gu = .cond (.tmp 24) I7 KI:=by kernel_rfl
noncomputable def Tq:=cl I7
noncomputable def KG:=cr I7
theorem gO:I7 = .seq Tq KG:=by kernel_rfl
noncomputable def qV:=Bt Tq
theorem jK:Tq = .region 6 qV false:=by kernel_rfl
noncomputable def uG:=Bt KG
theorem lB:KG = .region 7 uG false:=by kernel_rfl
noncomputable def Aaz:=Bt KI
theorem dD:KI = .region 8 Aaz false:=by kernel_rfl
noncomputable def NZ:=cl GG
noncomputable def I3:=cr GG
theorem NS:GG = .seq NZ I3:=by kernel_rfl
noncomputable def US:=cl NZ
noncomputable def GU:=cr NZ
theorem Ns:NZ = .seq US GU:=by kernel_rfl
noncomputable def Zx:=Bt US
theorem NJ:US = .region 9 Zx false:=by kernel_rfl
noncomputable def I9:=cl GU
noncomputable def Ni:=cr GU
theorem Nt:GU = .cond (.tmp 42) I9 Ni:=by kernel_rfl
noncomputable def RS:=cl I9
noncomputable def Nh:=cr I9
theorem fZ:I9 = .seq RS Nh:=by kernel_rfl
noncomputable def cL:=Bt RS
theorem jX:RS = .region 10 cL false:=by kernel_rfl
theorem jN:Nh = .ret:=by kernel_rfl
theorem lC:Ni = .skip:=by kernel_rfl
noncomputable def UC:=cl I3
noncomputable def I4:=cr I3
theorem bE:I3 = .seq UC I4:=by kernel_rfl
noncomputable def cF:=Bt UC
theorem jV:UC = .region 11 cF false:=by kernel_rfl
noncomputable def S8:=cl I4
noncomputable def N3:=cr I4
theorem jG:I4 = .seq S8 N3:=by kernel_rfl
noncomputable def cC:=Bt S8
theorem jH:S8 = .region 12 cC false:=by kernel_rfl
theorem aK:N3 = .ret:=by kernel_rfl
section
set_option linter.unusedSectionVars false
variable {Wb : World}
theorem AjQ{pp qq:Nat}(hlp:len pp≤1099511627775)(hlq:len qq≤1099511627775)(lt:pp<qq):RA 56 [(AH pp),(AH qq)] [] ⟨[(0,(.ref 0)),(1,(.ref 1))],[]⟩ ⟨[(0,(.ref 0)),(1,(.ref 1)),(4,.nil)],[]⟩ Wb 0 YZ false:=RA.of
   {  } (by kernel_rfl)
theorem AkF{pp qq:Nat}(hlp:len pp≤1099511627775)(hlq:len qq≤1099511627775)(lt:pp<qq):RA 56 [(AH pp),(AH qq),(Ap (.int .i64 (G5 pp qq)))] [] ⟨[(0,(.ref 0)),(1,(.ref 1)),(4,.nil)],[]⟩ ⟨[(0,(.ref 0)),(1,(.ref 1)),(4,.nil),(13,(.bool true))],[]⟩ Wb 1 YP false:=RA.of
   { pures:=[p2 (.bin .lss 3 3) (.ref 2) (.int .i64 0) (.bool true) λ_ _ _ _ _ hx hy=>IA (r:=true) (by rw [GF lt]; decide) hx hy],
     calls:=[c2 129 (.ref 0) (.ref 1) (.ref 2) λw v0 v1 hb h0 h1=>W_ h0 h1 (by omega) (by omega)] } (by kernel_rfl)
theorem AlB{pp qq:Nat}(hlp:len pp≤1099511627775)(hlq:len qq≤1099511627775)(lt:pp<qq):RA 56 [(AH pp),(AH qq)] [] ⟨[(0,(.ref 0)),(1,(.ref 1)),(4,.nil),(13,(.bool true))],[]⟩ ⟨[(0,(.ref 1)),(1,(.ref 0)),(4,.nil),(13,(.bool true))],[]⟩ Wb 2 AbZ false:=RA.of
   {  } (by kernel_rfl)
theorem AbN{p q:Nat}(hqp:q≤p)(bp:len p≤1099511627775)(bq:len q≤1099511627775)(h3:3≤len q):RA 56 [(AH q),(Ap (.int .i64 (len q:Int))),(AH p)] [] ⟨[(0,(.ref 2)),(1,(.ref 0))],[]⟩ ⟨[(0,(.ref 2)),(1,(.ref 0)),(18,(.bool true))],[]⟩ Wb 3 Xz false:=RA.of
   { pures:=[p1 (.blt .len [32]) (.ref 0) (.ref 1) λ_ _ _ _ hx=>Ul hx,
      p2 (.bin .gtr 3 3) (.ref 1) (.int .i64 2) (.bool true) λ_ _ _ _ _ hx hy=>GO (r:=true) (by simp; omega) hx hy] } (by kernel_rfl)
theorem sA{p q:Nat}(hqp:q≤p)(bp:len p≤1099511627775)(bq:len q≤1099511627775)(h3:3≤len q):RA 56 [(AH p),(AH q),(AjW p q)] [(Fu 0 0 0 0 false),(tZ p q)] ⟨[(0,(.ref 0)),(1,(.ref 1)),(18,(.bool true))],[]⟩ ⟨[(0,(.ref 0)),(1,(.ref 1)),(18,(.bool true))],[(5,1)]⟩ Wb 4 Ack false:=RA.of
   { calls:=[c2 139 (.ref 0) (.ref 1) (.ref 2) λw v0 v1 hb h0 h1=>oA h0 h1 (by have:=Bm hqp; omega) (by omega) hqp],
     allocs:=[⟨127,0,_,aD,Y2⟩],
     stores:=[⟨127,0,0,(.ref 2),1,Aj2⟩] } (by kernel_rfl)
theorem rO{p q:Nat}(hqp:q≤p)(bp:len p≤1099511627775)(bq:len q≤1099511627775)(h3:3≤len q){c0 d0 c1 d1:Nat}{o:Bool}(hok:FM p q c0 d0 c1 d1 o)(hz:d0=0)(q0:0<q):RA 56 [(Ap (.int .u64 (d0:Int))),(AH p),(AH q)] [(Fu c0 d0 c1 d1 o)] ⟨[(0,(.ref 1)),(1,(.ref 2)),(18,(.bool true))],[(5,0)]⟩ ⟨[(0,(.ref 1)),(1,(.ref 2)),(18,(.bool true)),(24,(.bool true))],[(5,0)]⟩ Wb 5 YD false:=RA.of
   { pures:=[p2 (.bin .eql 107 107) (.ref 0) (.int .u64 0) (.bool true) λ_ _ _ _ _ hx hy=>CR (r:=true) (by simp; omega) hx hy],
     loads:=[⟨107,1,0,(.ref 0),λw q h=>Ti w q h⟩],
     flds:=[⟨127,1,1,dG⟩] } (by kernel_rfl)
theorem AbM{p q:Nat}(hqp:q≤p)(bp:len p≤1099511627775)(bq:len q≤1099511627775)(h3:3≤len q){c0 d0 c1 d1:Nat}{o:Bool}(hok:FM p q c0 d0 c1 d1 o)(hz:d0=0)(q0:0<q):RA 56 [(AH p),(AH q),(AH (p / q)),(AH (p % q))] [(Fu c0 d0 c1 d1 o)] ⟨[(0,(.ref 0)),(1,(.ref 1)),(18,(.bool true)),(24,(.bool true))],[(5,0)]⟩ ⟨[(0,(.ref 0)),(1,(.ref 1)),(7,(.ref 3)),(18,(.bool true)),(24,(.bool true))],[(5,0)]⟩ Wb 6 qV false:=RA.of
   { calls:=[c2 140 (.ref 0) (.ref 1) (.tup2 (.ref 2) (.ref 3)) λw v0 v1 hb h0 h1=>gQ h0 h1 (by omega) (by omega) q0] } (by kernel_rfl)
theorem pD{p q:Nat}(hqp:q≤p)(bp:len p≤1099511627775)(bq:len q≤1099511627775)(h3:3≤len q){c0 d0 c1 d1:Nat}{o:Bool}(hok:FM p q c0 d0 c1 d1 o)(hz:d0=0)(q0:0<q):RA 56 [(AH p),(AH q),(AH (p % q))] [(Fu c0 d0 c1 d1 o)] ⟨[(0,(.ref 0)),(1,(.ref 1)),(7,(.ref 2)),(18,(.bool true)),(24,(.bool true))],[(5,0)]⟩ ⟨[(0,(.ref 1)),(1,(.ref 2)),(7,(.ref 2)),(18,(.bool true)),(24,(.bool true))],[(5,0)]⟩ Wb 7 uG false:=RA.of
   {  } (by kernel_rfl)
theorem jO{p q:Nat}(hqp:q≤p)(bp:len p≤1099511627775)(bq:len q≤1099511627775)(h3:3≤len q){c0 d0 c1 d1:Nat}{o:Bool}(hok:FM p q c0 d0 c1 d1 o)(hz:d0≠0){U V:Nat}(hUV:if o then U+c0*p=d0*q∧V+d1*q=c1*p else U+d0*q=c0*p∧V+c1*p=d1*q)(hU:U<p)(hV:V<q):RA 56 [(Ap (.int .u64 (d0:Int))),(AH p),(AH q)] [(Fu c0 d0 c1 d1 o)] ⟨[(0,(.ref 1)),(1,(.ref 2)),(18,(.bool true))],[(5,0)]⟩ ⟨[(0,(.ref 1)),(1,(.ref 2)),(18,(.bool true)),(24,(.bool false))],[(5,0)]⟩ Wb 5 YD false:=RA.of
   { pures:=[p2 (.bin .eql 107 107) (.ref 0) (.int .u64 0) (.bool false) λ_ _ _ _ _ hx hy=>CR (r:=false) (by simp; omega) hx hy],
     loads:=[⟨107,1,0,(.ref 0),λw q h=>Ti w q h⟩],
     flds:=[⟨127,1,1,dG⟩] } (by kernel_rfl)
theorem qN{p q:Nat}(hqp:q≤p)(bp:len p≤1099511627775)(bq:len q≤1099511627775)(h3:3≤len q){c0 d0 c1 d1:Nat}{o:Bool}(hok:FM p q c0 d0 c1 d1 o)(hz:d0≠0){U V:Nat}(hUV:if o then U+c0*p=d0*q∧V+d1*q=c1*p else U+d0*q=c0*p∧V+c1*p=d1*q)(hU:U<p)(hV:V<q):RA 56 [(Ap (.agg #[.int .u64 (c0:Int),.int .u64 (d0:Int),.int .u64 (c1:Int),.int .u64 (d1:Int),.bool o])),(AH p),(AH q),(AH U),(AH V)] [(Fu c0 d0 c1 d1 o)] ⟨[(0,(.ref 1)),(1,(.ref 2)),(18,(.bool true)),(24,(.bool false))],[(5,0)]⟩ ⟨[(0,(.ref 3)),(1,(.ref 4)),(18,(.bool true)),(24,(.bool false))],[(5,0)]⟩ Wb 8 Aaz false:=RA.of
   { calls:=[c3 141 (.ref 0) (.ref 1) (.ref 2) (.tup2 (.ref 3) (.ref 4)) λw v0 v1 v2 hb h0 h1 h2=>Ai0 h0 h1 h2 hok hUV hU hV bp bq],
     loads:=[⟨127,0,0,(.ref 0),λw q h=>Aqy w q h⟩] } (by kernel_rfl)
theorem eP{p q:Nat}(hqp:q≤p)(bp:len p≤1099511627775)(bq:len q≤1099511627775)(h3:len q≤2):RA 56 [(AH q),(Ap (.int .i64 (len q:Int))),(AH p)] [] ⟨[(0,(.ref 2)),(1,(.ref 0))],[]⟩ ⟨[(0,(.ref 2)),(1,(.ref 0)),(18,(.bool false))],[]⟩ Wb 3 Xz false:=RA.of
   { pures:=[p1 (.blt .len [32]) (.ref 0) (.ref 1) λ_ _ _ _ hx=>Ul hx,
      p2 (.bin .gtr 3 3) (.ref 1) (.int .i64 2) (.bool false) λ_ _ _ _ _ hx hy=>GO (r:=false) (by simp; omega) hx hy] } (by kernel_rfl)
theorem Ab5{p q:Nat}(hqp:q≤p)(bp:len p≤1099511627775)(bq:len q≤1099511627775)(q0:q=0):RA 56 [(AH q),(Ap (.int .i64 (len q:Int))),(AH p)] [] ⟨[(0,(.ref 2)),(1,(.ref 0)),(18,(.bool false))],[]⟩ ⟨[(0,(.ref 2)),(1,(.ref 0)),(18,(.bool false)),(42,(.bool true))],[]⟩ Wb 9 Zx false:=RA.of
   { pures:=[p1 (.blt .len [32]) (.ref 0) (.ref 1) λ_ _ _ _ hx=>Ul hx,
      p2 (.bin .eql 3 3) (.ref 1) (.int .i64 0) (.bool true) λ_ _ _ _ _ hx hy=>CR (r:=true) (by rw [q0,Bi]; rfl) hx hy] } (by kernel_rfl)
theorem cO{p q:Nat}(hqp:q≤p)(bp:len p≤1099511627775)(bq:len q≤1099511627775)(q0:q=0):RA 56 [(AH p),(AH q)] [] ⟨[(0,(.ref 0)),(1,(.ref 1)),(18,(.bool false)),(42,(.bool true))],[]⟩ ⟨[(0,(.ref 0)),(1,(.ref 1)),(4,(.ref 0)),(18,(.bool false)),(42,(.bool true))],[]⟩ Wb 10 cL false:=RA.of
   {  } (by kernel_rfl)
theorem eN{p q:Nat}(hqp:q≤p)(bp:len p≤1099511627775)(bq:len q≤1099511627775)(q0:0<q)(q64:q<18446744073709551616):RA 56 [(AH q),(Ap (.int .i64 (len q:Int))),(AH p)] [] ⟨[(0,(.ref 2)),(1,(.ref 0)),(18,(.bool false))],[]⟩ ⟨[(0,(.ref 2)),(1,(.ref 0)),(18,(.bool false)),(42,(.bool false))],[]⟩ Wb 9 Zx false:=RA.of
   { pures:=[p1 (.blt .len [32]) (.ref 0) (.ref 1) λ_ _ _ _ hx=>Ul hx,
      p2 (.bin .eql 3 3) (.ref 1) (.int .i64 0) (.bool false) λ_ _ _ _ _ hx hy=>CR (r:=false) (Alt q0) hx hy] } (by kernel_rfl)
theorem gV{p q:Nat}(hqp:q≤p)(bp:len p≤1099511627775)(bq:len q≤1099511627775)(q0:0<q)(q64:q<18446744073709551616):RA 56 [(AH p),(AH q),(AH (p / q)),(AH (p % q))] [] ⟨[(0,(.ref 0)),(1,(.ref 1)),(18,(.bool false)),(42,(.bool false))],[]⟩ ⟨[(0,(.ref 0)),(1,(.ref 1)),(9,(.ref 3)),(18,(.bool false)),(42,(.bool false))],[]⟩ Wb 11 cF false:=RA.of
   { calls:=[c2 140 (.ref 0) (.ref 1) (.tup2 (.ref 2) (.ref 3)) λw v0 v1 hb h0 h1=>gQ h0 h1 (by omega) (by omega) q0] } (by kernel_rfl)
theorem fI{p q:Nat}(hqp:q≤p)(bp:len p≤1099511627775)(bq:len q≤1099511627775)(q0:0<q)(q64:q<18446744073709551616):RA 56 [(AH q),(Ap (.int .u64 ((q:Nat):Int))),(AH (p % q)),(Ap (.int .u64 (((p % q):Nat):Int))),(Ap (.int .u64 ((Nat.gcd q (p % q):Nat):Int))),(AH (Nat.gcd q (p % q))),(AH p)] [] ⟨[(0,(.ref 6)),(1,(.ref 0)),(9,(.ref 2)),(18,(.bool false)),(42,(.bool false))],[]⟩ ⟨[(0,(.ref 6)),(1,(.ref 0)),(4,(.ref 5)),(9,(.ref 2)),(18,(.bool false)),(42,(.bool false))],[]⟩ Wb 12 cC false:=RA.of
   { calls:=[c1 143 (.ref 0) (.ref 1) λw v0 hb h0=>gU h0 q64,
      c1 143 (.ref 2) (.ref 3) λw v0 hb h0=>gU h0 (Nat.lt_trans (Nat.mod_lt _ q0) q64),
      c2 142 (.ref 1) (.ref 3) (.ref 4) λw v0 v1 hb h0 h1=>Sv h0 h1 q64 (Nat.lt_trans (Nat.mod_lt _ q0) q64),
      c1 128 (.ref 4) (.ref 5) λw v0 hb h0=>mC h0 (Nat.lt_of_le_of_lt (Nat.le_of_dvd q0 (Nat.gcd_dvd_left _ _)) q64)] } (by kernel_rfl)
theorem AcV{pp qq:Nat}(hlp:len pp≤1099511627775)(hlq:len qq≤1099511627775)(lt:qq≤pp):RA 56 [(AH pp),(AH qq)] [] ⟨[(0,(.ref 0)),(1,(.ref 1))],[]⟩ ⟨[(0,(.ref 0)),(1,(.ref 1)),(4,.nil)],[]⟩ Wb 0 YZ false:=RA.of
   {  } (by kernel_rfl)
theorem Adq{pp qq:Nat}(hlp:len pp≤1099511627775)(hlq:len qq≤1099511627775)(lt:qq≤pp):RA 56 [(AH pp),(AH qq),(Ap (.int .i64 (G5 pp qq)))] [] ⟨[(0,(.ref 0)),(1,(.ref 1)),(4,.nil)],[]⟩ ⟨[(0,(.ref 0)),(1,(.ref 1)),(4,.nil),(13,(.bool false))],[]⟩ Wb 1 YP false:=RA.of
   { pures:=[p2 (.bin .lss 3 3) (.ref 2) (.int .i64 0) (.bool false) λ_ _ _ _ _ hx hy=>IA (r:=false) (AdF lt) hx hy],
     calls:=[c2 129 (.ref 0) (.ref 1) (.ref 2) λw v0 v1 hb h0 h1=>W_ h0 h1 (by omega) (by omega)] } (by kernel_rfl)
end
theorem VK(va vb:Value)(pp qq:Nat)(W:World)(ha:AM W va pp)(hb:AM W vb qq)(hlp:len pp≤1099511627775)(hlq:len qq≤1099511627775) :
  Calls Tryz.prog 130 #[va,vb] W (Ak (AH (Nat.gcd pp qq)) W):=by
 refine Em (S:=[(0,(AH pp)),(1,(AH qq))]) Tryz.func130 (by kernel_rfl) Tryz.ntmps130 (by simp) (λx hx=>?_) λa w hst=>?_
 ·simp only [List.mem_cons,List.not_mem_nil,or_false] at hx
  rcases hx with rfl | rfl
  ·exact ⟨_,rfl,ha⟩
  ·exact ⟨_,rfl,hb⟩
 show Code.wp _ TI _ a w
 rcases Nat.lt_or_ge pp qq with lt | lt
 ·rw [tP]
  refine wp_seq ?_;rw [wX];refine (AjQ hlp hlq lt).run hst ?_;clear hst;intro a w hst;show Code.wp _ LF _ a w;rw [tS];refine wp_seq ?_;rw [pY];refine wp_seq ?_;rw [Abn];refine (AkF hlp hlq lt).run hst ?_;clear hst;intro a w hst;show Code.wp _ Mc _ a w;rw [yZ];refine wp_cond_true (Bp hst 3 rfl) ?_;show Code.wp _ Ud _ a w;rw [Akc];refine (AlB hlp hlq lt).run hst ?_;clear hst;intro a w hst;show Code.wp _ LK _ a w;rw [xH];refine wp_seq ?_;rw [zE];refine wp_block ?_;show Code.wp _ KN _ a w;rw [dV];refine DI (fun (z:Nat × Nat) a w=>St W 56 [(0,(AH z.1)),(1,(AH z.2))] [] a w∧z.2≤z.1∧z.1≤max pp qq∧Nat.gcd z.1 z.2=Nat.gcd pp qq) (λz=>z.2) ?_ (qq,pp) ⟨hst.to ⟨hst.slots.get (k:=0) rfl,hst.slots.get (k:=1) rfl,trivial⟩,by show pp≤qq; omega,by show qq≤max pp qq; omega,Nat.gcd_comm _ _⟩
  rintro ⟨p,q⟩ a w ⟨hst,hqp,hpm,hg⟩
  simp only [] at hst hqp hpm hg;have bm:len (max pp qq)≤1099511627775:=by rcases Nat.le_total pp qq with h | h; (rw [Nat.max_eq_right h]; exact hlq); (rw [Nat.max_eq_left h]; exact hlp)
  have bp:len p≤1099511627775:=Nat.le_trans (Bm hpm) bm;have bq:len q≤1099511627775:=Nat.le_trans (Bm hqp) bp;show Code.wp _ I2 _ a w
  rcases Nat.lt_or_ge 2 (len q) with h3 | h3
  ·have h3:3≤len q:=h3
   rw [N6];refine wp_seq ?_;rw [NO];refine wp_seq ?_;rw [NL];refine (AbN hqp bp bq h3).run hst ?_;clear hst;intro a w hst;show Code.wp _ GM _ a w;rw [Nn];refine wp_cond_true (Bp hst 2 rfl) ?_;show Code.wp _ NX _ a w;rw [gE];refine wp_skip ?_;show Code.wp _ KV _ a w;rw [fO];refine wp_block ?_;show Code.wp _ Jb _ a w;rw [aU];refine wp_seq ?_;rw [bJ];refine (sA hqp bp bq h3).run hst ?_;clear hst;intro a w hst;obtain ⟨c0,d0,c1,d1,o,hok,hst⟩:=dH hst
   by_cases hz:d0=0
   ·have q0:0<q:=by rcases Nat.eq_zero_or_pos q with h | h; (rw [h,Bi] at h3; omega); exact h
    show Code.wp _ GJ _ a w;rw [N4];refine wp_seq ?_;rw [N0];refine (rO hqp bp bq h3 hok hz q0).run hst ?_;clear hst;intro a w hst;show Code.wp _ Gu _ a w;rw [Ng];refine wp_cond_true (Bp hst 3 rfl) ?_;show Code.wp _ I7 _ a w;rw [gO];refine wp_seq ?_;rw [jK];refine (AbM hqp bp bq h3 hok hz q0).run hst ?_;clear hst;intro a w hst;show Code.wp _ KG _ a w;rw [lB];refine (pD hqp bp bq h3 hok hz q0).run hst ?_;clear hst;intro a w hst;exact ⟨(q,p % q),⟨((hst.to (S':=[(0,(AH q)),(1,(AH (p % q)))]) ⟨hst.slots.get (k:=0) rfl,hst.slots.get (k:=1) rfl,trivial⟩).firstB 0),Nat.le_of_lt (Nat.mod_lt _ q0),by show q≤max pp qq; omega,by show Nat.gcd q (p % q)=_; rw [← hg,Nat.gcd_comm p q,Nat.gcd_rec q p,Nat.gcd_comm]⟩,Nat.mod_lt _ q0⟩
   ·obtain ⟨U,V,hUV,hgU,hU,hV,hVU⟩:=hok.2.2.2.2 hz
    show Code.wp _ GJ _ a w;rw [N4];refine wp_seq ?_;rw [N0];refine (jO hqp bp bq h3 hok hz hUV hU hV).run hst ?_;clear hst;intro a w hst;show Code.wp _ Gu _ a w;rw [Ng];refine wp_cond_false (Bp hst 3 rfl) ?_;show Code.wp _ KI _ a w;rw [dD];refine (qN hqp bp bq h3 hok hz hUV hU hV).run hst ?_;clear hst;intro a w hst;exact ⟨(U,V),⟨((hst.to (S':=[(0,(AH U)),(1,(AH V))]) ⟨hst.slots.get (k:=0) rfl,hst.slots.get (k:=1) rfl,trivial⟩).firstB 0),hVU,by show U≤max pp qq; omega,by show Nat.gcd U V=_; rw [hgU,hg]⟩,hV⟩
  ·rw [N6]
   refine wp_seq ?_;rw [NO];refine wp_seq ?_;rw [NL];refine (eP hqp bp bq h3).run hst ?_;clear hst;intro a w hst;show Code.wp _ GM _ a w;rw [Nn];refine wp_cond_false (Bp hst 2 rfl) ?_;show Code.wp _ Nx _ a w;rw [eM];refine wp_exit ?_
   rcases Nat.eq_zero_or_pos q with q0 | q0
   ·have e0:p=Nat.gcd pp qq:=by rw [← hg,q0,Nat.gcd_zero_right]
    show Code.wp _ GG _ a w;rw [NS];refine wp_seq ?_;rw [Ns];refine wp_seq ?_;rw [NJ];refine (Ab5 hqp bp bq q0).run hst ?_;clear hst;intro a w hst;show Code.wp _ GU _ a w;rw [Nt];refine wp_cond_true (Bp hst 3 rfl) ?_;show Code.wp _ I9 _ a w;rw [fZ];refine wp_seq ?_;rw [jX];refine (cO hqp bp bq q0).run hst ?_;clear hst;intro a w hst;show Code.wp _ Nh _ a w;rw [jN];refine wp_ret ?_;rw [e0] at hst;exact Nq hst rfl 2 rfl
   ·have q64:q<18446744073709551616:=Nat.lt_of_lt_of_le (B7 q) (Nat.pow_le_pow_right (n:=4294967296) (by decide) h3)
    show Code.wp _ GG _ a w;rw [NS];refine wp_seq ?_;rw [Ns];refine wp_seq ?_;rw [NJ];refine (eN hqp bp bq q0 q64).run hst ?_;clear hst;intro a w hst;show Code.wp _ GU _ a w;rw [Nt];refine wp_cond_false (Bp hst 3 rfl) ?_;show Code.wp _ Ni _ a w;rw [lC];refine wp_skip ?_;show Code.wp _ I3 _ a w;rw [bE];refine wp_seq ?_;rw [jV];refine (gV hqp bp bq q0 q64).run hst ?_;clear hst;intro a w hst;show Code.wp _ I4 _ a w;rw [jG];refine wp_seq ?_;rw [jH];refine (fI hqp bp bq q0 q64).run hst ?_;clear hst;intro a w hst;show Code.wp _ N3 _ a w;rw [aK];refine wp_ret ?_;have e0:Nat.gcd q (p % q)=Nat.gcd pp qq:=by rw [← hg,Nat.gcd_comm p q,Nat.gcd_rec q p,Nat.gcd_comm]
    rw [e0] at hst;exact Nq hst rfl 2 rfl
 ·rw [tP]
  refine wp_seq ?_;rw [wX];refine (AcV hlp hlq lt).run hst ?_;clear hst;intro a w hst;show Code.wp _ LF _ a w;rw [tS];refine wp_seq ?_;rw [pY];refine wp_seq ?_;rw [Abn];refine (Adq hlp hlq lt).run hst ?_;clear hst;intro a w hst;show Code.wp _ Mc _ a w;rw [yZ];refine wp_cond_false (Bp hst 3 rfl) ?_;show Code.wp _ YK _ a w;rw [Ajs];refine wp_skip ?_;show Code.wp _ LK _ a w;rw [xH];refine wp_seq ?_;rw [zE];refine wp_block ?_;show Code.wp _ KN _ a w;rw [dV];refine DI (fun (z:Nat × Nat) a w=>St W 56 [(0,(AH z.1)),(1,(AH z.2))] [] a w∧z.2≤z.1∧z.1≤max pp qq∧Nat.gcd z.1 z.2=Nat.gcd pp qq) (λz=>z.2) ?_ (pp,qq) ⟨hst.to ⟨hst.slots.get (k:=0) rfl,hst.slots.get (k:=1) rfl,trivial⟩,by show qq≤pp; omega,by show pp≤max pp qq; omega,rfl⟩
  rintro ⟨p,q⟩ a w ⟨hst,hqp,hpm,hg⟩
  simp only [] at hst hqp hpm hg;have bm:len (max pp qq)≤1099511627775:=by rcases Nat.le_total pp qq with h | h; (rw [Nat.max_eq_right h]; exact hlq); (rw [Nat.max_eq_left h]; exact hlp)
  have bp:len p≤1099511627775:=Nat.le_trans (Bm hpm) bm;have bq:len q≤1099511627775:=Nat.le_trans (Bm hqp) bp;show Code.wp _ I2 _ a w
  rcases Nat.lt_or_ge 2 (len q) with h3 | h3
  ·have h3:3≤len q:=h3
   rw [N6];refine wp_seq ?_;rw [NO];refine wp_seq ?_;rw [NL];refine (AbN hqp bp bq h3).run hst ?_;clear hst;intro a w hst;show Code.wp _ GM _ a w;rw [Nn];refine wp_cond_true (Bp hst 2 rfl) ?_;show Code.wp _ NX _ a w;rw [gE];refine wp_skip ?_;show Code.wp _ KV _ a w;rw [fO];refine wp_block ?_;show Code.wp _ Jb _ a w;rw [aU];refine wp_seq ?_;rw [bJ];refine (sA hqp bp bq h3).run hst ?_;clear hst;intro a w hst;obtain ⟨c0,d0,c1,d1,o,hok,hst⟩:=dH hst
   by_cases hz:d0=0
   ·have q0:0<q:=by rcases Nat.eq_zero_or_pos q with h | h; (rw [h,Bi] at h3; omega); exact h
    show Code.wp _ GJ _ a w;rw [N4];refine wp_seq ?_;rw [N0];refine (rO hqp bp bq h3 hok hz q0).run hst ?_;clear hst;intro a w hst;show Code.wp _ Gu _ a w;rw [Ng];refine wp_cond_true (Bp hst 3 rfl) ?_;show Code.wp _ I7 _ a w;rw [gO];refine wp_seq ?_;rw [jK];refine (AbM hqp bp bq h3 hok hz q0).run hst ?_;clear hst;intro a w hst;show Code.wp _ KG _ a w;rw [lB];refine (pD hqp bp bq h3 hok hz q0).run hst ?_;clear hst;intro a w hst;exact ⟨(q,p % q),⟨((hst.to (S':=[(0,(AH q)),(1,(AH (p % q)))]) ⟨hst.slots.get (k:=0) rfl,hst.slots.get (k:=1) rfl,trivial⟩).firstB 0),Nat.le_of_lt (Nat.mod_lt _ q0),by show q≤max pp qq; omega,by show Nat.gcd q (p % q)=_; rw [← hg,Nat.gcd_comm p q,Nat.gcd_rec q p,Nat.gcd_comm]⟩,Nat.mod_lt _ q0⟩
   ·obtain ⟨U,V,hUV,hgU,hU,hV,hVU⟩:=hok.2.2.2.2 hz
    show Code.wp _ GJ _ a w;rw [N4];refine wp_seq ?_;rw [N0];refine (jO hqp bp bq h3 hok hz hUV hU hV).run hst ?_;clear hst;intro a w hst;show Code.wp _ Gu _ a w;rw [Ng];refine wp_cond_false (Bp hst 3 rfl) ?_;show Code.wp _ KI _ a w;rw [dD];refine (qN hqp bp bq h3 hok hz hUV hU hV).run hst ?_;clear hst;intro a w hst;exact ⟨(U,V),⟨((hst.to (S':=[(0,(AH U)),(1,(AH V))]) ⟨hst.slots.get (k:=0) rfl,hst.slots.get (k:=1) rfl,trivial⟩).firstB 0),hVU,by show U≤max pp qq; omega,by show Nat.gcd U V=_; rw [hgU,hg]⟩,hV⟩
  ·rw [N6]
   refine wp_seq ?_;rw [NO];refine wp_seq ?_;rw [NL];refine (eP hqp bp bq h3).run hst ?_;clear hst;intro a w hst;show Code.wp _ GM _ a w;rw [Nn];refine wp_cond_false (Bp hst 2 rfl) ?_;show Code.wp _ Nx _ a w;rw [eM];refine wp_exit ?_
   rcases Nat.eq_zero_or_pos q with q0 | q0
   ·have e0:p=Nat.gcd pp qq:=by rw [← hg,q0,Nat.gcd_zero_right]
    show Code.wp _ GG _ a w;rw [NS];refine wp_seq ?_;rw [Ns];refine wp_seq ?_;rw [NJ];refine (Ab5 hqp bp bq q0).run hst ?_;clear hst;intro a w hst;show Code.wp _ GU _ a w;rw [Nt];refine wp_cond_true (Bp hst 3 rfl) ?_;show Code.wp _ I9 _ a w;rw [fZ];refine wp_seq ?_;rw [jX];refine (cO hqp bp bq q0).run hst ?_;clear hst;intro a w hst;show Code.wp _ Nh _ a w;rw [jN];refine wp_ret ?_;rw [e0] at hst;exact Nq hst rfl 2 rfl
   ·have q64:q<18446744073709551616:=Nat.lt_of_lt_of_le (B7 q) (Nat.pow_le_pow_right (n:=4294967296) (by decide) h3)
    show Code.wp _ GG _ a w;rw [NS];refine wp_seq ?_;rw [Ns];refine wp_seq ?_;rw [NJ];refine (eN hqp bp bq q0 q64).run hst ?_;clear hst;intro a w hst;show Code.wp _ GU _ a w;rw [Nt];refine wp_cond_false (Bp hst 3 rfl) ?_;show Code.wp _ Ni _ a w;rw [lC];refine wp_skip ?_;show Code.wp _ I3 _ a w;rw [bE];refine wp_seq ?_;rw [jV];refine (gV hqp bp bq q0 q64).run hst ?_;clear hst;intro a w hst;show Code.wp _ I4 _ a w;rw [jG];refine wp_seq ?_;rw [jH];refine (fI hqp bp bq q0 q64).run hst ?_;clear hst;intro a w hst;show Code.wp _ N3 _ a w;rw [aK];refine wp_ret ?_;have e0:Nat.gcd q (p % q)=Nat.gcd pp qq:=by rw [← hg,Nat.gcd_comm p q,Nat.gcd_rec q p,Nat.gcd_comm]
    rw [e0] at hst;exact Nq hst rfl 2 rfl
end Go.Proofs.YtgaehhapjnbieaaGreat
