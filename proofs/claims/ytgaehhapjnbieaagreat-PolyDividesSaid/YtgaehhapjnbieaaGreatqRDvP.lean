/- Contracts and facts for the reference's divide and DivMod. -/
import Derived.Test.YtgaehhapjnbieaaGreatqDivP
import Derived.Test.YtgaehhapjnbieaaGreatqREst
import Derived.Test.YtgaehhapjnbieaaGreatqOps2
import Derived.Test.YtgaehhapjnbieaaGreatqCon
set_option linter.unusedSectionVars false
set_option linter.unusedVariables false
set_option linter.unusedSimpArgs false
namespace Go.Proofs.YtgaehhapjnbieaaGreat
open Go.RowKit
def magF (n:Nat):PF:=⟨fun v w=>∃ (A:Option Addr) (k c:Nat) (ms:List Nat),v = .slice A k c∧ms.length=k∧k≤c∧k≤4398046511104∧L32 ms∧val ms=n∧Mem w w.heap.size A ms,
 fun _ _ _ hg ⟨A,k,c,ms,e,h1,h2,h3,h4,h5,h6⟩=>⟨A,k,c,ms,e,h1,h2,h3,h4,h5,h6.grow hg⟩⟩
section
variable {w Wb : World} {va vb : Value}
theorem kRMadeM {n:Nat} (ha:(magF n).p va w) (hv:(eqF (.bool false)).p vb w):Calls Tryz.prog 115 #[va,vb] w (GivesP (intF (n:Int)) w):=by
 have hv:vb = .bool false:=hv
 subst hv
 obtain ⟨A,k,c,ms,rfl,h1,h2,h3,h4,rfl,h6⟩:=ha
 exact Made_any A k c ms false w h1 h6.raw h3 h2 h4
theorem kRShort {n d:Nat} (ha:(natF n).p va w) (hv:(eqF (.int .u32 (d:Int))).p vb w) (hn:len n≤4398046511104) (h0:0<d) (h1:d<4294967296):Calls Tryz.prog 155 #[va,vb] w (GivesP (tup2F (magF (n / d)) (eqF (.int .u32 ((n % d:Nat):Int)))) w):=by
 have hv:vb = .int .u32 (d:Int):=hv
 subst hv
 have ha:NatAt w va n:=ha
 obtain ⟨A,c,rfl,H⟩:=ha.open_
 refine (RShort_any A (len n) c (limbs n) d w (len_limbs n) H.out.mem.2.2 (limbs_32 n) hn h0 h1).mono ?_
 rintro e w' ⟨ds,rfl,hl,h32,hv,hr,hb⟩
 rw [val_limbs] at hv ⊢
 exact ⟨_,rfl,⟨_,_,rfl,⟨_,_,_,ds,rfl,hl,Nat.le_refl _,hn,h32,hv,hr.mem hr.lt⟩,rfl⟩,hb⟩
theorem kREst {R D:Nat} (ha:(natF R).p va w) (hb:(natF D).p vb w) (h0:0<D) (hle:D≤R) (hl:len R≤1099511627776):Calls Tryz.prog 156 #[va,vb] w (GivesP (intF (estN R D:Nat)) w):=
 est_any va vb R D w ha hb h0 hle hl
theorem kRLess {x y:Nat} (ha:(natF x).p va w) (hb:(natF y).p vb w) (hx:len x≤1099511627776) (hy:len y≤1099511627776):Calls Tryz.prog 117 #[va,vb] w (GivesP (eqF (.bool (decide (x<y)))) w):=by
 have ha:NatAt w va x:=ha
 have hb:NatAt w vb y:=hb
 obtain ⟨A,c,rfl,H⟩:=ha.open_
 obtain ⟨B,d,rfl,K⟩:=hb.open_
 exact (less_q A B c d x y w H.out K.out hx hy).mono fun _ _ ⟨he,hbb,_⟩=>⟨_,he,rfl,hbb⟩
theorem kRMadeW {n k c:Nat} {ad:Addr} (hN:NatAt Wb (.slice (some ad) k c) n) (hbl:Below Wb.heap.size Wb w) (ha:(eqF (.slice (some ad) k c)).p va w) (hv:(eqF (.bool false)).p vb w) (hn:len n≤4398046511104):Calls Tryz.prog 115 #[va,vb] w (GivesP (intF (n:Int)) w):=by
 have ha:va = .slice (some ad) k c:=ha
 subst ha
 exact kRMadeN (show NatAt w _ n from hN.into hbl) hv hn
theorem kRMadeS {z:Int} (ha:(natF z.natAbs).p va w) (hv:(eqF (.bool (decide (z<0)))).p vb w) (hn:len z.natAbs≤4398046511104):Calls Tryz.prog 115 #[va,vb] w (GivesP (intF z) w):=by
 have hv:vb = .bool (decide (z<0)):=hv
 subst hv
 have:=Made_nat va z.natAbs (decide (z<0)) w ha hn
 rwa [sgn_of] at this
end
theorem h_row1 {ρ:Operand→Value} {w:World} {x:Operand} {n:Nat} (hn:n<4294967296) (hx:(eqF (.int .u32 (n:Int))).p (ρ x) w):Yld (.buildSlice 32 1 #[(0,x)]) ρ w (magF n):=by
 have hx:ρ x = .int .u32 (n:Int):=hx
 refine ⟨.slice (some ⟨w.heap.size,0,none⟩) 1 1,w.alloc (rowObj [n]),fun o ho=>?_,below_alloc _ _,?_⟩
 ·unfold execOp
  rw [ho]
  simp [go_sem,hx,rowObj]
 ·exact ⟨_,_,_,[n],rfl,rfl,Nat.le_refl _,by omega,L32.mk hn L32.nil_,by simp [val],(Row.new w [n]).mem (by simp)⟩
theorem ret_boxI2 {Wb:World} {N:Nat} {S:List (Nat × PF)} {B:List (Nat × CF)} {a:Act} {w:World} {fn:Func} {t t':Nat} {z z':Int} (hst:St Wb N S B a w) (hr:fn.results = #[.cell t 34,.cell t' 34]) (k:Nat) (hk:B[k]? = some (t,boxIF z)) (k':Nat) (hk':B[k']? = some (t',boxIF z')):bodyPost Tryz.prog fn (GivesP (tup2F (intF z) (intF z')) Wb) .ret a w:=by
 obtain ⟨g,h1,_,b,A,n,c,hh,hi⟩:=hst.boxes.get hk
 obtain ⟨g',h1',_,b',A',n',c',hh',hi'⟩:=hst.boxes.get hk'
 have h0:w.cell? ⟨g,0,none⟩=some (.bool b):=by rw [cell_of_row w g 0 _ _ (0,0) hh]; rfl
 have h2:w.cell? ⟨g,1,none⟩=some (.slice A n c):=by rw [cell_of_row w g 1 _ _ (0,0) hh]; rfl
 have h0':w.cell? ⟨g',0,none⟩=some (.bool b'):=by rw [cell_of_row w g' 0 _ _ (0,0) hh']; rfl
 have h2':w.cell? ⟨g',1,none⟩=some (.slice A' n' c'):=by rw [cell_of_row w g' 1 _ _ (0,0) hh']; rfl
 refine bodyPost_ret (v:=.tuple #[.agg #[.bool b,.slice A n c],.agg #[.bool b',.slice A' n' c']]) ?_ hst.defers ⟨_,rfl,⟨_,_,rfl,hi,hi'⟩,hst.below⟩
 simp [results,hr,go_sem,h0,h2,h0',h2',Array.getD_eq_getD_getElem?,h1,h1']
theorem fldI0 (q:Nat) (w:World):(Instr.fieldAt 34 (.pointer (some ⟨q,0,none⟩)) 0).run Tryz.prog w = .ok (.pointer (some ⟨q,0,none⟩)) w:=by simp [go_sem]
theorem loadI_neg {z:Int} {e:Bool} (he:decide (z<0)=e) (w:World) (q:Nat) (h:(boxIF z).p q w):∃ v,(Instr.loadAt 4 (.pointer (some ⟨q,0,none⟩))).run Tryz.prog w = .ok v w∧(eqF (.bool e)).p v w:=by
 obtain ⟨b,A,k,c,hh,s,e,hs⟩:=h
 have h1:w.cell? ⟨q,0,none⟩=some (.bool b):=by rw [cell_of_row w q 0 _ _ (0,0) hh]; rfl
 simp only [Value.agg.injEq,Array.mk.injEq,List.cons.injEq,and_true] at e
 exact ⟨.bool b,by simp [go_sem,h1],he ▸ e.1⟩
theorem dm_pos {x y q r:Int} (hy:0<y) (h:r+y*q=x) (h0:0≤r) (h1:r<y):q=x / y∧r=x % y:=by
 have:=(Int.ediv_emod_unique (a:=x) (q:=q) (r:=r) hy).2 ⟨h,h0,h1⟩
 exact ⟨this.1.symm,this.2.symm⟩
theorem dm_neg {x y q r:Int} (hy:y<0) (h:r+y*q=x) (h0:0≤r) (h1:r < -y):q=x / y∧r=x % y:=by
 have:=dm_pos (x:=x) (y:=-y) (q:=-q) (r:=r) (by omega) (by rw [Int.neg_mul_neg]; exact h) h0 h1
 rw [Int.ediv_neg,Int.emod_neg] at this
 exact ⟨by omega,this.2⟩
theorem dm_abs (x y:Int) (hy:y≠0):∃ Q R:Int,((x.natAbs / y.natAbs:Nat):Int)=Q∧((x.natAbs % y.natAbs:Nat):Int)=R∧R+(y.natAbs:Int)*Q=(x.natAbs:Int)∧0≤R∧R<(y.natAbs:Int):=by
 have h:=Nat.mod_add_div x.natAbs y.natAbs
 have h2:=Nat.mod_lt x.natAbs (show 0<y.natAbs by omega)
 refine ⟨_,_,rfl,rfl,?_,by omega,by omega⟩
 rw [← Int.natCast_mul,← Int.natCast_add,h]
end Go.Proofs.YtgaehhapjnbieaaGreat
namespace Go.Proofs.YtgaehhapjnbieaaGreat
open Go.RowKit
theorem sm_le {a b i:Nat} (h:Sm ((b:Nat):Int) i) (hle:a≤b):Sm ((a:Nat):Int) i:=Nat.lt_of_le_of_lt hle h
theorem kRLessB {x y:Nat} {va vb:Value} {w:World} {b:Bool} (ha:(natF x).p va w) (hb:(natF y).p vb w) (hx:len x≤1099511627776) (hy:len y≤1099511627776) (e:decide (x<y)=b):Calls Tryz.prog 117 #[va,vb] w (GivesP (eqF (.bool b)) w):=e ▸ kRLess ha hb hx hy
noncomputable def rdv_n0:Code:=bodyOf Tryz.f144
noncomputable def rdv_n1:Code:=cl rdv_n0
noncomputable def rdv_n2:Code:=cr rdv_n0
theorem rdv_e0:rdv_n0 = .seq rdv_n1 rdv_n2:=by kernel_rfl
noncomputable def rdv_o0:Array Oper:=opsOf rdv_n1
theorem rdv_e1:rdv_n1 = .region 0 rdv_o0 false:=by kernel_rfl
noncomputable def rdv_n3:Code:=cl rdv_n2
noncomputable def rdv_n4:Code:=cr rdv_n2
theorem rdv_e2:rdv_n2 = .seq rdv_n3 rdv_n4:=by kernel_rfl
noncomputable def rdv_n5:Code:=cl rdv_n3
noncomputable def rdv_n6:Code:=cr rdv_n3
theorem rdv_e3:rdv_n3 = .seq rdv_n5 rdv_n6:=by kernel_rfl
noncomputable def rdv_o1:Array Oper:=opsOf rdv_n5
theorem rdv_e5:rdv_n5 = .region 1 rdv_o1 false:=by kernel_rfl
noncomputable def rdv_n7:Code:=cl rdv_n6
noncomputable def rdv_n8:Code:=cr rdv_n6
theorem rdv_e6:rdv_n6 = .cond (.tmp 18) rdv_n7 rdv_n8:=by kernel_rfl
noncomputable def rdv_n9:Code:=cl rdv_n7
noncomputable def rdv_n10:Code:=cr rdv_n7
theorem rdv_e7:rdv_n7 = .seq rdv_n9 rdv_n10:=by kernel_rfl
noncomputable def rdv_o2:Array Oper:=opsOf rdv_n9
theorem rdv_e9:rdv_n9 = .region 2 rdv_o2 false:=by kernel_rfl
noncomputable def rdv_n11:Code:=cl rdv_n10
noncomputable def rdv_n12:Code:=cr rdv_n10
theorem rdv_e10:rdv_n10 = .seq rdv_n11 rdv_n12:=by kernel_rfl
noncomputable def rdv_o3:Array Oper:=opsOf rdv_n11
theorem rdv_e11:rdv_n11 = .region 3 rdv_o3 false:=by kernel_rfl
theorem rdv_e12:rdv_n12 = .ret:=by kernel_rfl
theorem rdv_e8:rdv_n8 = .skip:=by kernel_rfl
noncomputable def rdv_n13:Code:=cl rdv_n4
noncomputable def rdv_n14:Code:=cr rdv_n4
theorem rdv_e4:rdv_n4 = .seq rdv_n13 rdv_n14:=by kernel_rfl
noncomputable def rdv_o4:Array Oper:=opsOf rdv_n13
theorem rdv_e13:rdv_n13 = .region 4 rdv_o4 false:=by kernel_rfl
noncomputable def rdv_n15:Code:=cl rdv_n14
noncomputable def rdv_n16:Code:=cr rdv_n14
theorem rdv_e14:rdv_n14 = .seq rdv_n15 rdv_n16:=by kernel_rfl
noncomputable def rdv_n17:Code:=cl rdv_n15
theorem rdv_e15:rdv_n15 = .block 0 rdv_n17:=by kernel_rfl
noncomputable def rdv_n18:Code:=cl rdv_n17
theorem rdv_e17:rdv_n17 = .loop rdv_n18:=by kernel_rfl
noncomputable def rdv_n19:Code:=cl rdv_n18
noncomputable def rdv_n20:Code:=cr rdv_n18
theorem rdv_e18:rdv_n18 = .seq rdv_n19 rdv_n20:=by kernel_rfl
noncomputable def rdv_n21:Code:=cl rdv_n19
noncomputable def rdv_n22:Code:=cr rdv_n19
theorem rdv_e19:rdv_n19 = .seq rdv_n21 rdv_n22:=by kernel_rfl
noncomputable def rdv_o5:Array Oper:=opsOf rdv_n21
theorem rdv_e21:rdv_n21 = .region 5 rdv_o5 false:=by kernel_rfl
noncomputable def rdv_n23:Code:=cl rdv_n22
noncomputable def rdv_n24:Code:=cr rdv_n22
theorem rdv_e22:rdv_n22 = .cond (.tmp 42) rdv_n23 rdv_n24:=by kernel_rfl
theorem rdv_e23:rdv_n23 = .skip:=by kernel_rfl
theorem rdv_e24:rdv_n24 = .exit 0:=by kernel_rfl
noncomputable def rdv_n25:Code:=cl rdv_n20
theorem rdv_e20:rdv_n20 = .block 1 rdv_n25:=by kernel_rfl
noncomputable def rdv_o6:Array Oper:=opsOf rdv_n25
theorem rdv_e25:rdv_n25 = .region 6 rdv_o6 false:=by kernel_rfl
noncomputable def rdv_n26:Code:=cl rdv_n16
noncomputable def rdv_n27:Code:=cr rdv_n16
theorem rdv_e16:rdv_n16 = .seq rdv_n26 rdv_n27:=by kernel_rfl
noncomputable def rdv_o7:Array Oper:=opsOf rdv_n26
theorem rdv_e26:rdv_n26 = .region 7 rdv_o7 false:=by kernel_rfl
noncomputable def rdv_n28:Code:=cl rdv_n27
noncomputable def rdv_n29:Code:=cr rdv_n27
theorem rdv_e27:rdv_n27 = .seq rdv_n28 rdv_n29:=by kernel_rfl
noncomputable def rdv_o8:Array Oper:=opsOf rdv_n28
theorem rdv_e28:rdv_n28 = .region 8 rdv_o8 true:=by kernel_rfl
noncomputable def rdv_n30:Code:=cl rdv_n29
noncomputable def rdv_n31:Code:=cr rdv_n29
theorem rdv_e29:rdv_n29 = .seq rdv_n30 rdv_n31:=by kernel_rfl
noncomputable def rdv_n32:Code:=cl rdv_n30
theorem rdv_e30:rdv_n30 = .block 2 rdv_n32:=by kernel_rfl
noncomputable def rdv_n33:Code:=cl rdv_n32
theorem rdv_e32:rdv_n32 = .loop rdv_n33:=by kernel_rfl
noncomputable def rdv_n34:Code:=cl rdv_n33
noncomputable def rdv_n35:Code:=cr rdv_n33
theorem rdv_e33:rdv_n33 = .seq rdv_n34 rdv_n35:=by kernel_rfl
noncomputable def rdv_n36:Code:=cl rdv_n34
noncomputable def rdv_n37:Code:=cr rdv_n34
theorem rdv_e34:rdv_n34 = .seq rdv_n36 rdv_n37:=by kernel_rfl
noncomputable def rdv_o9:Array Oper:=opsOf rdv_n36
theorem rdv_e36:rdv_n36 = .region 9 rdv_o9 false:=by kernel_rfl
noncomputable def rdv_n38:Code:=cl rdv_n37
noncomputable def rdv_n39:Code:=cr rdv_n37
theorem rdv_e37:rdv_n37 = .cond (.tmp 62) rdv_n38 rdv_n39:=by kernel_rfl
theorem rdv_e38:rdv_n38 = .skip:=by kernel_rfl
theorem rdv_e39:rdv_n39 = .exit 2:=by kernel_rfl
noncomputable def rdv_n40:Code:=cl rdv_n35
theorem rdv_e35:rdv_n35 = .block 3 rdv_n40:=by kernel_rfl
noncomputable def rdv_n41:Code:=cl rdv_n40
noncomputable def rdv_n42:Code:=cr rdv_n40
theorem rdv_e40:rdv_n40 = .seq rdv_n41 rdv_n42:=by kernel_rfl
noncomputable def rdv_o10:Array Oper:=opsOf rdv_n41
theorem rdv_e41:rdv_n41 = .region 10 rdv_o10 false:=by kernel_rfl
noncomputable def rdv_n43:Code:=cl rdv_n42
noncomputable def rdv_n44:Code:=cr rdv_n42
theorem rdv_e42:rdv_n42 = .seq rdv_n43 rdv_n44:=by kernel_rfl
noncomputable def rdv_o11:Array Oper:=opsOf rdv_n43
theorem rdv_e43:rdv_n43 = .region 11 rdv_o11 false:=by kernel_rfl
noncomputable def rdv_o12:Array Oper:=opsOf rdv_n44
theorem rdv_e44:rdv_n44 = .region 12 rdv_o12 true:=by kernel_rfl
noncomputable def rdv_n45:Code:=cl rdv_n31
noncomputable def rdv_n46:Code:=cr rdv_n31
theorem rdv_e31:rdv_n31 = .seq rdv_n45 rdv_n46:=by kernel_rfl
noncomputable def rdv_o13:Array Oper:=opsOf rdv_n45
theorem rdv_e45:rdv_n45 = .region 13 rdv_o13 false:=by kernel_rfl
noncomputable def rdv_n47:Code:=cl rdv_n46
noncomputable def rdv_n48:Code:=cr rdv_n46
theorem rdv_e46:rdv_n46 = .seq rdv_n47 rdv_n48:=by kernel_rfl
noncomputable def rdv_o14:Array Oper:=opsOf rdv_n47
theorem rdv_e47:rdv_n47 = .region 14 rdv_o14 true:=by kernel_rfl
theorem rdv_e48:rdv_n48 = .ret:=by kernel_rfl
section
set_option maxRecDepth 100000
set_option linter.unusedSectionVars false
variable {Wb : World} {x y i j n cap t : Nat} {bd : Addr} (sx : Sm ((x : Nat) : Int) i) (sy : Sm ((y : Nat) : Int) j) (hi : i ≤ 400000000) (hj : j ≤ 400000000) (hN : NatAt Wb (.slice (some bd) n cap) y) (ct : Wb.cell? (bd.add (n - 1)) = some (.int .u32 (t : Int))) (hn : 1 ≤ n) (hn2 : n ≤ 1099511627776) (ht0 : 0 < t) (ht : t < 4294967296)
include sx sy hi hj hN ct hn hn2 ht0 ht
theorem rdv_r0 (n1:n=1) (ct0:Wb.cell? (bd.add 0)=some (.int .u32 (t:Int))):RA 86 [(natF x),(eqF (.slice (some bd) n cap))] [zeroIF] ⟨[(0,(.ref 0)),(1,(.ref 1))],[]⟩ ⟨[(0,(.ref 0)),(1,(.ref 1))],[(4,0),(5,0)]⟩ Wb 0 rdv_o0 false:=RA.of
   { allocs:=[⟨34,0,_,allocI_run,allocI_old⟩] } (by kernel_rfl)
theorem rdv_r1 (n1:n=1) (ct0:Wb.cell? (bd.add 0)=some (.int .u32 (t:Int))):RA 86 [(eqF (.slice (some bd) n cap)),(eqF (.int .i64 (n:Int))),(natF x)] [zeroIF] ⟨[(0,(.ref 2)),(1,(.ref 0))],[(4,0),(5,0)]⟩ ⟨[(0,(.ref 2)),(1,(.ref 0)),(18,(.bool true))],[(4,0),(5,0)]⟩ Wb 1 rdv_o1 false:=RA.of
   { pures:=[p1 (.blt .len [32]) (.ref 0) (.ref 1) fun _ _ _ _ hx=>h_len hx,
      p2 (.bin .eql 3 3) (.ref 1) (.int .i64 1) (.bool true) fun _ _ _ _ _ hx hy=>h_eqlI (r:=true) (by simp; omega) hx hy] } (by kernel_rfl)
theorem rdv_r2 (n1 : n = 1) (ct0 : Wb.cell? (bd.add 0) = some (.int .u32 (t : Int))) : RA 86 [(eqF (.slice (some bd) n cap)), (eqF (.pointer (some ((bd).add (0))))), (eqF (.int .u32 (t : Int))), (natF x), (magF (x / t)), (eqF (.int .u32 ((x % t : Nat) : Int)))] [zeroIF] ⟨[(0, (.ref 3)), (1, (.ref 0)), (18, (.bool true))], [(4, 0), (5, 0)]⟩ ⟨[(0, (.ref 3)), (1, (.ref 0)), (6, (.ref 4)), (7, (.ref 5)), (18, (.bool true))], [(4, 0), (5, 0)]⟩ Wb 2 rdv_o2 false := RA.of
   { pures := [p2 (.idx 32) (.ref 0) (.int .i64 0) (.ref 1) fun _ _ _ _ _ hx hy => h_idx (k := 0) (by omega) hx hy,
      p1 (.ld 109) (.ref 1) (.ref 2) fun _ _ _ hb hx => h_loadP ct0 hb load32_run hx],
     calls := [c2 155 (.ref 3) (.ref 2) (.tup2 (.ref 4) (.ref 5)) fun w v0 v1 hb h0 h1 => kRShort h0 h1 (Nat.le_trans (len_le_pow sx) (by omega)) (by omega) (by omega)] } (by kernel_rfl)
theorem rdv_r3 (n1 : n = 1) (ct0 : Wb.cell? (bd.add 0) = some (.int .u32 (t : Int))) : RA 86 [(magF (x / t)), (intF (((x / t) : Nat) : Int)), (eqF (.int .u32 ((x % t : Nat) : Int))), (magF (x % t)), (intF (((x % t) : Nat) : Int)), (natF x), (eqF (.slice (some bd) n cap))] [zeroIF, (boxIF (((x / t) : Nat) : Int)), (boxIF (((x % t) : Nat) : Int))] ⟨[(0, (.ref 5)), (1, (.ref 6)), (6, (.ref 0)), (7, (.ref 2)), (18, (.bool true))], [(4, 0), (5, 0)]⟩ ⟨[(0, (.ref 5)), (1, (.ref 6)), (6, (.ref 0)), (7, (.ref 2)), (18, (.bool true))], [(4, 1), (5, 2)]⟩ Wb 3 rdv_o3 false := RA.of
   { pures := [p1 (.blds 32 1 [0]) (.ref 2) (.ref 3) fun _ _ _ _ hx => h_row1 (Nat.lt_of_lt_of_le (Nat.mod_lt _ (by omega)) (Nat.le_of_lt (by assumption))) hx],
     calls := [c2 115 (.ref 0) (.bool false) (.ref 1) fun w v0 v1 hb h0 h1 => kRMadeM h0 h1,
      c2 115 (.ref 3) (.bool false) (.ref 4) fun w v0 v1 hb h0 h1 => kRMadeM h0 h1],
     stores := [⟨34, 0, 0, (.ref 1), 1, (storeI_zero _)⟩,
      ⟨34, 0, 0, (.ref 4), 2, (storeI_zero _)⟩] } (by kernel_rfl)
theorem rdv_r0b (n1:¬ n=1):RA 86 [(natF x),(eqF (.slice (some bd) n cap))] [zeroIF] ⟨[(0,(.ref 0)),(1,(.ref 1))],[]⟩ ⟨[(0,(.ref 0)),(1,(.ref 1))],[(4,0),(5,0)]⟩ Wb 0 rdv_o0 false:=RA.of
   { allocs:=[⟨34,0,_,allocI_run,allocI_old⟩] } (by kernel_rfl)
theorem rdv_r1b (n1:¬ n=1):RA 86 [(eqF (.slice (some bd) n cap)),(eqF (.int .i64 (n:Int))),(natF x)] [zeroIF] ⟨[(0,(.ref 2)),(1,(.ref 0))],[(4,0),(5,0)]⟩ ⟨[(0,(.ref 2)),(1,(.ref 0)),(18,(.bool false))],[(4,0),(5,0)]⟩ Wb 1 rdv_o1 false:=RA.of
   { pures:=[p1 (.blt .len [32]) (.ref 0) (.ref 1) fun _ _ _ _ hx=>h_len hx,
      p2 (.bin .eql 3 3) (.ref 1) (.int .i64 1) (.bool false) fun _ _ _ _ _ hx hy=>h_eqlI (r:=false) (by simp; omega) hx hy] } (by kernel_rfl)
theorem rdv_r4 (n1:¬ n=1):RA 86 [(natF x),(eqF (.slice (some bd) n cap))] [zeroIF] ⟨[(0,(.ref 0)),(1,(.ref 1)),(18,(.bool false))],[(4,0),(5,0)]⟩ ⟨[(0,(.ref 0)),(1,(.ref 1)),(8,(.int .u32 1)),(18,(.bool false))],[(4,0),(5,0)]⟩ Wb 4 rdv_o4 false:=RA.of
   {  } (by kernel_rfl)
theorem rdv_r5 (n1:¬ n=1) {s:Nat} (hs0:0<s) (hs1:s<4294967296) (hts:t*s<4294967296) (hlo:t*s<2147483648):RA 86 [(eqF (.slice (some bd) n cap)),(eqF (.int .i64 (n:Int))),(eqF (.int .i64 ((n - 1:Nat):Int))),(eqF (.pointer (some ((bd).add (n - 1))))),(eqF (.int .u32 (t:Int))),(eqF (.int .u64 (t:Int))),(eqF (.int .u32 (s:Int))),(eqF (.int .u64 (s:Int))),(eqF (.int .u64 ((t*s:Nat):Int))),(natF x)] [zeroIF] ⟨[(0,(.ref 9)),(1,(.ref 0)),(8,(.ref 6)),(18,(.bool false))],[(4,0),(5,0)]⟩ ⟨[(0,(.ref 9)),(1,(.ref 0)),(8,(.ref 6)),(18,(.bool false)),(42,(.bool true))],[(4,0),(5,0)]⟩ Wb 5 rdv_o5 false:=RA.of
   { pures:=[p1 (.blt .len [32]) (.ref 0) (.ref 1) fun _ _ _ _ hx=>h_len hx,
      p2 (.bin .sub 3 3) (.ref 1) (.int .i64 1) (.ref 2) fun _ _ _ _ _ hx hy=>h_sub (z:=((n - 1:Nat):Int)) (by rw [IntKind.wrap_i64]; omega) hx hy,
      p2 (.idx 32) (.ref 0) (.ref 2) (.ref 3) fun _ _ _ _ _ hx hy=>h_idx (k:=n - 1) (by omega) hx hy,
      p1 (.ld 109) (.ref 3) (.ref 4) fun _ _ _ hb hx=>h_loadP ct hb load32_run hx,
      p1 (.conv 109 107) (.ref 4) (.ref 5) fun _ _ _ _ hx=>h_conv32 (by omega) (by omega) hx,
      p1 (.conv 109 107) (.ref 6) (.ref 7) fun _ _ _ _ hx=>h_conv32 (by omega) (by omega) hx,
      p2 (.bin .mul 107 107) (.ref 5) (.ref 7) (.ref 8) fun _ _ _ _ _ hx hy=>h_mul (z:=((t*s:Nat):Int)) (by rw [IntKind.wrap_u64]; rw [← Int.natCast_mul]; omega) hx hy,
      p2 (.bin .lss 107 107) (.ref 8) (.int .u64 2147483648) (.bool true) fun _ _ _ _ _ hx hy=>h_lss (r:=true) (by simp only [decide_eq_true_eq,decide_eq_false_iff_not]; omega) hx hy] } (by kernel_rfl)
theorem rdv_r6 (n1:¬ n=1) {s:Nat} (hs0:0<s) (hs1:s<4294967296) (hts:t*s<4294967296) (hlo:t*s<2147483648):RA 86 [(eqF (.int .u32 (s:Int))),(eqF (.int .u32 ((2*s:Nat):Int))),(natF x),(eqF (.slice (some bd) n cap))] [zeroIF] ⟨[(0,(.ref 2)),(1,(.ref 3)),(8,(.ref 0)),(18,(.bool false)),(42,(.bool true))],[(4,0),(5,0)]⟩ ⟨[(0,(.ref 2)),(1,(.ref 3)),(8,(.ref 1)),(18,(.bool false)),(42,(.bool true))],[(4,0),(5,0)]⟩ Wb 6 rdv_o6 false:=RA.of
   { pures:=[p2 (.bin .mul 109 109) (.int .u32 2) (.ref 0) (.ref 1) fun _ _ _ _ _ hx hy=>h_mul (z:=((2*s:Nat):Int)) (by rw [IntKind.wrap_u32]; have h3:s≤t*s:=Nat.le_mul_of_pos_left s ht0; omega) hx hy] } (by kernel_rfl)
theorem rdv_r5b (n1:¬ n=1) {s:Nat} (hs0:0<s) (hs1:s<4294967296) (hts:t*s<4294967296) (hhi:2147483648≤t*s):RA 86 [(eqF (.slice (some bd) n cap)),(eqF (.int .i64 (n:Int))),(eqF (.int .i64 ((n - 1:Nat):Int))),(eqF (.pointer (some ((bd).add (n - 1))))),(eqF (.int .u32 (t:Int))),(eqF (.int .u64 (t:Int))),(eqF (.int .u32 (s:Int))),(eqF (.int .u64 (s:Int))),(eqF (.int .u64 ((t*s:Nat):Int))),(natF x)] [zeroIF] ⟨[(0,(.ref 9)),(1,(.ref 0)),(8,(.ref 6)),(18,(.bool false))],[(4,0),(5,0)]⟩ ⟨[(0,(.ref 9)),(1,(.ref 0)),(8,(.ref 6)),(18,(.bool false)),(42,(.bool false))],[(4,0),(5,0)]⟩ Wb 5 rdv_o5 false:=RA.of
   { pures:=[p1 (.blt .len [32]) (.ref 0) (.ref 1) fun _ _ _ _ hx=>h_len hx,
      p2 (.bin .sub 3 3) (.ref 1) (.int .i64 1) (.ref 2) fun _ _ _ _ _ hx hy=>h_sub (z:=((n - 1:Nat):Int)) (by rw [IntKind.wrap_i64]; omega) hx hy,
      p2 (.idx 32) (.ref 0) (.ref 2) (.ref 3) fun _ _ _ _ _ hx hy=>h_idx (k:=n - 1) (by omega) hx hy,
      p1 (.ld 109) (.ref 3) (.ref 4) fun _ _ _ hb hx=>h_loadP ct hb load32_run hx,
      p1 (.conv 109 107) (.ref 4) (.ref 5) fun _ _ _ _ hx=>h_conv32 (by omega) (by omega) hx,
      p1 (.conv 109 107) (.ref 6) (.ref 7) fun _ _ _ _ hx=>h_conv32 (by omega) (by omega) hx,
      p2 (.bin .mul 107 107) (.ref 5) (.ref 7) (.ref 8) fun _ _ _ _ _ hx hy=>h_mul (z:=((t*s:Nat):Int)) (by rw [IntKind.wrap_u64]; rw [← Int.natCast_mul]; omega) hx hy,
      p2 (.bin .lss 107 107) (.ref 8) (.int .u64 2147483648) (.bool false) fun _ _ _ _ _ hx hy=>h_lss (r:=false) (by simp only [decide_eq_true_eq,decide_eq_false_iff_not]; omega) hx hy] } (by kernel_rfl)
theorem rdv_r7 (n1 : ¬ n = 1) {s : Nat} (hs0 : 0 < s) (hs1 : s < 4294967296) : RA 86 [(eqF (.int .u32 (s : Int))), (magF s), (intF ((s : Nat) : Int)), (natF x), (eqF (.slice (some bd) n cap))] [zeroIF, (boxIF ((s : Nat) : Int))] ⟨[(0, (.ref 3)), (1, (.ref 4)), (8, (.ref 0)), (18, (.bool false)), (42, (.bool false))], [(4, 0), (5, 0)]⟩ ⟨[(0, (.ref 3)), (1, (.ref 4)), (8, (.ref 0)), (18, (.bool false)), (42, (.bool false))], [(4, 0), (5, 0), (9, 1)]⟩ Wb 7 rdv_o7 false := RA.of
   { pures := [p1 (.blds 32 1 [0]) (.ref 0) (.ref 1) fun _ _ _ _ hx => h_row1 hs1 hx],
     calls := [c2 115 (.ref 1) (.bool false) (.ref 2) fun w v0 v1 hb h0 h1 => kRMadeM h0 h1],
     allocs := [⟨34, 0, _, allocI_run, allocI_old⟩],
     stores := [⟨34, 0, 0, (.ref 2), 1, (storeI_zero _)⟩] } (by kernel_rfl)
theorem rdv_r8 (n1 : ¬ n = 1) {s : Nat} (hs0 : 0 < s) (hs1 : s < 4294967296) : RA 86 [(natF x), (intF ((x : Nat) : Int)), (intF ((s : Nat) : Int)), (intF (((x : Nat) : Int) * ((s : Nat) : Int))), (eqF (.slice (some bd) n cap)), (intF ((y : Nat) : Int)), (intF (((y : Nat) : Int) * ((s : Nat) : Int))), (intF 0), (eqF (.int .u32 (s : Int)))] [(boxIF ((s : Nat) : Int)), zeroIF, (boxIF (((x : Nat) : Int) * ((s : Nat) : Int))), (boxIF (((y : Nat) : Int) * ((s : Nat) : Int))), (boxIF 0)] ⟨[(0, (.ref 0)), (1, (.ref 4)), (8, (.ref 8)), (18, (.bool false)), (42, (.bool false))], [(4, 1), (5, 1), (9, 0)]⟩ ⟨[(0, (.ref 0)), (1, (.ref 4)), (8, (.ref 8)), (18, (.bool false)), (42, (.bool false))], [(4, 1), (5, 1), (9, 0), (10, 2), (11, 3), (12, 4)]⟩ Wb 8 rdv_o8 true := RA.of
   { pures := [p0 (.bld 34 []) (.ref 7) fun _ _ _ => h_build0],
     calls := [c2 115 (.ref 0) (.bool false) (.ref 1) fun w v0 v1 hb h0 h1 => kRMadeN h0 h1 (Nat.le_trans (len_le_pow sx) (by omega)),
      c2 88 (.ref 1) (.ref 2) (.ref 3) fun w v0 v1 hb h0 h1 => kRMul h0 h1 sx (Sm.of _ (by omega)) (by first | decide | assumption | omega) (by first | decide | assumption | omega),
      c2 115 (.ref 4) (.bool false) (.ref 5) fun w v0 v1 hb h0 h1 => kRMadeW hN hb h0 h1 (Nat.le_trans (len_le_pow sy) (by omega)),
      c2 88 (.ref 5) (.ref 2) (.ref 6) fun w v0 v1 hb h0 h1 => kRMul h0 h1 sy (Sm.of _ (by omega)) (by first | decide | assumption | omega) (by first | decide | assumption | omega)],
     loads := [⟨34, 0, 0, (.ref 2), fun w q h => loadI_int w q h⟩],
     allocs := [⟨34, 1, _, allocI_run, allocI_old⟩],
     stores := [⟨34, 0, 1, (.ref 3), 2, (storeI_zero _)⟩,
      ⟨34, 0, 1, (.ref 6), 3, (storeI_zero _)⟩,
      ⟨34, 0, 1, (.ref 7), 4, (storeI_zero _)⟩] } (by kernel_rfl)
theorem rdv_r9 (n1 : ¬ n = 1) {s : Nat} (hs0 : 0 < s) (hs1 : s < 4294967296) {q r d : Nat} (hd0 : 0 < d) (sd : Sm ((d : Nat) : Int) (j + 2)) (sr : Sm ((r : Nat) : Int) (i + 2)) (sq : Sm ((q : Nat) : Int) (i + 2)) (hdr : r < d) : RA 86 [(natF r), (natF d), (natF x), (eqF (.slice (some bd) n cap)), (eqF (.int .u32 (s : Int)))] [(boxIF ((r : Nat) : Int)), (boxIF ((d : Nat) : Int)), zeroIF, (boxIF ((s : Nat) : Int)), (boxIF ((q : Nat) : Int))] ⟨[(0, (.ref 2)), (1, (.ref 3)), (8, (.ref 4)), (18, (.bool false)), (42, (.bool false))], [(4, 2), (5, 2), (9, 3), (10, 0), (11, 1), (12, 4)]⟩ ⟨[(0, (.ref 2)), (1, (.ref 3)), (8, (.ref 4)), (18, (.bool false)), (42, (.bool false)), (62, (.bool false))], [(4, 2), (5, 2), (9, 3), (10, 0), (11, 1), (12, 4)]⟩ Wb 9 rdv_o9 false := RA.of
   { calls := [c2 117 (.ref 0) (.ref 1) (.bool true) fun w v0 v1 hb h0 h1 => kRLessB h0 h1 (Nat.le_trans (len_le_pow sr) (by omega)) (Nat.le_trans (len_le_pow sd) (by omega)) (by simp; omega)],
     loads := [⟨32, 1, 0, (.ref 0), fun w q h => loadI_mag w q h⟩,
      ⟨32, 1, 1, (.ref 1), fun w q h => loadI_mag w q h⟩],
     flds := [⟨34, 1, 1, fldI1⟩] } (by kernel_rfl)
theorem rdv_r13 (n1 : ¬ n = 1) {s : Nat} (hs0 : 0 < s) (hs1 : s < 4294967296) {q r d : Nat} (hd0 : 0 < d) (sd : Sm ((d : Nat) : Int) (j + 2)) (sr : Sm ((r : Nat) : Int) (i + 2)) (sq : Sm ((q : Nat) : Int) (i + 2)) : RA 86 [(natF r), (eqF (.int .u32 (s : Int))), (magF (r / s)), (eqF (.int .u32 ((r % s : Nat) : Int))), (natF x), (eqF (.slice (some bd) n cap))] [(boxIF ((r : Nat) : Int)), zeroIF, (boxIF ((s : Nat) : Int)), (boxIF ((d : Nat) : Int)), (boxIF ((q : Nat) : Int))] ⟨[(0, (.ref 4)), (1, (.ref 5)), (8, (.ref 1)), (18, (.bool false)), (42, (.bool false)), (62, (.bool false))], [(4, 1), (5, 1), (9, 2), (10, 0), (11, 3), (12, 4)]⟩ ⟨[(0, (.ref 4)), (1, (.ref 5)), (8, (.ref 1)), (14, (.ref 2)), (18, (.bool false)), (42, (.bool false)), (62, (.bool false))], [(4, 1), (5, 1), (9, 2), (10, 0), (11, 3), (12, 4)]⟩ Wb 13 rdv_o13 false := RA.of
   { calls := [c2 155 (.ref 0) (.ref 1) (.tup2 (.ref 2) (.ref 3)) fun w v0 v1 hb h0 h1 => kRShort h0 h1 (Nat.le_trans (len_le_pow sr) (by omega)) (by omega) (by omega)],
     loads := [⟨32, 1, 0, (.ref 0), fun w q h => loadI_mag w q h⟩],
     flds := [⟨34, 1, 1, fldI1⟩] } (by kernel_rfl)
theorem rdv_r14 (n1 : ¬ n = 1) {s : Nat} (hs0 : 0 < s) (hs1 : s < 4294967296) {q r d : Nat} (hd0 : 0 < d) (sd : Sm ((d : Nat) : Int) (j + 2)) (sr : Sm ((r : Nat) : Int) (i + 2)) (sq : Sm ((q : Nat) : Int) (i + 2)) : RA 86 [(intF ((q : Nat) : Int)), (magF (r / s)), (intF (((r / s) : Nat) : Int)), (natF x), (eqF (.slice (some bd) n cap)), (eqF (.int .u32 (s : Int)))] [(boxIF ((q : Nat) : Int)), zeroIF, (boxIF (((r / s) : Nat) : Int)), (boxIF ((s : Nat) : Int)), (boxIF ((r : Nat) : Int)), (boxIF ((d : Nat) : Int))] ⟨[(0, (.ref 3)), (1, (.ref 4)), (8, (.ref 5)), (14, (.ref 1)), (18, (.bool false)), (42, (.bool false)), (62, (.bool false))], [(4, 1), (5, 1), (9, 3), (10, 4), (11, 5), (12, 0)]⟩ ⟨[(0, (.ref 3)), (1, (.ref 4)), (8, (.ref 5)), (14, (.ref 1)), (18, (.bool false)), (42, (.bool false)), (62, (.bool false))], [(4, 0), (5, 2), (9, 3), (10, 4), (11, 5), (12, 0)]⟩ Wb 14 rdv_o14 true := RA.of
   { calls := [c2 115 (.ref 1) (.bool false) (.ref 2) fun w v0 v1 hb h0 h1 => kRMadeM h0 h1],
     loads := [⟨34, 0, 0, (.ref 0), fun w q h => loadI_int w q h⟩],
     stores := [⟨34, 0, 1, (.ref 0), 0, (storeI_zero _)⟩,
      ⟨34, 0, 1, (.ref 2), 2, (storeI_zero _)⟩] } (by kernel_rfl)
theorem rdv_r9b (n1 : ¬ n = 1) {s : Nat} (hs0 : 0 < s) (hs1 : s < 4294967296) {q r d : Nat} (hd0 : 0 < d) (sd : Sm ((d : Nat) : Int) (j + 2)) (sr : Sm ((r : Nat) : Int) (i + 2)) (sq : Sm ((q : Nat) : Int) (i + 2)) (hdr : d ≤ r) (se : Sm ((estN r d : Nat) : Int) (i + 2)) : RA 86 [(natF r), (natF d), (natF x), (eqF (.slice (some bd) n cap)), (eqF (.int .u32 (s : Int)))] [(boxIF ((r : Nat) : Int)), (boxIF ((d : Nat) : Int)), zeroIF, (boxIF ((s : Nat) : Int)), (boxIF ((q : Nat) : Int))] ⟨[(0, (.ref 2)), (1, (.ref 3)), (8, (.ref 4)), (18, (.bool false)), (42, (.bool false))], [(4, 2), (5, 2), (9, 3), (10, 0), (11, 1), (12, 4)]⟩ ⟨[(0, (.ref 2)), (1, (.ref 3)), (8, (.ref 4)), (18, (.bool false)), (42, (.bool false)), (62, (.bool true))], [(4, 2), (5, 2), (9, 3), (10, 0), (11, 1), (12, 4)]⟩ Wb 9 rdv_o9 false := RA.of
   { calls := [c2 117 (.ref 0) (.ref 1) (.bool false) fun w v0 v1 hb h0 h1 => kRLessB h0 h1 (Nat.le_trans (len_le_pow sr) (by omega)) (Nat.le_trans (len_le_pow sd) (by omega)) (by simp; omega)],
     loads := [⟨32, 1, 0, (.ref 0), fun w q h => loadI_mag w q h⟩,
      ⟨32, 1, 1, (.ref 1), fun w q h => loadI_mag w q h⟩],
     flds := [⟨34, 1, 1, fldI1⟩] } (by kernel_rfl)
theorem rdv_r10 (n1 : ¬ n = 1) {s : Nat} (hs0 : 0 < s) (hs1 : s < 4294967296) {q r d : Nat} (hd0 : 0 < d) (sd : Sm ((d : Nat) : Int) (j + 2)) (sr : Sm ((r : Nat) : Int) (i + 2)) (sq : Sm ((q : Nat) : Int) (i + 2)) (hdr : d ≤ r) (se : Sm ((estN r d : Nat) : Int) (i + 2)) : RA 86 [(natF r), (natF d), (intF ((estN r d : Nat) : Int)), (natF x), (eqF (.slice (some bd) n cap)), (eqF (.int .u32 (s : Int)))] [(boxIF ((r : Nat) : Int)), (boxIF ((d : Nat) : Int)), zeroIF, (boxIF ((estN r d : Nat) : Int)), (boxIF ((s : Nat) : Int)), (boxIF ((q : Nat) : Int))] ⟨[(0, (.ref 3)), (1, (.ref 4)), (8, (.ref 5)), (18, (.bool false)), (42, (.bool false)), (62, (.bool true))], [(4, 2), (5, 2), (9, 4), (10, 0), (11, 1), (12, 5)]⟩ ⟨[(0, (.ref 3)), (1, (.ref 4)), (8, (.ref 5)), (18, (.bool false)), (42, (.bool false)), (62, (.bool true))], [(4, 2), (5, 2), (9, 4), (10, 0), (11, 1), (12, 5), (13, 3)]⟩ Wb 10 rdv_o10 false := RA.of
   { calls := [c2 156 (.ref 0) (.ref 1) (.ref 2) fun w v0 v1 hb h0 h1 => kREst h0 h1 hd0 hdr (Nat.le_trans (len_le_pow sr) (by omega))],
     loads := [⟨32, 1, 0, (.ref 0), fun w q h => loadI_mag w q h⟩,
      ⟨32, 1, 1, (.ref 1), fun w q h => loadI_mag w q h⟩],
     allocs := [⟨34, 2, _, allocI_run, allocI_old⟩],
     stores := [⟨34, 0, 2, (.ref 2), 3, (storeI_zero _)⟩],
     flds := [⟨34, 1, 1, fldI1⟩] } (by kernel_rfl)
theorem rdv_r11 (n1 : ¬ n = 1) {s : Nat} (hs0 : 0 < s) (hs1 : s < 4294967296) {q r d : Nat} (hd0 : 0 < d) (sd : Sm ((d : Nat) : Int) (j + 2)) (sr : Sm ((r : Nat) : Int) (i + 2)) (sq : Sm ((q : Nat) : Int) (i + 2)) (hdr : d ≤ r) (se : Sm ((estN r d : Nat) : Int) (i + 2)) : RA 86 [(intF ((q : Nat) : Int)), (intF ((estN r d : Nat) : Int)), (intF (((q : Nat) : Int) + ((estN r d : Nat) : Int))), (natF x), (eqF (.slice (some bd) n cap)), (eqF (.int .u32 (s : Int)))] [(boxIF ((q : Nat) : Int)), (boxIF ((estN r d : Nat) : Int)), (boxIF (((q : Nat) : Int) + ((estN r d : Nat) : Int))), zeroIF, (boxIF ((s : Nat) : Int)), (boxIF ((r : Nat) : Int)), (boxIF ((d : Nat) : Int))] ⟨[(0, (.ref 3)), (1, (.ref 4)), (8, (.ref 5)), (18, (.bool false)), (42, (.bool false)), (62, (.bool true))], [(4, 3), (5, 3), (9, 4), (10, 5), (11, 6), (12, 0), (13, 1)]⟩ ⟨[(0, (.ref 3)), (1, (.ref 4)), (8, (.ref 5)), (18, (.bool false)), (42, (.bool false)), (62, (.bool true))], [(4, 3), (5, 3), (9, 4), (10, 5), (11, 6), (12, 2), (13, 1)]⟩ Wb 11 rdv_o11 false := RA.of
   { calls := [c2 87 (.ref 0) (.ref 1) (.ref 2) fun w v0 v1 hb h0 h1 => kRAdd h0 h1 sq se (by first | decide | assumption | omega) (by first | decide | assumption | omega)],
     loads := [⟨34, 0, 0, (.ref 0), fun w q h => loadI_int w q h⟩,
      ⟨34, 0, 1, (.ref 1), fun w q h => loadI_int w q h⟩],
     stores := [⟨34, 0, 0, (.ref 2), 2, (storeI_box _ _)⟩] } (by kernel_rfl)
theorem rdv_r12 (n1 : ¬ n = 1) {s : Nat} (hs0 : 0 < s) (hs1 : s < 4294967296) {q r d : Nat} (hd0 : 0 < d) (sd : Sm ((d : Nat) : Int) (j + 2)) (sr : Sm ((r : Nat) : Int) (i + 2)) (sq : Sm ((q : Nat) : Int) (i + 2)) (hdr : d ≤ r) (se : Sm ((estN r d : Nat) : Int) (i + 2)) : RA 86 [(intF ((r : Nat) : Int)), (intF ((estN r d : Nat) : Int)), (intF ((d : Nat) : Int)), (intF (((estN r d : Nat) : Int) * ((d : Nat) : Int))), (intF (((r : Nat) : Int) - (((estN r d : Nat) : Int) * ((d : Nat) : Int)))), (natF x), (eqF (.slice (some bd) n cap)), (eqF (.int .u32 (s : Int)))] [(boxIF ((r : Nat) : Int)), (boxIF ((estN r d : Nat) : Int)), (boxIF ((d : Nat) : Int)), (boxIF (((r : Nat) : Int) - (((estN r d : Nat) : Int) * ((d : Nat) : Int)))), zeroIF, (boxIF ((s : Nat) : Int)), (boxIF (((q : Nat) : Int) + ((estN r d : Nat) : Int)))] ⟨[(0, (.ref 5)), (1, (.ref 6)), (8, (.ref 7)), (18, (.bool false)), (42, (.bool false)), (62, (.bool true))], [(4, 4), (5, 4), (9, 5), (10, 0), (11, 2), (12, 6), (13, 1)]⟩ ⟨[(0, (.ref 5)), (1, (.ref 6)), (8, (.ref 7)), (18, (.bool false)), (42, (.bool false)), (62, (.bool true))], [(4, 4), (5, 4), (9, 5), (10, 3), (11, 2), (12, 6), (13, 1)]⟩ Wb 12 rdv_o12 true := RA.of
   { calls := [c2 88 (.ref 1) (.ref 2) (.ref 3) fun w v0 v1 hb h0 h1 => kRMul h0 h1 se sd (by first | decide | assumption | omega) (by first | decide | assumption | omega),
      c2 145 (.ref 0) (.ref 3) (.ref 4) fun w v0 v1 hb h0 h1 => kRSub h0 h1 sr (se.mul sd) (by first | decide | assumption | omega) (by first | decide | assumption | omega)],
     loads := [⟨34, 0, 0, (.ref 0), fun w q h => loadI_int w q h⟩,
      ⟨34, 0, 1, (.ref 1), fun w q h => loadI_int w q h⟩,
      ⟨34, 0, 2, (.ref 2), fun w q h => loadI_int w q h⟩],
     stores := [⟨34, 0, 0, (.ref 4), 3, (storeI_box _ _)⟩] } (by kernel_rfl)
end
set_option maxRecDepth 100000 in
theorem RDivide_any (va:Value) (x y i j n cap t:Nat) (bd:Addr) (W:World) (ha:NatAt W va x) (sx:Sm ((x:Nat):Int) i) (sy:Sm ((y:Nat):Int) j) (hi:i≤400000000) (hj:j≤400000000) (hN:NatAt W (.slice (some bd) n cap) y) (ct:W.cell? (bd.add (n - 1))=some (.int .u32 (t:Int))) (hn:1≤n) (hn2:n≤1099511627776) (ht0:0<t) (ht:t<4294967296) (hy0:0<y) (ey1:n=1→y=t) :
  Calls Tryz.prog 144 #[va,.slice (some bd) n cap] W (GivesP (tup2F (intF ((x / y:Nat):Int)) (intF ((x % y:Nat):Int))) W):=by
 refine calls_stW (S:=[(0,(natF x)),(1,(eqF (.slice (some bd) n cap)))]) Tryz.func144 (by kernel_rfl) Tryz.ntmps144 (by simp) (fun x hx=>?_) fun a w hst=>?_
 ·simp only [List.mem_cons,List.not_mem_nil,or_false] at hx
  rcases hx with rfl | rfl
  ·exact ⟨_,rfl,ha⟩
  ·exact ⟨_,rfl,rfl⟩
 show Code.wp _ rdv_n0 _ a w
 by_cases n1:n=1
 ·have ey:=ey1 n1
  have ct0:W.cell? (bd.add 0)=some (.int .u32 (t:Int)):=by rw [n1] at ct; exact ct
  rw [rdv_e0]
  refine wp_seq ?_
  rw [rdv_e1]
  refine (rdv_r0 sx sy hi hj hN ct hn hn2 ht0 ht n1 ct0).run hst ?_
  clear hst
  intro a w hst
  show Code.wp _ rdv_n2 _ a w
  rw [rdv_e2]
  refine wp_seq ?_
  rw [rdv_e3]
  refine wp_seq ?_
  rw [rdv_e5]
  refine (rdv_r1 sx sy hi hj hN ct hn hn2 ht0 ht n1 ct0).run hst ?_
  clear hst
  intro a w hst
  show Code.wp _ rdv_n6 _ a w
  rw [rdv_e6]
  refine wp_cond_true (st_bool hst 2 rfl) ?_
  show Code.wp _ rdv_n7 _ a w
  rw [rdv_e7]
  refine wp_seq ?_
  rw [rdv_e9]
  refine (rdv_r2 sx sy hi hj hN ct hn hn2 ht0 ht n1 ct0).run hst ?_
  clear hst
  intro a w hst
  show Code.wp _ rdv_n10 _ a w
  rw [rdv_e10]
  refine wp_seq ?_
  rw [rdv_e11]
  refine (rdv_r3 sx sy hi hj hN ct hn hn2 ht0 ht n1 ct0).run hst ?_
  clear hst
  intro a w hst
  show Code.wp _ rdv_n12 _ a w
  rw [rdv_e12]
  refine wp_ret ?_
  rw [← ey] at hst
  exact ret_boxI2 hst rfl 0 rfl 1 rfl
 ·clear ey1
  rw [rdv_e0]
  refine wp_seq ?_
  rw [rdv_e1]
  refine (rdv_r0b sx sy hi hj hN ct hn hn2 ht0 ht n1).run hst ?_
  clear hst
  intro a w hst
  show Code.wp _ rdv_n2 _ a w
  rw [rdv_e2]
  refine wp_seq ?_
  rw [rdv_e3]
  refine wp_seq ?_
  rw [rdv_e5]
  refine (rdv_r1b sx sy hi hj hN ct hn hn2 ht0 ht n1).run hst ?_
  clear hst
  intro a w hst
  show Code.wp _ rdv_n6 _ a w
  rw [rdv_e6]
  refine wp_cond_false (st_bool hst 2 rfl) ?_
  show Code.wp _ rdv_n8 _ a w
  rw [rdv_e8]
  refine wp_skip ?_
  show Code.wp _ rdv_n4 _ a w
  rw [rdv_e4]
  refine wp_seq ?_
  rw [rdv_e13]
  refine (rdv_r4 sx sy hi hj hN ct hn hn2 ht0 ht n1).run hst ?_
  clear hst
  intro a w hst
  show Code.wp _ rdv_n14 _ a w
  rw [rdv_e14]
  refine wp_seq ?_
  rw [rdv_e15]
  refine wp_block ?_
  show Code.wp _ rdv_n17 _ a w
  rw [rdv_e17]
  refine loop_ghost (fun (s:Nat) a w=>St W 86 [(0,(natF x)),(1,(eqF (.slice (some bd) n cap))),(8,(eqF (.int .u32 (s:Int)))),(18,(eqF (.bool false)))] [(4,zeroIF),(5,zeroIF)] a w∧0<s∧t*s<4294967296) (fun s=>4294967296 - s) ?_ (1:Nat) ⟨hst,by omega,by omega⟩
  intro s a w ⟨hst,hs0,hts⟩
  have hs1:s<4294967296:=Nat.lt_of_le_of_lt (by rw [← Nat.one_mul s]; exact Nat.mul_le_mul_right s ht0 |> fun h=>by simpa using h) hts
  show Code.wp _ rdv_n18 _ a w
  rcases Nat.lt_or_ge (t*s) 2147483648 with hlo | hhi
  ·rw [rdv_e18]
   refine wp_seq ?_
   rw [rdv_e19]
   refine wp_seq ?_
   rw [rdv_e21]
   refine (rdv_r5 sx sy hi hj hN ct hn hn2 ht0 ht n1 hs0 hs1 hts hlo).run hst ?_
   clear hst
   intro a w hst
   show Code.wp _ rdv_n22 _ a w
   rw [rdv_e22]
   refine wp_cond_true (st_bool hst 4 rfl) ?_
   show Code.wp _ rdv_n23 _ a w
   rw [rdv_e23]
   refine wp_skip ?_
   show Code.wp _ rdv_n20 _ a w
   rw [rdv_e20]
   refine wp_block ?_
   show Code.wp _ rdv_n25 _ a w
   rw [rdv_e25]
   refine (rdv_r6 sx sy hi hj hN ct hn hn2 ht0 ht n1 hs0 hs1 hts hlo).run hst ?_
   clear hst
   intro a w hst
   have h2:t*(2*s)=2*(t*s):=by rw [Nat.mul_left_comm]
   have h3:s≤t*s:=Nat.le_mul_of_pos_left s ht0
   exact ⟨2*s,⟨(hst.to ⟨hst.slots.get (k:=0) rfl,hst.slots.get (k:=1) rfl,hst.slots.get (k:=2) rfl,hst.slots.get (k:=3) rfl,trivial⟩),by omega,by omega⟩,by show 4294967296 - 2*s<4294967296 - s; omega⟩
  ·rw [rdv_e18]
   refine wp_seq ?_
   rw [rdv_e19]
   refine wp_seq ?_
   rw [rdv_e21]
   refine (rdv_r5b sx sy hi hj hN ct hn hn2 ht0 ht n1 hs0 hs1 hts hhi).run hst ?_
   clear hst
   intro a w hst
   show Code.wp _ rdv_n22 _ a w
   rw [rdv_e22]
   refine wp_cond_false (st_bool hst 4 rfl) ?_
   show Code.wp _ rdv_n24 _ a w
   rw [rdv_e24]
   refine wp_exit ?_
   clear hhi hts
   show Code.wp _ rdv_n16 _ a w
   rw [rdv_e16]
   refine wp_seq ?_
   rw [rdv_e26]
   refine (rdv_r7 sx sy hi hj hN ct hn hn2 ht0 ht n1 hs0 hs1).run hst ?_
   clear hst
   intro a w hst
   show Code.wp _ rdv_n27 _ a w
   rw [rdv_e27]
   refine wp_seq ?_
   rw [rdv_e28]
   refine (rdv_r8 sx sy hi hj hN ct hn hn2 ht0 ht n1 hs0 hs1).run hst ?_
   clear hst
   intro a w hst
   show Code.wp _ rdv_n29 _ a w
   rw [rdv_e29]
   refine wp_seq ?_
   rw [rdv_e30]
   refine wp_block ?_
   show Code.wp _ rdv_n32 _ a w
   rw [rdv_e32]
   obtain ⟨d,hd⟩:∃ d,d=y*s:=⟨_,rfl⟩
   obtain ⟨r0,hr0⟩:∃ r,r=x*s:=⟨_,rfl⟩
   have hd0:0<d:=by rw [hd]; exact Nat.mul_pos hy0 hs0
   have ed:((y:Nat):Int)*((s:Nat):Int)=((d:Nat):Int):=by rw [hd,Int.natCast_mul]
   have er:((x:Nat):Int)*((s:Nat):Int)=((r0:Nat):Int):=by rw [hr0,Int.natCast_mul]
   have sd:Sm ((d:Nat):Int) (j+2):=by rw [← ed]; exact sy.mul (Sm.of _ (by omega))
   have sr0:Sm ((r0:Nat):Int) (i+2):=by rw [← er]; exact sx.mul (Sm.of _ (by omega))
   rw [ed,er] at hst
   refine loop_ghost (fun (p:Nat × Nat) a w=>St W 86 [(0,(natF x)),(1,(eqF (.slice (some bd) n cap))),(8,(eqF (.int .u32 (s:Int)))),(18,(eqF (.bool false))),(42,(eqF (.bool false)))] [(4,zeroIF),(5,zeroIF),(9,(boxIF ((s:Nat):Int))),(10,(boxIF ((p.2:Nat):Int))),(11,(boxIF ((d:Nat):Int))),(12,(boxIF ((p.1:Nat):Int)))] a w∧p.1*d+p.2=r0) (fun p=>p.2) ?_ (0,r0) ⟨hst,by simp⟩
   rintro ⟨q,r⟩ a w ⟨hst,hqr⟩
   simp only [] at hst hqr
   show Code.wp _ rdv_n33 _ a w
   have hq1:q≤q*d:=Nat.le_mul_of_pos_right q hd0
   have sr:Sm ((r:Nat):Int) (i+2):=sm_le sr0 (by omega)
   have sq:Sm ((q:Nat):Int) (i+2):=sm_le sr0 (by omega)
   rcases Nat.lt_or_ge r d with hdr | hdr
   ·rw [rdv_e33]
    refine wp_seq ?_
    rw [rdv_e34]
    refine wp_seq ?_
    rw [rdv_e36]
    refine (rdv_r9 sx sy hi hj hN ct hn hn2 ht0 ht n1 hs0 hs1 hd0 sd sr sq hdr).run hst ?_
    clear hst
    intro a w hst
    show Code.wp _ rdv_n37 _ a w
    rw [rdv_e37]
    refine wp_cond_false (st_bool hst 5 rfl) ?_
    show Code.wp _ rdv_n39 _ a w
    rw [rdv_e39]
    refine wp_exit ?_
    obtain ⟨f1,f2⟩:=div_end (x:=x) (y:=y) (q:=q) (r:=r) (H:=s) hs0 (by rw [← hd,← hr0,hqr]) (by rw [← hd]; exact hdr)
    show Code.wp _ rdv_n31 _ a w
    rw [rdv_e31]
    refine wp_seq ?_
    rw [rdv_e45]
    refine (rdv_r13 sx sy hi hj hN ct hn hn2 ht0 ht n1 hs0 hs1 hd0 sd sr sq).run hst ?_
    clear hst
    intro a w hst
    show Code.wp _ rdv_n46 _ a w
    rw [rdv_e46]
    refine wp_seq ?_
    rw [rdv_e47]
    refine (rdv_r14 sx sy hi hj hN ct hn hn2 ht0 ht n1 hs0 hs1 hd0 sd sr sq).run hst ?_
    clear hst
    intro a w hst
    show Code.wp _ rdv_n48 _ a w
    rw [rdv_e48]
    refine wp_ret ?_
    rw [f1,f2] at hst
    exact ret_boxI2 hst rfl 0 rfl 1 rfl
   ·have hE:=estN_ok hd0 hdr
    have he1:estN r d≤estN r d*d:=Nat.le_mul_of_pos_right _ hd0
    have se:Sm ((estN r d:Nat):Int) (i+2):=sm_le sr0 (by omega)
    rw [rdv_e33]
    refine wp_seq ?_
    rw [rdv_e34]
    refine wp_seq ?_
    rw [rdv_e36]
    refine (rdv_r9b sx sy hi hj hN ct hn hn2 ht0 ht n1 hs0 hs1 hd0 sd sr sq hdr se).run hst ?_
    clear hst
    intro a w hst
    show Code.wp _ rdv_n37 _ a w
    rw [rdv_e37]
    refine wp_cond_true (st_bool hst 5 rfl) ?_
    show Code.wp _ rdv_n38 _ a w
    rw [rdv_e38]
    refine wp_skip ?_
    show Code.wp _ rdv_n35 _ a w
    rw [rdv_e35]
    refine wp_block ?_
    show Code.wp _ rdv_n40 _ a w
    rw [rdv_e40]
    refine wp_seq ?_
    rw [rdv_e41]
    refine (rdv_r10 sx sy hi hj hN ct hn hn2 ht0 ht n1 hs0 hs1 hd0 sd sr sq hdr se).run hst ?_
    clear hst
    intro a w hst
    show Code.wp _ rdv_n42 _ a w
    rw [rdv_e42]
    refine wp_seq ?_
    rw [rdv_e43]
    refine (rdv_r11 sx sy hi hj hN ct hn hn2 ht0 ht n1 hs0 hs1 hd0 sd sr sq hdr se).run hst ?_
    clear hst
    intro a w hst
    show Code.wp _ rdv_n44 _ a w
    rw [rdv_e44]
    refine (rdv_r12 sx sy hi hj hN ct hn hn2 ht0 ht n1 hs0 hs1 hd0 sd sr sq hdr se).run hst ?_
    clear hst
    intro a w hst
    have e1:((q:Nat):Int)+((estN r d:Nat):Int)=((q+estN r d:Nat):Int):=by rw [Int.natCast_add]
    have e2:((r:Nat):Int) - ((estN r d:Nat):Int)*((d:Nat):Int)=((r - estN r d*d:Nat):Int):=by rw [Int.natCast_sub hE.2,Int.natCast_mul]
    rw [e1,e2] at hst
    have h3:0<estN r d*d:=Nat.mul_pos hE.1 hd0
    exact ⟨(q+estN r d,r - estN r d*d),⟨((hst.to (S':=[(0,(natF x)),(1,(eqF (.slice (some bd) n cap))),(8,(eqF (.int .u32 (s:Int)))),(18,(eqF (.bool false))),(42,(eqF (.bool false)))]) ⟨hst.slots.get (k:=0) rfl,hst.slots.get (k:=1) rfl,hst.slots.get (k:=2) rfl,hst.slots.get (k:=3) rfl,hst.slots.get (k:=4) rfl,trivial⟩).firstB 6),by show (q+estN r d)*d+(r - estN r d*d)=r0; rw [Nat.add_mul]; omega⟩,by show r - estN r d*d<r; omega⟩
end Go.Proofs.YtgaehhapjnbieaaGreat
namespace Go.Proofs.YtgaehhapjnbieaaGreat
open Go.RowKit
theorem kRMadeB {z:Int} {b:Bool} {va vb:Value} {w:World} (e:decide (z<0)=b) (ha:(natF z.natAbs).p va w) (hv:(eqF (.bool b)).p vb w) (hn:len z.natAbs≤4398046511104):Calls Tryz.prog 115 #[va,vb] w (GivesP (intF z) w):=by
 subst e
 exact kRMadeS ha hv hn
theorem kRDivide {x y i j:Nat} {va vb:Value} {w:World} (ha:(natF x).p va w) (hb:(natF y).p vb w) (sx:Sm ((x:Nat):Int) i) (sy:Sm ((y:Nat):Int) j) (hi:i≤400000000) (hj:j≤400000000) (hy0:0<y) :
  Calls Tryz.prog 144 #[va,vb] w (GivesP (tup2F (intF ((x / y:Nat):Int)) (intF ((x % y:Nat):Int))) w):=by
 have hb:NatAt w vb y:=hb
 obtain ⟨B,c,rfl,H⟩:=hb.open_
 have hl:len y≠0:=fun h=>by have:=len_eq_zero.1 h; omega
 have hb2:len y≤j:=len_le_pow sy
 obtain ⟨bd,rfl,_,hc⟩:=H.out.mem.2.2.at_ (show len y - 1<(limbs y).length by rw [len_limbs]; omega)
 have gq:=getD_of_lt (show len y - 1<(limbs y).length by rw [len_limbs]; omega)
 have ht:=(limbs_32 y).get (show len y - 1<(limbs y).length by rw [len_limbs]; omega)
 have ht0:=limbs_last hy0
 generalize (limbs y)[len y - 1]'(by rw [len_limbs]; omega)=t at *
 refine RDivide_any va x y i j (len y) c t bd w ha sx sy hi hj H.out hc (by omega) (by omega) (by omega) ht hy0 fun h=>?_
 rw [h] at gq
 obtain ⟨lo,e,hlo⟩:=top_split (y:=y) (n:=0) h gq
 omega
set_option maxRecDepth 100000 in
theorem RDM_1 {x y : Int} {i j : Nat} (va : Value) (vb : Value) (W : World) (hva : (intF x).p va W) (hvb : (intF y).p vb W) (sx : Sm x i) (sy : Sm y j) (hi : i ≤ 400000000) (hj : j ≤ 400000000) (ny : y ≠ 0) (_nx : x < 0) (hr : 0 < ((x.natAbs % y.natAbs : Nat) : Int)) (_hs : 0 < y) : Calls Tryz.prog 132 #[va, vb] W (GivesP (tup3F (intF (-(((x.natAbs / y.natAbs : Nat) : Int) + 1))) (intF (y - ((x.natAbs % y.natAbs : Nat) : Int))) (eqF (.int .i64 0))) W) := by
  let E : List PF := [(intF x), (intF y), (natF x.natAbs), (natF y.natAbs), (eqF (.int .i64 (Int.sign y))), (intF ((x.natAbs / y.natAbs : Nat) : Int)), (intF ((x.natAbs % y.natAbs : Nat) : Int)), (eqF (.int .i64 (Int.sign ((x.natAbs % y.natAbs : Nat) : Int)))), (intF 1), (intF (((x.natAbs / y.natAbs : Nat) : Int) + 1)), (intF (y - ((x.natAbs % y.natAbs : Nat) : Int))), (intF (-(((x.natAbs / y.natAbs : Nat) : Int) + 1)))]
  let EB : List CF := [(boxIF x), (boxIF y), zeroIF, (boxIF ((x.natAbs / y.natAbs : Nat) : Int)), (boxIF ((x.natAbs % y.natAbs : Nat) : Int)), (boxIF (((x.natAbs / y.natAbs : Nat) : Int) + 1)), (boxIF (y - ((x.natAbs % y.natAbs : Nat) : Int))), (boxIF (-(((x.natAbs / y.natAbs : Nat) : Int) + 1)))]
  exact auto_calls (E := E) (EB := EB) (fs := [(.ref 0), (.ref 1)]) (r := (.tup3 (.ref 11) (.ref 10) (.int .i64 0)))
   { pures := [p2 (.bin .eql 3 3) (.ref 4) (.int .i64 0) (.bool false) fun _ _ _ _ _ hx hy => h_eqlI (r := false) (by simp [Int.sign_eq_zero_iff_zero, ny]) hx hy,
      p2 (.bin .gtr 3 3) (.ref 7) (.int .i64 0) (.bool true) fun _ _ _ _ _ hx hy => h_gtr (r := true) (by rw [Int.sign_eq_one_of_pos hr]; decide) hx hy],
     calls := [c2 115 (.ref 2) (.bool true) (.ref 0) fun w v0 v1 hb h0 h1 => kRMadeB (z := x) (by simp; omega) h0 h1 (Nat.le_trans (len_le_pow sx) (by omega)),
      c2 115 (.ref 3) (.bool false) (.ref 1) fun w v0 v1 hb h0 h1 => kRMadeB (z := y) (by simp; omega) h0 h1 (Nat.le_trans (len_le_pow sy) (by omega)),
      c1 98 (.ref 1) (.ref 4) fun w v0 hb h0 => kRSign h0 sy (by first | decide | assumption | omega),
      c2 144 (.ref 2) (.ref 3) (.tup2 (.ref 5) (.ref 6)) fun w v0 v1 hb h0 h1 => kRDivide h0 h1 sx.abs sy.abs hi hj (by omega),
      c1 98 (.ref 6) (.ref 7) fun w v0 hb h0 => kRSign h0 (sm_le sx.abs (Nat.mod_le _ _)) (by first | decide | assumption | omega),
      c1 86 (.int .i64 1) (.ref 8) fun w v0 hb h0 => kROf 1 (by omega) (by omega) h0,
      c2 87 (.ref 5) (.ref 8) (.ref 9) fun w v0 v1 hb h0 h1 => kRAdd h0 h1 (sm_le sx.abs (Nat.div_le_self _ _)) (Sm.of 1 (by decide)) (by first | decide | assumption | omega) (by first | decide | assumption | omega),
      c2 145 (.ref 1) (.ref 6) (.ref 10) fun w v0 v1 hb h0 h1 => kRSub h0 h1 sy (sm_le sx.abs (Nat.mod_le _ _)) (by first | decide | assumption | omega) (by first | decide | assumption | omega),
      c1 90 (.ref 9) (.ref 11) fun w v0 hb h0 => kRNeg h0 ((sm_le sx.abs (Nat.div_le_self _ _)).add (Sm.of 1 (by decide))) (by first | decide | assumption | omega)],
     loads := [⟨32, 1, 0, (.ref 2), fun w q h => loadI_mag w q h⟩,
      ⟨4, 0, 0, (.bool true), fun w q h => loadI_neg (by simp; omega) w q h⟩,
      ⟨32, 1, 1, (.ref 3), fun w q h => loadI_mag w q h⟩,
      ⟨4, 0, 1, (.bool false), fun w q h => loadI_neg (by simp; omega) w q h⟩,
      ⟨34, 0, 1, (.ref 1), fun w q h => loadI_int w q h⟩,
      ⟨34, 0, 4, (.ref 6), fun w q h => loadI_int w q h⟩,
      ⟨34, 0, 3, (.ref 5), fun w q h => loadI_int w q h⟩,
      ⟨34, 0, 5, (.ref 9), fun w q h => loadI_int w q h⟩,
      ⟨34, 0, 7, (.ref 11), fun w q h => loadI_int w q h⟩,
      ⟨34, 0, 6, (.ref 10), fun w q h => loadI_int w q h⟩],
     allocs := [⟨34, 2, _, allocI_run, allocI_old⟩],
     boxes := [⟨34, (.ref 0), 0, fun w v h => boxI_run w v h⟩,
      ⟨34, (.ref 1), 1, fun w v h => boxI_run w v h⟩],
     stores := [⟨34, 0, 0, (.ref 0), 0, (storeI_box _ _)⟩,
      ⟨34, 0, 1, (.ref 1), 1, (storeI_box _ _)⟩,
      ⟨34, 0, 2, (.ref 5), 3, (storeI_zero _)⟩,
      ⟨34, 0, 2, (.ref 6), 4, (storeI_zero _)⟩,
      ⟨34, 0, 3, (.ref 9), 5, (storeI_box _ _)⟩,
      ⟨34, 0, 4, (.ref 10), 6, (storeI_box _ _)⟩,
      ⟨34, 0, 5, (.ref 11), 7, (storeI_box _ _)⟩,
      ⟨34, 0, 2, (.ref 11), 7, (storeI_zero _)⟩,
      ⟨34, 0, 2, (.ref 10), 6, (storeI_zero _)⟩],
     flds := [⟨34, 1, 1, fldI1⟩,
      ⟨34, 0, 0, fldI0⟩] }
   Tryz.func132 ⟨hva, hvb, trivial⟩ (by kernel_rfl)
set_option maxRecDepth 100000 in
theorem RDM_2 {x y : Int} {i j : Nat} (va : Value) (vb : Value) (W : World) (hva : (intF x).p va W) (hvb : (intF y).p vb W) (sx : Sm x i) (sy : Sm y j) (hi : i ≤ 400000000) (hj : j ≤ 400000000) (ny : y ≠ 0) (_nx : x < 0) (hr : 0 < ((x.natAbs % y.natAbs : Nat) : Int)) (_hs : y < 0) : Calls Tryz.prog 132 #[va, vb] W (GivesP (tup3F (intF (((x.natAbs / y.natAbs : Nat) : Int) + 1)) (intF (((y.natAbs : Nat) : Int) - ((x.natAbs % y.natAbs : Nat) : Int))) (eqF (.int .i64 0))) W) := by
  let E : List PF := [(intF x), (intF y), (natF x.natAbs), (natF y.natAbs), (eqF (.int .i64 (Int.sign y))), (intF ((x.natAbs / y.natAbs : Nat) : Int)), (intF ((x.natAbs % y.natAbs : Nat) : Int)), (eqF (.int .i64 (Int.sign ((x.natAbs % y.natAbs : Nat) : Int)))), (intF 1), (intF (((x.natAbs / y.natAbs : Nat) : Int) + 1)), (intF ((y.natAbs : Nat) : Int)), (intF (((y.natAbs : Nat) : Int) - ((x.natAbs % y.natAbs : Nat) : Int)))]
  let EB : List CF := [(boxIF x), (boxIF y), zeroIF, (boxIF ((x.natAbs / y.natAbs : Nat) : Int)), (boxIF ((x.natAbs % y.natAbs : Nat) : Int)), (boxIF (((x.natAbs / y.natAbs : Nat) : Int) + 1)), (boxIF (((y.natAbs : Nat) : Int) - ((x.natAbs % y.natAbs : Nat) : Int)))]
  exact auto_calls (E := E) (EB := EB) (fs := [(.ref 0), (.ref 1)]) (r := (.tup3 (.ref 9) (.ref 11) (.int .i64 0)))
   { pures := [p2 (.bin .eql 3 3) (.ref 4) (.int .i64 0) (.bool false) fun _ _ _ _ _ hx hy => h_eqlI (r := false) (by simp [Int.sign_eq_zero_iff_zero, ny]) hx hy,
      p2 (.bin .gtr 3 3) (.ref 7) (.int .i64 0) (.bool true) fun _ _ _ _ _ hx hy => h_gtr (r := true) (by rw [Int.sign_eq_one_of_pos hr]; decide) hx hy],
     calls := [c2 115 (.ref 2) (.bool true) (.ref 0) fun w v0 v1 hb h0 h1 => kRMadeB (z := x) (by simp; omega) h0 h1 (Nat.le_trans (len_le_pow sx) (by omega)),
      c2 115 (.ref 3) (.bool true) (.ref 1) fun w v0 v1 hb h0 h1 => kRMadeB (z := y) (by simp; omega) h0 h1 (Nat.le_trans (len_le_pow sy) (by omega)),
      c1 98 (.ref 1) (.ref 4) fun w v0 hb h0 => kRSign h0 sy (by first | decide | assumption | omega),
      c2 144 (.ref 2) (.ref 3) (.tup2 (.ref 5) (.ref 6)) fun w v0 v1 hb h0 h1 => kRDivide h0 h1 sx.abs sy.abs hi hj (by omega),
      c1 98 (.ref 6) (.ref 7) fun w v0 hb h0 => kRSign h0 (sm_le sx.abs (Nat.mod_le _ _)) (by first | decide | assumption | omega),
      c1 86 (.int .i64 1) (.ref 8) fun w v0 hb h0 => kROf 1 (by omega) (by omega) h0,
      c2 87 (.ref 5) (.ref 8) (.ref 9) fun w v0 v1 hb h0 h1 => kRAdd h0 h1 (sm_le sx.abs (Nat.div_le_self _ _)) (Sm.of 1 (by decide)) (by first | decide | assumption | omega) (by first | decide | assumption | omega),
      c2 115 (.ref 3) (.bool false) (.ref 10) fun w v0 v1 hb h0 h1 => kRMadeN h0 h1 (Nat.le_trans (len_le_pow sy) (by omega)),
      c2 145 (.ref 10) (.ref 6) (.ref 11) fun w v0 v1 hb h0 h1 => kRSub h0 h1 sy.abs (sm_le sx.abs (Nat.mod_le _ _)) (by first | decide | assumption | omega) (by first | decide | assumption | omega)],
     loads := [⟨32, 1, 0, (.ref 2), fun w q h => loadI_mag w q h⟩,
      ⟨4, 0, 0, (.bool true), fun w q h => loadI_neg (by simp; omega) w q h⟩,
      ⟨32, 1, 1, (.ref 3), fun w q h => loadI_mag w q h⟩,
      ⟨4, 0, 1, (.bool true), fun w q h => loadI_neg (by simp; omega) w q h⟩,
      ⟨34, 0, 1, (.ref 1), fun w q h => loadI_int w q h⟩,
      ⟨34, 0, 4, (.ref 6), fun w q h => loadI_int w q h⟩,
      ⟨34, 0, 3, (.ref 5), fun w q h => loadI_int w q h⟩,
      ⟨34, 0, 5, (.ref 9), fun w q h => loadI_int w q h⟩,
      ⟨34, 0, 6, (.ref 11), fun w q h => loadI_int w q h⟩],
     allocs := [⟨34, 2, _, allocI_run, allocI_old⟩],
     boxes := [⟨34, (.ref 0), 0, fun w v h => boxI_run w v h⟩,
      ⟨34, (.ref 1), 1, fun w v h => boxI_run w v h⟩],
     stores := [⟨34, 0, 0, (.ref 0), 0, (storeI_box _ _)⟩,
      ⟨34, 0, 1, (.ref 1), 1, (storeI_box _ _)⟩,
      ⟨34, 0, 2, (.ref 5), 3, (storeI_zero _)⟩,
      ⟨34, 0, 2, (.ref 6), 4, (storeI_zero _)⟩,
      ⟨34, 0, 3, (.ref 9), 5, (storeI_box _ _)⟩,
      ⟨34, 0, 4, (.ref 11), 6, (storeI_box _ _)⟩,
      ⟨34, 0, 2, (.ref 9), 5, (storeI_zero _)⟩,
      ⟨34, 0, 2, (.ref 11), 6, (storeI_zero _)⟩],
     flds := [⟨34, 1, 1, fldI1⟩,
      ⟨34, 0, 0, fldI0⟩] }
   Tryz.func132 ⟨hva, hvb, trivial⟩ (by kernel_rfl)
set_option maxRecDepth 100000 in
theorem RDM_3 {x y : Int} {i j : Nat} (va : Value) (vb : Value) (W : World) (hva : (intF x).p va W) (hvb : (intF y).p vb W) (sx : Sm x i) (sy : Sm y j) (hi : i ≤ 400000000) (hj : j ≤ 400000000) (ny : y ≠ 0) (_nx : x < 0) (hr : ((x.natAbs % y.natAbs : Nat) : Int) = 0) (_hs : 0 < y) : Calls Tryz.prog 132 #[va, vb] W (GivesP (tup3F (intF (-((x.natAbs / y.natAbs : Nat) : Int))) (intF ((x.natAbs % y.natAbs : Nat) : Int)) (eqF (.int .i64 0))) W) := by
  let E : List PF := [(intF x), (intF y), (natF x.natAbs), (natF y.natAbs), (eqF (.int .i64 (Int.sign y))), (intF ((x.natAbs / y.natAbs : Nat) : Int)), (intF ((x.natAbs % y.natAbs : Nat) : Int)), (eqF (.int .i64 (Int.sign ((x.natAbs % y.natAbs : Nat) : Int)))), (intF (-((x.natAbs / y.natAbs : Nat) : Int)))]
  let EB : List CF := [(boxIF x), (boxIF y), zeroIF, (boxIF ((x.natAbs / y.natAbs : Nat) : Int)), (boxIF ((x.natAbs % y.natAbs : Nat) : Int)), (boxIF (-((x.natAbs / y.natAbs : Nat) : Int)))]
  exact auto_calls (E := E) (EB := EB) (fs := [(.ref 0), (.ref 1)]) (r := (.tup3 (.ref 8) (.ref 6) (.int .i64 0)))
   { pures := [p2 (.bin .eql 3 3) (.ref 4) (.int .i64 0) (.bool false) fun _ _ _ _ _ hx hy => h_eqlI (r := false) (by simp [Int.sign_eq_zero_iff_zero, ny]) hx hy,
      p2 (.bin .gtr 3 3) (.ref 7) (.int .i64 0) (.bool false) fun _ _ _ _ _ hx hy => h_gtr (r := false) (by rw [hr]; decide) hx hy],
     calls := [c2 115 (.ref 2) (.bool true) (.ref 0) fun w v0 v1 hb h0 h1 => kRMadeB (z := x) (by simp; omega) h0 h1 (Nat.le_trans (len_le_pow sx) (by omega)),
      c2 115 (.ref 3) (.bool false) (.ref 1) fun w v0 v1 hb h0 h1 => kRMadeB (z := y) (by simp; omega) h0 h1 (Nat.le_trans (len_le_pow sy) (by omega)),
      c1 98 (.ref 1) (.ref 4) fun w v0 hb h0 => kRSign h0 sy (by first | decide | assumption | omega),
      c2 144 (.ref 2) (.ref 3) (.tup2 (.ref 5) (.ref 6)) fun w v0 v1 hb h0 h1 => kRDivide h0 h1 sx.abs sy.abs hi hj (by omega),
      c1 98 (.ref 6) (.ref 7) fun w v0 hb h0 => kRSign h0 (sm_le sx.abs (Nat.mod_le _ _)) (by first | decide | assumption | omega),
      c1 90 (.ref 5) (.ref 8) fun w v0 hb h0 => kRNeg h0 (sm_le sx.abs (Nat.div_le_self _ _)) (by first | decide | assumption | omega)],
     loads := [⟨32, 1, 0, (.ref 2), fun w q h => loadI_mag w q h⟩,
      ⟨4, 0, 0, (.bool true), fun w q h => loadI_neg (by simp; omega) w q h⟩,
      ⟨32, 1, 1, (.ref 3), fun w q h => loadI_mag w q h⟩,
      ⟨4, 0, 1, (.bool false), fun w q h => loadI_neg (by simp; omega) w q h⟩,
      ⟨34, 0, 1, (.ref 1), fun w q h => loadI_int w q h⟩,
      ⟨34, 0, 4, (.ref 6), fun w q h => loadI_int w q h⟩,
      ⟨34, 0, 3, (.ref 5), fun w q h => loadI_int w q h⟩,
      ⟨34, 0, 5, (.ref 8), fun w q h => loadI_int w q h⟩],
     allocs := [⟨34, 2, _, allocI_run, allocI_old⟩],
     boxes := [⟨34, (.ref 0), 0, fun w v h => boxI_run w v h⟩,
      ⟨34, (.ref 1), 1, fun w v h => boxI_run w v h⟩],
     stores := [⟨34, 0, 0, (.ref 0), 0, (storeI_box _ _)⟩,
      ⟨34, 0, 1, (.ref 1), 1, (storeI_box _ _)⟩,
      ⟨34, 0, 2, (.ref 5), 3, (storeI_zero _)⟩,
      ⟨34, 0, 2, (.ref 6), 4, (storeI_zero _)⟩,
      ⟨34, 0, 3, (.ref 8), 5, (storeI_box _ _)⟩,
      ⟨34, 0, 2, (.ref 8), 5, (storeI_zero _)⟩],
     flds := [⟨34, 1, 1, fldI1⟩,
      ⟨34, 0, 0, fldI0⟩] }
   Tryz.func132 ⟨hva, hvb, trivial⟩ (by kernel_rfl)
set_option maxRecDepth 100000 in
theorem RDM_4 {x y : Int} {i j : Nat} (va : Value) (vb : Value) (W : World) (hva : (intF x).p va W) (hvb : (intF y).p vb W) (sx : Sm x i) (sy : Sm y j) (hi : i ≤ 400000000) (hj : j ≤ 400000000) (ny : y ≠ 0) (_nx : x < 0) (hr : ((x.natAbs % y.natAbs : Nat) : Int) = 0) (_hs : y < 0) : Calls Tryz.prog 132 #[va, vb] W (GivesP (tup3F (intF ((x.natAbs / y.natAbs : Nat) : Int)) (intF ((x.natAbs % y.natAbs : Nat) : Int)) (eqF (.int .i64 0))) W) := by
  let E : List PF := [(intF x), (intF y), (natF x.natAbs), (natF y.natAbs), (eqF (.int .i64 (Int.sign y))), (intF ((x.natAbs / y.natAbs : Nat) : Int)), (intF ((x.natAbs % y.natAbs : Nat) : Int)), (eqF (.int .i64 (Int.sign ((x.natAbs % y.natAbs : Nat) : Int))))]
  let EB : List CF := [(boxIF x), (boxIF y), zeroIF, (boxIF ((x.natAbs / y.natAbs : Nat) : Int)), (boxIF ((x.natAbs % y.natAbs : Nat) : Int))]
  exact auto_calls (E := E) (EB := EB) (fs := [(.ref 0), (.ref 1)]) (r := (.tup3 (.ref 5) (.ref 6) (.int .i64 0)))
   { pures := [p2 (.bin .eql 3 3) (.ref 4) (.int .i64 0) (.bool false) fun _ _ _ _ _ hx hy => h_eqlI (r := false) (by simp [Int.sign_eq_zero_iff_zero, ny]) hx hy,
      p2 (.bin .gtr 3 3) (.ref 7) (.int .i64 0) (.bool false) fun _ _ _ _ _ hx hy => h_gtr (r := false) (by rw [hr]; decide) hx hy],
     calls := [c2 115 (.ref 2) (.bool true) (.ref 0) fun w v0 v1 hb h0 h1 => kRMadeB (z := x) (by simp; omega) h0 h1 (Nat.le_trans (len_le_pow sx) (by omega)),
      c2 115 (.ref 3) (.bool true) (.ref 1) fun w v0 v1 hb h0 h1 => kRMadeB (z := y) (by simp; omega) h0 h1 (Nat.le_trans (len_le_pow sy) (by omega)),
      c1 98 (.ref 1) (.ref 4) fun w v0 hb h0 => kRSign h0 sy (by first | decide | assumption | omega),
      c2 144 (.ref 2) (.ref 3) (.tup2 (.ref 5) (.ref 6)) fun w v0 v1 hb h0 h1 => kRDivide h0 h1 sx.abs sy.abs hi hj (by omega),
      c1 98 (.ref 6) (.ref 7) fun w v0 hb h0 => kRSign h0 (sm_le sx.abs (Nat.mod_le _ _)) (by first | decide | assumption | omega)],
     loads := [⟨32, 1, 0, (.ref 2), fun w q h => loadI_mag w q h⟩,
      ⟨4, 0, 0, (.bool true), fun w q h => loadI_neg (by simp; omega) w q h⟩,
      ⟨32, 1, 1, (.ref 3), fun w q h => loadI_mag w q h⟩,
      ⟨4, 0, 1, (.bool true), fun w q h => loadI_neg (by simp; omega) w q h⟩,
      ⟨34, 0, 1, (.ref 1), fun w q h => loadI_int w q h⟩,
      ⟨34, 0, 4, (.ref 6), fun w q h => loadI_int w q h⟩,
      ⟨34, 0, 3, (.ref 5), fun w q h => loadI_int w q h⟩],
     allocs := [⟨34, 2, _, allocI_run, allocI_old⟩],
     boxes := [⟨34, (.ref 0), 0, fun w v h => boxI_run w v h⟩,
      ⟨34, (.ref 1), 1, fun w v h => boxI_run w v h⟩],
     stores := [⟨34, 0, 0, (.ref 0), 0, (storeI_box _ _)⟩,
      ⟨34, 0, 1, (.ref 1), 1, (storeI_box _ _)⟩,
      ⟨34, 0, 2, (.ref 5), 3, (storeI_zero _)⟩,
      ⟨34, 0, 2, (.ref 6), 4, (storeI_zero _)⟩],
     flds := [⟨34, 1, 1, fldI1⟩,
      ⟨34, 0, 0, fldI0⟩] }
   Tryz.func132 ⟨hva, hvb, trivial⟩ (by kernel_rfl)
set_option maxRecDepth 100000 in
theorem RDM_5 {x y : Int} {i j : Nat} (va : Value) (vb : Value) (W : World) (hva : (intF x).p va W) (hvb : (intF y).p vb W) (sx : Sm x i) (sy : Sm y j) (hi : i ≤ 400000000) (hj : j ≤ 400000000) (ny : y ≠ 0) (_nx : 0 ≤ x) (_hs : 0 < y) : Calls Tryz.prog 132 #[va, vb] W (GivesP (tup3F (intF ((x.natAbs / y.natAbs : Nat) : Int)) (intF ((x.natAbs % y.natAbs : Nat) : Int)) (eqF (.int .i64 0))) W) := by
  let E : List PF := [(intF x), (intF y), (natF x.natAbs), (natF y.natAbs), (eqF (.int .i64 (Int.sign y))), (intF ((x.natAbs / y.natAbs : Nat) : Int)), (intF ((x.natAbs % y.natAbs : Nat) : Int))]
  let EB : List CF := [(boxIF x), (boxIF y), zeroIF, (boxIF ((x.natAbs / y.natAbs : Nat) : Int)), (boxIF ((x.natAbs % y.natAbs : Nat) : Int))]
  exact auto_calls (E := E) (EB := EB) (fs := [(.ref 0), (.ref 1)]) (r := (.tup3 (.ref 5) (.ref 6) (.int .i64 0)))
   { pures := [p2 (.bin .eql 3 3) (.ref 4) (.int .i64 0) (.bool false) fun _ _ _ _ _ hx hy => h_eqlI (r := false) (by simp [Int.sign_eq_zero_iff_zero, ny]) hx hy],
     calls := [c2 115 (.ref 2) (.bool false) (.ref 0) fun w v0 v1 hb h0 h1 => kRMadeB (z := x) (by simp; omega) h0 h1 (Nat.le_trans (len_le_pow sx) (by omega)),
      c2 115 (.ref 3) (.bool false) (.ref 1) fun w v0 v1 hb h0 h1 => kRMadeB (z := y) (by simp; omega) h0 h1 (Nat.le_trans (len_le_pow sy) (by omega)),
      c1 98 (.ref 1) (.ref 4) fun w v0 hb h0 => kRSign h0 sy (by first | decide | assumption | omega),
      c2 144 (.ref 2) (.ref 3) (.tup2 (.ref 5) (.ref 6)) fun w v0 v1 hb h0 h1 => kRDivide h0 h1 sx.abs sy.abs hi hj (by omega)],
     loads := [⟨32, 1, 0, (.ref 2), fun w q h => loadI_mag w q h⟩,
      ⟨4, 0, 0, (.bool false), fun w q h => loadI_neg (by simp; omega) w q h⟩,
      ⟨32, 1, 1, (.ref 3), fun w q h => loadI_mag w q h⟩,
      ⟨4, 0, 1, (.bool false), fun w q h => loadI_neg (by simp; omega) w q h⟩,
      ⟨34, 0, 1, (.ref 1), fun w q h => loadI_int w q h⟩,
      ⟨34, 0, 3, (.ref 5), fun w q h => loadI_int w q h⟩,
      ⟨34, 0, 4, (.ref 6), fun w q h => loadI_int w q h⟩],
     allocs := [⟨34, 2, _, allocI_run, allocI_old⟩],
     boxes := [⟨34, (.ref 0), 0, fun w v h => boxI_run w v h⟩,
      ⟨34, (.ref 1), 1, fun w v h => boxI_run w v h⟩],
     stores := [⟨34, 0, 0, (.ref 0), 0, (storeI_box _ _)⟩,
      ⟨34, 0, 1, (.ref 1), 1, (storeI_box _ _)⟩,
      ⟨34, 0, 2, (.ref 5), 3, (storeI_zero _)⟩,
      ⟨34, 0, 2, (.ref 6), 4, (storeI_zero _)⟩],
     flds := [⟨34, 1, 1, fldI1⟩,
      ⟨34, 0, 0, fldI0⟩] }
   Tryz.func132 ⟨hva, hvb, trivial⟩ (by kernel_rfl)
set_option maxRecDepth 100000 in
theorem RDM_6 {x y : Int} {i j : Nat} (va : Value) (vb : Value) (W : World) (hva : (intF x).p va W) (hvb : (intF y).p vb W) (sx : Sm x i) (sy : Sm y j) (hi : i ≤ 400000000) (hj : j ≤ 400000000) (ny : y ≠ 0) (_nx : 0 ≤ x) (_hs : y < 0) : Calls Tryz.prog 132 #[va, vb] W (GivesP (tup3F (intF (-((x.natAbs / y.natAbs : Nat) : Int))) (intF ((x.natAbs % y.natAbs : Nat) : Int)) (eqF (.int .i64 0))) W) := by
  let E : List PF := [(intF x), (intF y), (natF x.natAbs), (natF y.natAbs), (eqF (.int .i64 (Int.sign y))), (intF ((x.natAbs / y.natAbs : Nat) : Int)), (intF ((x.natAbs % y.natAbs : Nat) : Int)), (intF (-((x.natAbs / y.natAbs : Nat) : Int)))]
  let EB : List CF := [(boxIF x), (boxIF y), zeroIF, (boxIF ((x.natAbs / y.natAbs : Nat) : Int)), (boxIF ((x.natAbs % y.natAbs : Nat) : Int)), (boxIF (-((x.natAbs / y.natAbs : Nat) : Int)))]
  exact auto_calls (E := E) (EB := EB) (fs := [(.ref 0), (.ref 1)]) (r := (.tup3 (.ref 7) (.ref 6) (.int .i64 0)))
   { pures := [p2 (.bin .eql 3 3) (.ref 4) (.int .i64 0) (.bool false) fun _ _ _ _ _ hx hy => h_eqlI (r := false) (by simp [Int.sign_eq_zero_iff_zero, ny]) hx hy],
     calls := [c2 115 (.ref 2) (.bool false) (.ref 0) fun w v0 v1 hb h0 h1 => kRMadeB (z := x) (by simp; omega) h0 h1 (Nat.le_trans (len_le_pow sx) (by omega)),
      c2 115 (.ref 3) (.bool true) (.ref 1) fun w v0 v1 hb h0 h1 => kRMadeB (z := y) (by simp; omega) h0 h1 (Nat.le_trans (len_le_pow sy) (by omega)),
      c1 98 (.ref 1) (.ref 4) fun w v0 hb h0 => kRSign h0 sy (by first | decide | assumption | omega),
      c2 144 (.ref 2) (.ref 3) (.tup2 (.ref 5) (.ref 6)) fun w v0 v1 hb h0 h1 => kRDivide h0 h1 sx.abs sy.abs hi hj (by omega),
      c1 90 (.ref 5) (.ref 7) fun w v0 hb h0 => kRNeg h0 (sm_le sx.abs (Nat.div_le_self _ _)) (by first | decide | assumption | omega)],
     loads := [⟨32, 1, 0, (.ref 2), fun w q h => loadI_mag w q h⟩,
      ⟨4, 0, 0, (.bool false), fun w q h => loadI_neg (by simp; omega) w q h⟩,
      ⟨32, 1, 1, (.ref 3), fun w q h => loadI_mag w q h⟩,
      ⟨4, 0, 1, (.bool true), fun w q h => loadI_neg (by simp; omega) w q h⟩,
      ⟨34, 0, 1, (.ref 1), fun w q h => loadI_int w q h⟩,
      ⟨34, 0, 3, (.ref 5), fun w q h => loadI_int w q h⟩,
      ⟨34, 0, 5, (.ref 7), fun w q h => loadI_int w q h⟩,
      ⟨34, 0, 4, (.ref 6), fun w q h => loadI_int w q h⟩],
     allocs := [⟨34, 2, _, allocI_run, allocI_old⟩],
     boxes := [⟨34, (.ref 0), 0, fun w v h => boxI_run w v h⟩,
      ⟨34, (.ref 1), 1, fun w v h => boxI_run w v h⟩],
     stores := [⟨34, 0, 0, (.ref 0), 0, (storeI_box _ _)⟩,
      ⟨34, 0, 1, (.ref 1), 1, (storeI_box _ _)⟩,
      ⟨34, 0, 2, (.ref 5), 3, (storeI_zero _)⟩,
      ⟨34, 0, 2, (.ref 6), 4, (storeI_zero _)⟩,
      ⟨34, 0, 3, (.ref 7), 5, (storeI_box _ _)⟩,
      ⟨34, 0, 2, (.ref 7), 5, (storeI_zero _)⟩],
     flds := [⟨34, 1, 1, fldI1⟩,
      ⟨34, 0, 0, fldI0⟩] }
   Tryz.func132 ⟨hva, hvb, trivial⟩ (by kernel_rfl)
theorem RDivMod_any (va vb:Value) (x y:Int) (i j:Nat) (W:World) (ha:IntAt W va x) (hb:IntAt W vb y) (sx:Sm x i) (sy:Sm y j) (hi:i≤400000000) (hj:j≤400000000) (ny:y≠0):Calls Tryz.prog 132 #[va,vb] W (GivesP (tup3F (intF (x / y)) (intF (x % y)) (eqF (.int .i64 0))) W):=by
 rcases Int.lt_or_le x 0 with nx | nx
 ·rcases (show (0:Int)<((x.natAbs % y.natAbs:Nat):Int) ∨ ((x.natAbs % y.natAbs:Nat):Int)=0 by omega) with hr | hr
  ·rcases (show 0<y ∨ y<0 by omega) with hs | hs
   ·have ax:(x.natAbs:Int)=(-x):=by omega
    have ay:(y.natAbs:Int)=y:=by omega
    obtain ⟨e1,e2⟩:(-(((x.natAbs / y.natAbs:Nat):Int)+1))=x / y∧(y - ((x.natAbs % y.natAbs:Nat):Int))=x % y:=by
     obtain ⟨Q,R,eQ,eR,k1,k2,k3⟩:=dm_abs x y ny
     rw [eQ,eR]
     rw [eR] at hr
     rw [ax,ay] at k1
     rw [ay] at k3
     refine dm_pos hs ?_ (by omega) (by omega)
     have m1:(-y)*Q = -(y*Q):=Int.neg_mul y Q
     have m2:y*(-Q) = -(y*Q):=Int.mul_neg y Q
     have m3:y*(Q+1)=y*Q+y:=by rw [Int.mul_add,Int.mul_one]
     have m4:y*(-(Q+1)) = -(y*Q) - y:=by rw [Int.mul_neg,m3]; omega
     omega
    have:=RDM_1 va vb W ha hb sx sy hi hj ny nx hr hs
    rw [e1,e2] at this
    exact this
   ·have ax:(x.natAbs:Int)=(-x):=by omega
    have ay:(y.natAbs:Int)=(-y):=by omega
    obtain ⟨e1,e2⟩:(((x.natAbs / y.natAbs:Nat):Int)+1)=x / y∧(((y.natAbs:Nat):Int) - ((x.natAbs % y.natAbs:Nat):Int))=x % y:=by
     obtain ⟨Q,R,eQ,eR,k1,k2,k3⟩:=dm_abs x y ny
     rw [eQ,eR]
     rw [eR] at hr
     rw [ax,ay] at k1
     rw [ay] at k3
     rw [ay]
     refine dm_neg hs ?_ (by omega) (by omega)
     have m1:(-y)*Q = -(y*Q):=Int.neg_mul y Q
     have m2:y*(-Q) = -(y*Q):=Int.mul_neg y Q
     have m3:y*(Q+1)=y*Q+y:=by rw [Int.mul_add,Int.mul_one]
     have m4:y*(-(Q+1)) = -(y*Q) - y:=by rw [Int.mul_neg,m3]; omega
     omega
    have:=RDM_2 va vb W ha hb sx sy hi hj ny nx hr hs
    rw [e1,e2] at this
    exact this
  ·rcases (show 0<y ∨ y<0 by omega) with hs | hs
   ·have ax:(x.natAbs:Int)=(-x):=by omega
    have ay:(y.natAbs:Int)=y:=by omega
    obtain ⟨e1,e2⟩:(-((x.natAbs / y.natAbs:Nat):Int))=x / y∧((x.natAbs % y.natAbs:Nat):Int)=x % y:=by
     obtain ⟨Q,R,eQ,eR,k1,k2,k3⟩:=dm_abs x y ny
     rw [eQ,eR]
     rw [eR] at hr
     rw [ax,ay] at k1
     rw [ay] at k3
     refine dm_pos hs ?_ (by omega) (by omega)
     have m1:(-y)*Q = -(y*Q):=Int.neg_mul y Q
     have m2:y*(-Q) = -(y*Q):=Int.mul_neg y Q
     have m3:y*(Q+1)=y*Q+y:=by rw [Int.mul_add,Int.mul_one]
     have m4:y*(-(Q+1)) = -(y*Q) - y:=by rw [Int.mul_neg,m3]; omega
     omega
    have:=RDM_3 va vb W ha hb sx sy hi hj ny nx hr hs
    rw [e1,e2] at this
    exact this
   ·have ax:(x.natAbs:Int)=(-x):=by omega
    have ay:(y.natAbs:Int)=(-y):=by omega
    obtain ⟨e1,e2⟩:((x.natAbs / y.natAbs:Nat):Int)=x / y∧((x.natAbs % y.natAbs:Nat):Int)=x % y:=by
     obtain ⟨Q,R,eQ,eR,k1,k2,k3⟩:=dm_abs x y ny
     rw [eQ,eR]
     rw [eR] at hr
     rw [ax,ay] at k1
     rw [ay] at k3
     refine dm_neg hs ?_ (by omega) (by omega)
     have m1:(-y)*Q = -(y*Q):=Int.neg_mul y Q
     have m2:y*(-Q) = -(y*Q):=Int.mul_neg y Q
     have m3:y*(Q+1)=y*Q+y:=by rw [Int.mul_add,Int.mul_one]
     have m4:y*(-(Q+1)) = -(y*Q) - y:=by rw [Int.mul_neg,m3]; omega
     omega
    have:=RDM_4 va vb W ha hb sx sy hi hj ny nx hr hs
    rw [e1,e2] at this
    exact this
 ·rcases (show 0<y ∨ y<0 by omega) with hs | hs
  ·have ax:(x.natAbs:Int)=x:=by omega
   have ay:(y.natAbs:Int)=y:=by omega
   obtain ⟨e1,e2⟩:((x.natAbs / y.natAbs:Nat):Int)=x / y∧((x.natAbs % y.natAbs:Nat):Int)=x % y:=by
    obtain ⟨Q,R,eQ,eR,k1,k2,k3⟩:=dm_abs x y ny
    rw [eQ,eR]
    rw [ax,ay] at k1
    rw [ay] at k3
    refine dm_pos hs ?_ (by omega) (by omega)
    have m1:(-y)*Q = -(y*Q):=Int.neg_mul y Q
    have m2:y*(-Q) = -(y*Q):=Int.mul_neg y Q
    have m3:y*(Q+1)=y*Q+y:=by rw [Int.mul_add,Int.mul_one]
    have m4:y*(-(Q+1)) = -(y*Q) - y:=by rw [Int.mul_neg,m3]; omega
    omega
   have:=RDM_5 va vb W ha hb sx sy hi hj ny nx hs
   rw [e1,e2] at this
   exact this
  ·have ax:(x.natAbs:Int)=x:=by omega
   have ay:(y.natAbs:Int)=(-y):=by omega
   obtain ⟨e1,e2⟩:(-((x.natAbs / y.natAbs:Nat):Int))=x / y∧((x.natAbs % y.natAbs:Nat):Int)=x % y:=by
    obtain ⟨Q,R,eQ,eR,k1,k2,k3⟩:=dm_abs x y ny
    rw [eQ,eR]
    rw [ax,ay] at k1
    rw [ay] at k3
    refine dm_neg hs ?_ (by omega) (by omega)
    have m1:(-y)*Q = -(y*Q):=Int.neg_mul y Q
    have m2:y*(-Q) = -(y*Q):=Int.mul_neg y Q
    have m3:y*(Q+1)=y*Q+y:=by rw [Int.mul_add,Int.mul_one]
    have m4:y*(-(Q+1)) = -(y*Q) - y:=by rw [Int.mul_neg,m3]; omega
    omega
   have:=RDM_6 va vb W ha hb sx sy hi hj ny nx hs
   rw [e1,e2] at this
   exact this
end Go.Proofs.YtgaehhapjnbieaaGreat
namespace Go.Proofs.YtgaehhapjnbieaaGreat
open Go.RowKit
theorem kRDivMod {x y:Int} {i j:Nat} {va vb:Value} {w:World} (ha:(intF x).p va w) (hb:(intF y).p vb w) (sx:Sm x i) (sy:Sm y j) (hi:i≤400000000) (hj:j≤400000000) (ny:y≠0) :
 Calls Tryz.prog 132 #[va,vb] w (GivesP (tup3F (intF (x / y)) (intF (x % y)) (eqF (.int .i64 0))) w):=RDivMod_any va vb x y i j w ha hb sx sy hi hj ny
theorem gcd_step (c d:Int):Int.gcd d (c % d)=Int.gcd c d:=by
 rw [Int.gcd_comm c d,Int.emod_def,Int.mul_comm d,Int.gcd_sub_mul_right_right]
theorem emod_lt (c:Int) {d:Int} (nd:d≠0):(c % d).natAbs<d.natAbs:=by
 have h1:=Int.emod_nonneg c nd
 have h2:=Int.emod_lt c nd
 omega
noncomputable def rgc_n0:Code:=bodyOf Tryz.f131
noncomputable def rgc_n1:Code:=cl rgc_n0
noncomputable def rgc_n2:Code:=cr rgc_n0
theorem rgc_e0:rgc_n0 = .seq rgc_n1 rgc_n2:=by kernel_rfl
noncomputable def rgc_o0:Array Oper:=opsOf rgc_n1
theorem rgc_e1:rgc_n1 = .region 0 rgc_o0 false:=by kernel_rfl
noncomputable def rgc_n3:Code:=cl rgc_n2
noncomputable def rgc_n4:Code:=cr rgc_n2
theorem rgc_e2:rgc_n2 = .seq rgc_n3 rgc_n4:=by kernel_rfl
noncomputable def rgc_n5:Code:=cl rgc_n3
theorem rgc_e3:rgc_n3 = .block 0 rgc_n5:=by kernel_rfl
noncomputable def rgc_n6:Code:=cl rgc_n5
theorem rgc_e5:rgc_n5 = .loop rgc_n6:=by kernel_rfl
noncomputable def rgc_n7:Code:=cl rgc_n6
noncomputable def rgc_n8:Code:=cr rgc_n6
theorem rgc_e6:rgc_n6 = .seq rgc_n7 rgc_n8:=by kernel_rfl
noncomputable def rgc_n9:Code:=cl rgc_n7
noncomputable def rgc_n10:Code:=cr rgc_n7
theorem rgc_e7:rgc_n7 = .seq rgc_n9 rgc_n10:=by kernel_rfl
noncomputable def rgc_o1:Array Oper:=opsOf rgc_n9
theorem rgc_e9:rgc_n9 = .region 1 rgc_o1 false:=by kernel_rfl
noncomputable def rgc_n11:Code:=cl rgc_n10
noncomputable def rgc_n12:Code:=cr rgc_n10
theorem rgc_e10:rgc_n10 = .cond (.tmp 10) rgc_n11 rgc_n12:=by kernel_rfl
theorem rgc_e11:rgc_n11 = .skip:=by kernel_rfl
theorem rgc_e12:rgc_n12 = .exit 0:=by kernel_rfl
noncomputable def rgc_n13:Code:=cl rgc_n8
theorem rgc_e8:rgc_n8 = .block 1 rgc_n13:=by kernel_rfl
noncomputable def rgc_n14:Code:=cl rgc_n13
noncomputable def rgc_n15:Code:=cr rgc_n13
theorem rgc_e13:rgc_n13 = .seq rgc_n14 rgc_n15:=by kernel_rfl
noncomputable def rgc_o2:Array Oper:=opsOf rgc_n14
theorem rgc_e14:rgc_n14 = .region 2 rgc_o2 false:=by kernel_rfl
noncomputable def rgc_o3:Array Oper:=opsOf rgc_n15
theorem rgc_e15:rgc_n15 = .region 3 rgc_o3 true:=by kernel_rfl
noncomputable def rgc_n16:Code:=cl rgc_n4
noncomputable def rgc_n17:Code:=cr rgc_n4
theorem rgc_e4:rgc_n4 = .seq rgc_n16 rgc_n17:=by kernel_rfl
noncomputable def rgc_o4:Array Oper:=opsOf rgc_n16
theorem rgc_e16:rgc_n16 = .region 4 rgc_o4 false:=by kernel_rfl
theorem rgc_e17:rgc_n17 = .ret:=by kernel_rfl
section
set_option maxRecDepth 100000
set_option linter.unusedSectionVars false
variable {Wb : World} {x y : Int} {k : Nat} (sx : Sm x k) (sy : Sm y k) (hk : k ≤ 400000000)
include sx sy hk
theorem rgc_r0 : RA 23 [(intF x), (intF y)] [(boxIF x), (boxIF y), zeroIF] ⟨[(0, (.ref 0)), (1, (.ref 1))], []⟩ ⟨[(0, (.ref 0)), (1, (.ref 1))], [(2, 0), (3, 1), (4, 2)]⟩ Wb 0 rgc_o0 false := RA.of
   { allocs := [⟨34, 2, _, allocI_run, allocI_old⟩],
     boxes := [⟨34, (.ref 0), 0, fun w v h => boxI_run w v h⟩,
      ⟨34, (.ref 1), 1, fun w v h => boxI_run w v h⟩] } (by kernel_rfl)
theorem rgc_r1 {c d : Int} (sc : Sm c k) (sd : Sm d k) (nd : d = 0) : RA 23 [(intF d), (eqF (.int .i64 (Int.sign d))), (intF x), (intF y)] [(boxIF d), (boxIF c), zeroIF] ⟨[(0, (.ref 2)), (1, (.ref 3))], [(2, 1), (3, 0), (4, 2)]⟩ ⟨[(0, (.ref 2)), (1, (.ref 3)), (10, (.bool false))], [(2, 1), (3, 0), (4, 2)]⟩ Wb 1 rgc_o1 false := RA.of
   { pures := [p2 (.bin .neq 3 3) (.ref 1) (.int .i64 0) (.bool false) fun _ _ _ _ _ hx hy => h_neqI (r := false) (by simp [Int.sign_eq_zero_iff_zero, nd]) hx hy],
     calls := [c1 98 (.ref 0) (.ref 1) fun w v0 hb h0 => kRSign h0 sd (by first | decide | assumption | omega)],
     loads := [⟨34, 0, 0, (.ref 0), fun w q h => loadI_int w q h⟩] } (by kernel_rfl)
theorem rgc_r4 {c d : Int} (sc : Sm c k) (sd : Sm d k) : RA 23 [(natF c.natAbs), (intF ((c.natAbs : Nat) : Int)), (intF x), (intF y)] [(boxIF c), zeroIF, (boxIF ((c.natAbs : Nat) : Int)), (boxIF d)] ⟨[(0, (.ref 2)), (1, (.ref 3)), (10, (.bool false))], [(2, 0), (3, 3), (4, 1)]⟩ ⟨[(0, (.ref 2)), (1, (.ref 3)), (10, (.bool false))], [(2, 0), (3, 3), (4, 2)]⟩ Wb 4 rgc_o4 false := RA.of
   { calls := [c2 115 (.ref 0) (.bool false) (.ref 1) fun w v0 v1 hb h0 h1 => kRMadeN h0 h1 (Nat.le_trans (len_le_pow sc) (by omega))],
     loads := [⟨32, 1, 0, (.ref 0), fun w q h => loadI_mag w q h⟩],
     stores := [⟨34, 0, 1, (.ref 1), 2, (storeI_zero _)⟩],
     flds := [⟨34, 1, 1, fldI1⟩] } (by kernel_rfl)
theorem rgc_r1b {c d : Int} (sc : Sm c k) (sd : Sm d k) (nd : d ≠ 0) : RA 23 [(intF d), (eqF (.int .i64 (Int.sign d))), (intF x), (intF y)] [(boxIF d), (boxIF c), zeroIF] ⟨[(0, (.ref 2)), (1, (.ref 3))], [(2, 1), (3, 0), (4, 2)]⟩ ⟨[(0, (.ref 2)), (1, (.ref 3)), (10, (.bool true))], [(2, 1), (3, 0), (4, 2)]⟩ Wb 1 rgc_o1 false := RA.of
   { pures := [p2 (.bin .neq 3 3) (.ref 1) (.int .i64 0) (.bool true) fun _ _ _ _ _ hx hy => h_neqI (r := true) (by simp [Int.sign_eq_zero_iff_zero, nd]) hx hy],
     calls := [c1 98 (.ref 0) (.ref 1) fun w v0 hb h0 => kRSign h0 sd (by first | decide | assumption | omega)],
     loads := [⟨34, 0, 0, (.ref 0), fun w q h => loadI_int w q h⟩] } (by kernel_rfl)
theorem rgc_r2 {c d : Int} (sc : Sm c k) (sd : Sm d k) (nd : d ≠ 0) : RA 23 [(intF c), (intF d), (intF (c / d)), (intF (c % d)), (intF x), (intF y)] [(boxIF c), (boxIF d), zeroIF, (boxIF (c / d)), (boxIF (c % d))] ⟨[(0, (.ref 4)), (1, (.ref 5)), (10, (.bool true))], [(2, 0), (3, 1), (4, 2)]⟩ ⟨[(0, (.ref 4)), (1, (.ref 5)), (10, (.bool true))], [(2, 0), (3, 1), (4, 2), (5, 3), (6, 4)]⟩ Wb 2 rgc_o2 false := RA.of
   { calls := [c2 132 (.ref 0) (.ref 1) (.tup3 (.ref 2) (.ref 3) (.int .i64 0)) fun w v0 v1 hb h0 h1 => kRDivMod h0 h1 sc sd (by first | decide | assumption | omega) (by first | decide | assumption | omega) nd],
     loads := [⟨34, 0, 0, (.ref 0), fun w q h => loadI_int w q h⟩,
      ⟨34, 0, 1, (.ref 1), fun w q h => loadI_int w q h⟩],
     allocs := [⟨34, 2, _, allocI_run, allocI_old⟩],
     stores := [⟨34, 0, 2, (.ref 2), 3, (storeI_zero _)⟩,
      ⟨34, 0, 2, (.ref 3), 4, (storeI_zero _)⟩] } (by kernel_rfl)
theorem rgc_r3 {c d : Int} (sc : Sm c k) (sd : Sm d k) (nd : d ≠ 0) : RA 23 [(intF d), (intF (c % d)), (intF x), (intF y)] [(boxIF d), (boxIF (c % d)), (boxIF c), zeroIF, (boxIF (c / d))] ⟨[(0, (.ref 2)), (1, (.ref 3)), (10, (.bool true))], [(2, 2), (3, 0), (4, 3), (5, 4), (6, 1)]⟩ ⟨[(0, (.ref 2)), (1, (.ref 3)), (10, (.bool true))], [(2, 0), (3, 1), (4, 3), (5, 4), (6, 1)]⟩ Wb 3 rgc_o3 true := RA.of
   { loads := [⟨34, 0, 0, (.ref 0), fun w q h => loadI_int w q h⟩,
      ⟨34, 0, 1, (.ref 1), fun w q h => loadI_int w q h⟩],
     stores := [⟨34, 0, 2, (.ref 0), 0, (storeI_box _ _)⟩,
      ⟨34, 0, 0, (.ref 1), 1, (storeI_box _ _)⟩] } (by kernel_rfl)
end
set_option maxRecDepth 100000 in
theorem RGcd_any (va vb:Value) (x y:Int) (k:Nat) (W:World) (ha:IntAt W va x) (hb:IntAt W vb y) (sx:Sm x k) (sy:Sm y k) (hk:k≤400000000) :
  Calls Tryz.prog 131 #[va,vb] W (GivesP (intF ((Int.gcd x y:Nat):Int)) W):=by
 refine calls_stW (S:=[(0,(intF x)),(1,(intF y))]) Tryz.func131 (by kernel_rfl) Tryz.ntmps131 (by simp) (fun x hx=>?_) fun a w hst=>?_
 ·simp only [List.mem_cons,List.not_mem_nil,or_false] at hx
  rcases hx with rfl | rfl
  ·exact ⟨_,rfl,ha⟩
  ·exact ⟨_,rfl,hb⟩
 show Code.wp _ rgc_n0 _ a w
 rw [rgc_e0]
 refine wp_seq ?_
 rw [rgc_e1]
 refine (rgc_r0 sx sy hk).run hst ?_
 clear hst
 intro a w hst
 show Code.wp _ rgc_n2 _ a w
 rw [rgc_e2]
 refine wp_seq ?_
 rw [rgc_e3]
 refine wp_block ?_
 show Code.wp _ rgc_n5 _ a w
 rw [rgc_e5]
 refine loop_ghost (fun (p:Int × Int) a w=>St W 23 [(0,(intF x)),(1,(intF y))] [(2,(boxIF p.1)),(3,(boxIF p.2)),(4,zeroIF)] a w∧Int.gcd p.1 p.2=Int.gcd x y∧Sm p.1 k∧Sm p.2 k) (fun p=>p.2.natAbs) ?_ (x,y) ⟨hst,rfl,sx,sy⟩
 rintro ⟨c,d⟩ a w ⟨hst,hg,sc,sd⟩
 simp only [] at hst hg sc sd
 show Code.wp _ rgc_n6 _ a w
 by_cases nd:d=0
 ·rw [rgc_e6]
  refine wp_seq ?_
  rw [rgc_e7]
  refine wp_seq ?_
  rw [rgc_e9]
  refine (rgc_r1 sx sy hk sc sd nd).run hst ?_
  clear hst
  intro a w hst
  show Code.wp _ rgc_n10 _ a w
  rw [rgc_e10]
  refine wp_cond_false (st_bool hst 2 rfl) ?_
  show Code.wp _ rgc_n12 _ a w
  rw [rgc_e12]
  refine wp_exit ?_
  have e:c.natAbs=Int.gcd x y:=by rw [← hg,nd,Int.gcd_zero_right]
  show Code.wp _ rgc_n4 _ a w
  rw [rgc_e4]
  refine wp_seq ?_
  rw [rgc_e16]
  refine (rgc_r4 sx sy hk sc sd).run hst ?_
  clear hst
  intro a w hst
  show Code.wp _ rgc_n17 _ a w
  rw [rgc_e17]
  refine wp_ret ?_
  rw [e] at hst
  exact ret_boxI hst rfl 2 rfl
 ·rw [rgc_e6]
  refine wp_seq ?_
  rw [rgc_e7]
  refine wp_seq ?_
  rw [rgc_e9]
  refine (rgc_r1b sx sy hk sc sd nd).run hst ?_
  clear hst
  intro a w hst
  show Code.wp _ rgc_n10 _ a w
  rw [rgc_e10]
  refine wp_cond_true (st_bool hst 2 rfl) ?_
  show Code.wp _ rgc_n11 _ a w
  rw [rgc_e11]
  refine wp_skip ?_
  show Code.wp _ rgc_n8 _ a w
  rw [rgc_e8]
  refine wp_block ?_
  show Code.wp _ rgc_n13 _ a w
  rw [rgc_e13]
  refine wp_seq ?_
  rw [rgc_e14]
  refine (rgc_r2 sx sy hk sc sd nd).run hst ?_
  clear hst
  intro a w hst
  show Code.wp _ rgc_n15 _ a w
  rw [rgc_e15]
  refine (rgc_r3 sx sy hk sc sd nd).run hst ?_
  clear hst
  intro a w hst
  exact ⟨(d,c % d),⟨((hst.to (S':=[(0,(intF x)),(1,(intF y))]) ⟨hst.slots.get (k:=0) rfl,hst.slots.get (k:=1) rfl,trivial⟩).firstB 3),by show Int.gcd d (c % d)=_; rw [← hg]; exact gcd_step c d,sd,sd.mod nd⟩,by show (c % d).natAbs<d.natAbs; exact emod_lt c nd⟩
end Go.Proofs.YtgaehhapjnbieaaGreat
