/- integer.guess (written by wip/tools/gen_guess.py). -/
import Derived.Test.YtegaedfdddapnaaGreatqOps2
set_option linter.unusedSectionVars false
set_option linter.unusedVariables false
set_option linter.unusedSimpArgs false
set_option maxRecDepth 100000
namespace Go.Proofs.YtegaedfdddapnaaGreat
open Go.RowKit
def AcH(Qt D T:Nat):PF:=⟨λv _=>∃ q:Nat,v = .int .u32 (q:Int)∧q<4294967296∧Qt≤q∧q*D≤T,λ_ _ _ _ h=>h⟩
noncomputable def Xq:=DG Tryz.f145
noncomputable def aU:=cl Xq
noncomputable def RM:=cr Xq
theorem Agg:Xq = .seq aU RM:=by kernel_rfl
noncomputable def xY:=Ba aU
theorem Ag9:aU = .region 0 xY false:=by kernel_rfl
noncomputable def mG:=cl RM
noncomputable def SH:=cr RM
theorem AeU:RM = .seq mG SH:=by kernel_rfl
noncomputable def xR:=Ba mG
theorem Afj:mG = .region 1 xR false:=by kernel_rfl
noncomputable def iY:=cl SH
noncomputable def R_:=cr SH
theorem AeR:SH = .seq iY R_:=by kernel_rfl
noncomputable def zM:=Ba iY
theorem AeO:iY = .region 2 zM true:=by kernel_rfl
noncomputable def fE:=cl R_
noncomputable def TI:=cr R_
theorem Agt:R_ = .seq fE TI:=by kernel_rfl
noncomputable def yE:=Ba fE
theorem AeH:fE = .region 3 yE true:=by kernel_rfl
noncomputable def lQ:=cl TI
noncomputable def M9:=cr TI
theorem AhM:TI = .seq lQ M9:=by kernel_rfl
noncomputable def zT:=Ba lQ
theorem Aff:lQ = .region 4 zT true:=by kernel_rfl
noncomputable def Un:=cl M9
noncomputable def IG:=cr M9
theorem Ad5:M9 = .seq Un IG:=by kernel_rfl
noncomputable def Rv:=cl Un
theorem AbX:Un = .block 0 Rv:=by kernel_rfl
noncomputable def Np:=cl Rv
theorem Adp:Rv = .loop Np:=by kernel_rfl
noncomputable def Pi:=cl Np
noncomputable def IS:=cr Np
theorem Ms:Np = .seq Pi IS:=by kernel_rfl
noncomputable def T5:=cl Pi
noncomputable def Ga:=cr Pi
theorem Ng:Pi = .seq T5 Ga:=by kernel_rfl
noncomputable def WX:=Ba T5
theorem Nk:T5 = .region 5 WX false:=by kernel_rfl
noncomputable def Ks:=cl Ga
noncomputable def Ut:=cr Ga
theorem LY:Ga = .cond (.tmp 60) Ks Ut:=by kernel_rfl
theorem QC:Ks = .skip:=by kernel_rfl
theorem Abn:Ut = .exit 0:=by kernel_rfl
noncomputable def GO:=cl IS
theorem Qj:IS = .block 1 GO:=by kernel_rfl
noncomputable def VS:=cl GO
noncomputable def Gr:=cr GO
theorem P4:GO = .seq VS Gr:=by kernel_rfl
noncomputable def zN:=Ba VS
theorem Pg:VS = .region 6 zN false:=by kernel_rfl
noncomputable def VC:=cl Gr
noncomputable def Gs:=cr Gr
theorem Rh:Gr = .seq VC Gs:=by kernel_rfl
noncomputable def xZ:=Ba VC
theorem QD:VC = .region 7 xZ false:=by kernel_rfl
noncomputable def U6:=cl Gs
noncomputable def Gx:=cr Gs
theorem Qi:Gs = .seq U6 Gx:=by kernel_rfl
noncomputable def jF:=Ba U6
theorem Py:U6 = .region 8 jF false:=by kernel_rfl
noncomputable def PD:=cl Gx
noncomputable def O9:=cr Gx
theorem QV:Gx = .cond (.tmp 67) PD O9:=by kernel_rfl
theorem bA:PD = .exit 0:=by kernel_rfl
theorem cA:O9 = .skip:=by kernel_rfl
noncomputable def Vr:=cl IG
noncomputable def MK:=cr IG
theorem T4:IG = .seq Vr MK:=by kernel_rfl
noncomputable def nH:=Ba Vr
theorem TZ:Vr = .region 9 nH false:=by kernel_rfl
theorem Ug:MK = .ret:=by kernel_rfl
section
set_option linter.unusedSectionVars false
variable {Wb : World} {g i n cap cd pn pn1 pn2 d1 d2 t : Nat} {bd : Addr} (hn : 2 ≤ n) (hnb : n ≤ 1099511627776) (cp : Wb.cell? ((⟨g, i, none⟩ : Addr).add n) = some (.int .u32 (pn : Int))) (cp1 : Wb.cell? ((⟨g, i, none⟩ : Addr).add (n - 1)) = some (.int .u32 (pn1 : Int))) (cp2 : Wb.cell? ((⟨g, i, none⟩ : Addr).add (n - 2)) = some (.int .u32 (pn2 : Int))) (cd1 : Wb.cell? (bd.add (n - 1)) = some (.int .u32 (d1 : Int))) (cd2 : Wb.cell? (bd.add (n - 2)) = some (.int .u32 (d2 : Int))) (bp : pn < 4294967296) (bp1 : pn1 < 4294967296) (bp2 : pn2 < 4294967296) (bd1 : d1 < 4294967296) (bd2 : d2 < 4294967296) (hd : 2147483648 ≤ d1) (ht : pn * 4294967296 + pn1 = t) (ht64 : t < 18446744073709551616)
include hn hnb cp cp1 cp2 cd1 cd2 bp bp1 bp2 bd1 bd2 hd ht ht64
theorem AgC:RA 70 [(Am (.slice (some (⟨g,i,none⟩:Addr)) (n+1) cap)),(Am (.slice (some bd) n cd))] [] ⟨[(0,(.ref 0)),(1,(.ref 1))],[]⟩ ⟨[(0,(.ref 0)),(1,(.ref 1)),(4,(.int .u32 0))],[]⟩ Wb 0 xY false:=RA.of
   {  } (by kernel_rfl)
theorem AfH:RA 70 [(Am (.slice (some bd) n cd)),(Am (.int .i64 (n:Int))),(Am (.slice (some (⟨g,i,none⟩:Addr)) (n+1) cap))] [] ⟨[(0,(.ref 2)),(1,(.ref 0)),(4,(.int .u32 0))],[]⟩ ⟨[(0,(.ref 2)),(1,(.ref 0)),(4,(.int .u32 0)),(5,(.ref 1))],[]⟩ Wb 1 xR false:=RA.of
   { pures:=[p1 (.blt .len [32]) (.ref 0) (.ref 1) λ_ _ _ _ hx=>Ow hx] } (by kernel_rfl)
theorem AgA:RA 70 [(Am (.slice (some (⟨g,i,none⟩:Addr)) (n+1) cap)),(Am (.int .i64 (n:Int))),(Am (.pointer (some (((⟨g,i,none⟩:Addr)).add (n))))),(Am (.int .u32 (pn:Int))),(Am (.int .u64 (pn:Int))),(Am (.int .u64 ((pn*4294967296:Nat):Int))),(Am (.int .i64 ((n - 1:Nat):Int))),(Am (.pointer (some (((⟨g,i,none⟩:Addr)).add (n - 1))))),(Am (.int .u32 (pn1:Int))),(Am (.int .u64 (pn1:Int))),(Am (.int .u64 ((t:Int):Int))),(Am (.slice (some bd) n cd))] [] ⟨[(0,(.ref 0)),(1,(.ref 11)),(4,(.int .u32 0)),(5,(.ref 1))],[]⟩ ⟨[(0,(.ref 0)),(1,(.ref 11)),(4,(.int .u32 0)),(5,(.ref 1)),(6,(.ref 10))],[]⟩ Wb 2 zM true:=RA.of
   { pures:=[p2 (.idx 32) (.ref 0) (.ref 1) (.ref 2) λ_ _ _ _ _ hx hy=>Jc (k:=n) (by omega) hx hy,
      p1 (.ld 114) (.ref 2) (.ref 3) λ_ _ _ hb hx=>Eo cp hb Cn hx,
      p1 (.conv 114 112) (.ref 3) (.ref 4) λ_ _ _ _ hx=>C2 (by omega) (by omega) hx,
      p2 (.bin .shl 112 71) (.ref 4) (.int .u64 32) (.ref 5) λ_ _ _ _ _ hx hy=>Qz (z:=((pn*4294967296:Nat):Int)) (by rw [IntKind.wrap_u64]; omega) hx hy,
      p2 (.bin .sub 3 3) (.ref 1) (.int .i64 1) (.ref 6) λ_ _ _ _ _ hx hy=>KB (z:=((n - 1:Nat):Int)) (by rw [IntKind.wrap_i64]; omega) hx hy,
      p2 (.idx 32) (.ref 0) (.ref 6) (.ref 7) λ_ _ _ _ _ hx hy=>Jc (k:=n - 1) (by omega) hx hy,
      p1 (.ld 114) (.ref 7) (.ref 8) λ_ _ _ hb hx=>Eo cp1 hb Cn hx,
      p1 (.conv 114 112) (.ref 8) (.ref 9) λ_ _ _ _ hx=>C2 (by omega) (by omega) hx,
      p2 (.bin .or 112 112) (.ref 5) (.ref 9) (.ref 10) λ_ _ _ _ _ hx hy=>Uf (z:=((t:Int):Int)) (by rw [show ((pn*4294967296:Nat):Int)=(pn:Int)*4294967296 from by omega,← ht]; exact Ff pn pn1 bp bp1) hx hy] } (by kernel_rfl)
theorem Ahu:RA 70 [(Am (.int .i64 (n:Int))),(Am (.int .i64 ((n - 1:Nat):Int))),(Am (.slice (some bd) n cd)),(Am (.pointer (some ((bd).add (n - 1))))),(Am (.int .u32 (d1:Int))),(Am (.int .u64 (d1:Int))),(Am (.int .i64 ((n - 2:Nat):Int))),(Am (.pointer (some ((bd).add (n - 2))))),(Am (.int .u32 (d2:Int))),(Am (.int .u64 (d2:Int))),(Am (.slice (some (⟨g,i,none⟩:Addr)) (n+1) cap)),(Am (.int .u64 ((t:Int):Int)))] [] ⟨[(0,(.ref 10)),(1,(.ref 2)),(4,(.int .u32 0)),(5,(.ref 0)),(6,(.ref 11))],[]⟩ ⟨[(0,(.ref 10)),(1,(.ref 2)),(4,(.int .u32 0)),(5,(.ref 0)),(6,(.ref 11)),(7,(.ref 5)),(8,(.ref 9))],[]⟩ Wb 3 yE true:=RA.of
   { pures:=[p2 (.bin .sub 3 3) (.ref 0) (.int .i64 1) (.ref 1) λ_ _ _ _ _ hx hy=>KB (z:=((n - 1:Nat):Int)) (by rw [IntKind.wrap_i64]; omega) hx hy,
      p2 (.idx 32) (.ref 2) (.ref 1) (.ref 3) λ_ _ _ _ _ hx hy=>Jc (k:=n - 1) (by omega) hx hy,
      p1 (.ld 114) (.ref 3) (.ref 4) λ_ _ _ hb hx=>Eo cd1 hb Cn hx,
      p1 (.conv 114 112) (.ref 4) (.ref 5) λ_ _ _ _ hx=>C2 (by omega) (by omega) hx,
      p2 (.bin .sub 3 3) (.ref 0) (.int .i64 2) (.ref 6) λ_ _ _ _ _ hx hy=>KB (z:=((n - 2:Nat):Int)) (by rw [IntKind.wrap_i64]; omega) hx hy,
      p2 (.idx 32) (.ref 2) (.ref 6) (.ref 7) λ_ _ _ _ _ hx hy=>Jc (k:=n - 2) (by omega) hx hy,
      p1 (.ld 114) (.ref 7) (.ref 8) λ_ _ _ hb hx=>Eo cd2 hb Cn hx,
      p1 (.conv 114 112) (.ref 8) (.ref 9) λ_ _ _ _ hx=>C2 (by omega) (by omega) hx] } (by kernel_rfl)
theorem Agd:RA 70 [(Am (.int .u64 ((t:Int):Int))),(Am (.int .u64 (d1:Int))),(Am (.int .u64 ((t / d1:Nat):Int))),(Am (.int .u64 ((t % d1:Nat):Int))),(Am (.slice (some (⟨g,i,none⟩:Addr)) (n+1) cap)),(Am (.slice (some bd) n cd)),(Am (.int .i64 (n:Int))),(Am (.int .u64 (d2:Int)))] [] ⟨[(0,(.ref 4)),(1,(.ref 5)),(4,(.int .u32 0)),(5,(.ref 6)),(6,(.ref 0)),(7,(.ref 1)),(8,(.ref 7))],[]⟩ ⟨[(0,(.ref 4)),(1,(.ref 5)),(4,(.int .u32 0)),(5,(.ref 6)),(6,(.ref 0)),(7,(.ref 1)),(8,(.ref 7)),(9,(.ref 2)),(10,(.ref 3))],[]⟩ Wb 4 zT true:=RA.of
   { pures:=[p2 (.bin .quo 112 112) (.ref 0) (.ref 1) (.ref 2) λ_ _ _ _ _ hx hy=>tK (by omega) (z:=((t / d1:Nat):Int)) (by rw [Int.tdiv_eq_ediv_of_nonneg (by omega),← Int.natCast_ediv]; exact Bl _ (Nat.lt_of_le_of_lt (Nat.div_le_self _ _) ht64)) hx hy,
      p2 (.bin .rem 112 112) (.ref 0) (.ref 1) (.ref 3) λ_ _ _ _ _ hx hy=>AgB (by omega) (z:=((t % d1:Nat):Int)) (by rw [Int.tmod_eq_emod_of_nonneg (by omega),← Int.natCast_emod]) hx hy] } (by kernel_rfl)
theorem yF{q r:Nat}(hq0:0<q)(hq1:q≤4294967297)(hr:r≤4294967295)(c1:4294967295<q):RA 70 [(Am (.int .u64 (q:Int))),(Am (.slice (some (⟨g,i,none⟩:Addr)) (n+1) cap)),(Am (.slice (some bd) n cd)),(Am (.int .i64 (n:Int))),(Am (.int .u64 ((t:Int):Int))),(Am (.int .u64 (d1:Int))),(Am (.int .u64 (d2:Int))),(Am (.int .u64 (r:Int)))] [] ⟨[(0,(.ref 1)),(1,(.ref 2)),(4,(.int .u32 0)),(5,(.ref 3)),(6,(.ref 4)),(7,(.ref 5)),(8,(.ref 6)),(9,(.ref 0)),(10,(.ref 7))],[]⟩ ⟨[(0,(.ref 1)),(1,(.ref 2)),(4,(.int .u32 0)),(5,(.ref 3)),(6,(.ref 4)),(7,(.ref 5)),(8,(.ref 6)),(9,(.ref 0)),(10,(.ref 7)),(60,(.bool true))],[]⟩ Wb 5 WX false:=RA.of
   { pures:=[p2 (.bin .gtr 112 112) (.ref 0) (.int .u64 4294967295) (.bool true) λ_ _ _ _ _ hx hy=>ES (r:=true) (by simp; omega) hx hy] } (by kernel_rfl)
theorem Wj{q r:Nat}(hq0:0<q)(hq1:q≤4294967297):RA 70 [(Am (.int .u64 (q:Int))),(Am (.int .u64 ((q - 1:Nat):Int))),(Am (.slice (some (⟨g,i,none⟩:Addr)) (n+1) cap)),(Am (.slice (some bd) n cd)),(Am (.int .i64 (n:Int))),(Am (.int .u64 ((t:Int):Int))),(Am (.int .u64 (d1:Int))),(Am (.int .u64 (d2:Int))),(Am (.int .u64 (r:Int)))] [] ⟨[(0,(.ref 2)),(1,(.ref 3)),(4,(.int .u32 0)),(5,(.ref 4)),(6,(.ref 5)),(7,(.ref 6)),(8,(.ref 7)),(9,(.ref 0)),(10,(.ref 8)),(60,(.bool true))],[]⟩ ⟨[(0,(.ref 2)),(1,(.ref 3)),(4,(.int .u32 0)),(5,(.ref 4)),(6,(.ref 5)),(7,(.ref 6)),(8,(.ref 7)),(9,(.ref 1)),(10,(.ref 8)),(60,(.bool true))],[]⟩ Wb 6 zN false:=RA.of
   { pures:=[p2 (.bin .sub 112 112) (.ref 0) (.int .u64 1) (.ref 1) λ_ _ _ _ _ hx hy=>KB (z:=((q - 1:Nat):Int)) (by rw [IntKind.wrap_u64]; omega) hx hy] } (by kernel_rfl)
theorem WB{q r:Nat}(hq0:0<q)(hq1:q≤4294967297)(hr:r≤4294967295):RA 70 [(Am (.int .u64 (r:Int))),(Am (.int .u64 (d1:Int))),(Am (.int .u64 ((r+d1:Nat):Int))),(Am (.slice (some (⟨g,i,none⟩:Addr)) (n+1) cap)),(Am (.slice (some bd) n cd)),(Am (.int .i64 (n:Int))),(Am (.int .u64 ((t:Int):Int))),(Am (.int .u64 (d2:Int))),(Am (.int .u64 ((q - 1:Nat):Int)))] [] ⟨[(0,(.ref 3)),(1,(.ref 4)),(4,(.int .u32 0)),(5,(.ref 5)),(6,(.ref 6)),(7,(.ref 1)),(8,(.ref 7)),(9,(.ref 8)),(10,(.ref 0)),(60,(.bool true))],[]⟩ ⟨[(0,(.ref 3)),(1,(.ref 4)),(4,(.int .u32 0)),(5,(.ref 5)),(6,(.ref 6)),(7,(.ref 1)),(8,(.ref 7)),(9,(.ref 8)),(10,(.ref 2)),(60,(.bool true))],[]⟩ Wb 7 xZ false:=RA.of
   { pures:=[p2 (.bin .add 112 112) (.ref 0) (.ref 1) (.ref 2) λ_ _ _ _ _ hx hy=>Aaz (z:=((r+d1:Nat):Int)) (by rw [IntKind.wrap_u64]; omega) hx hy] } (by kernel_rfl)
theorem Aaf{q r:Nat}(hq0:0<q)(hq1:q≤4294967297)(hr:r≤4294967295)(hbk:4294967295<r+d1):RA 70 [(Am (.int .u64 ((r+d1:Nat):Int))),(Am (.slice (some (⟨g,i,none⟩:Addr)) (n+1) cap)),(Am (.slice (some bd) n cd)),(Am (.int .i64 (n:Int))),(Am (.int .u64 ((t:Int):Int))),(Am (.int .u64 (d1:Int))),(Am (.int .u64 (d2:Int))),(Am (.int .u64 ((q - 1:Nat):Int)))] [] ⟨[(0,(.ref 1)),(1,(.ref 2)),(4,(.int .u32 0)),(5,(.ref 3)),(6,(.ref 4)),(7,(.ref 5)),(8,(.ref 6)),(9,(.ref 7)),(10,(.ref 0)),(60,(.bool true))],[]⟩ ⟨[(0,(.ref 1)),(1,(.ref 2)),(4,(.int .u32 0)),(5,(.ref 3)),(6,(.ref 4)),(7,(.ref 5)),(8,(.ref 6)),(9,(.ref 7)),(10,(.ref 0)),(60,(.bool true)),(67,(.bool true))],[]⟩ Wb 8 jF false:=RA.of
   { pures:=[p2 (.bin .gtr 112 112) (.ref 0) (.int .u64 4294967295) (.bool true) λ_ _ _ _ _ hx hy=>ES (r:=true) (by simp; omega) hx hy] } (by kernel_rfl)
theorem yR{q2 r2:Nat}(k1:q2<4294967296):RA 70 [(Am (.int .u64 (q2:Int))),(Am (.int .u32 (q2:Int))),(Am (.slice (some (⟨g,i,none⟩:Addr)) (n+1) cap)),(Am (.slice (some bd) n cd)),(Am (.int .i64 (n:Int))),(Am (.int .u64 ((t:Int):Int))),(Am (.int .u64 (d1:Int))),(Am (.int .u64 (d2:Int))),(Am (.int .u64 (r2:Int)))] [] ⟨[(0,(.ref 2)),(1,(.ref 3)),(4,(.int .u32 0)),(5,(.ref 4)),(6,(.ref 5)),(7,(.ref 6)),(8,(.ref 7)),(9,(.ref 0)),(10,(.ref 8)),(60,(.bool true)),(67,(.bool true))],[]⟩ ⟨[(0,(.ref 2)),(1,(.ref 3)),(4,(.ref 1)),(5,(.ref 4)),(6,(.ref 5)),(7,(.ref 6)),(8,(.ref 7)),(9,(.ref 0)),(10,(.ref 8)),(60,(.bool true)),(67,(.bool true))],[]⟩ Wb 9 nH false:=RA.of
   { pures:=[p1 (.conv 112 114) (.ref 0) (.ref 1) λ_ _ _ _ hx=>SM (z:=(q2:Int)) (by rw [IntKind.wrap_u32]; omega) hx] } (by kernel_rfl)
theorem gQ{q r:Nat}(hq0:0<q)(hq1:q≤4294967297)(hr:r≤4294967295)(hnb2:r+d1≤4294967295):RA 70 [(Am (.int .u64 ((r+d1:Nat):Int))),(Am (.slice (some (⟨g,i,none⟩:Addr)) (n+1) cap)),(Am (.slice (some bd) n cd)),(Am (.int .i64 (n:Int))),(Am (.int .u64 ((t:Int):Int))),(Am (.int .u64 (d1:Int))),(Am (.int .u64 (d2:Int))),(Am (.int .u64 ((q - 1:Nat):Int)))] [] ⟨[(0,(.ref 1)),(1,(.ref 2)),(4,(.int .u32 0)),(5,(.ref 3)),(6,(.ref 4)),(7,(.ref 5)),(8,(.ref 6)),(9,(.ref 7)),(10,(.ref 0)),(60,(.bool true))],[]⟩ ⟨[(0,(.ref 1)),(1,(.ref 2)),(4,(.int .u32 0)),(5,(.ref 3)),(6,(.ref 4)),(7,(.ref 5)),(8,(.ref 6)),(9,(.ref 7)),(10,(.ref 0)),(60,(.bool true)),(67,(.bool false))],[]⟩ Wb 8 jF false:=RA.of
   { pures:=[p2 (.bin .gtr 112 112) (.ref 0) (.int .u64 4294967295) (.bool false) λ_ _ _ _ _ hx hy=>ES (r:=false) (by simp; omega) hx hy] } (by kernel_rfl)
theorem aR{q r:Nat}(hq0:0<q)(hq1:q≤4294967297)(hr:r≤4294967295)(c1n:q≤4294967295)(c2:r*4294967296+pn2<q*d2):RA 70 [(Am (.int .u64 (q:Int))),(Am (.int .u64 (d2:Int))),(Am (.int .u64 ((q*d2:Nat):Int))),(Am (.int .u64 (r:Int))),(Am (.int .u64 ((r*4294967296:Nat):Int))),(Am (.int .i64 (n:Int))),(Am (.int .i64 ((n - 2:Nat):Int))),(Am (.slice (some (⟨g,i,none⟩:Addr)) (n+1) cap)),(Am (.pointer (some (((⟨g,i,none⟩:Addr)).add (n - 2))))),(Am (.int .u32 (pn2:Int))),(Am (.int .u64 (pn2:Int))),(Am (.int .u64 (((r*4294967296+pn2:Nat):Int):Int))),(Am (.slice (some bd) n cd)),(Am (.int .u64 ((t:Int):Int))),(Am (.int .u64 (d1:Int)))] [] ⟨[(0,(.ref 7)),(1,(.ref 12)),(4,(.int .u32 0)),(5,(.ref 5)),(6,(.ref 13)),(7,(.ref 14)),(8,(.ref 1)),(9,(.ref 0)),(10,(.ref 3))],[]⟩ ⟨[(0,(.ref 7)),(1,(.ref 12)),(4,(.int .u32 0)),(5,(.ref 5)),(6,(.ref 13)),(7,(.ref 14)),(8,(.ref 1)),(9,(.ref 0)),(10,(.ref 3)),(60,(.bool true))],[]⟩ Wb 5 WX false:=RA.of
   { pures:=[p2 (.bin .gtr 112 112) (.ref 0) (.int .u64 4294967295) (.bool false) λ_ _ _ _ _ hx hy=>ES (r:=false) (by simp; omega) hx hy,
      p2 (.bin .mul 112 112) (.ref 0) (.ref 1) (.ref 2) λ_ _ _ _ _ hx hy=>TB (z:=((q*d2:Nat):Int)) (by rw [← Int.natCast_mul,IntKind.wrap_u64]; have:=DP (show q<4294967296 by omega) bd2; omega) hx hy,
      p2 (.bin .shl 112 71) (.ref 3) (.int .u64 32) (.ref 4) λ_ _ _ _ _ hx hy=>Qz (z:=((r*4294967296:Nat):Int)) (by rw [IntKind.wrap_u64]; omega) hx hy,
      p2 (.bin .sub 3 3) (.ref 5) (.int .i64 2) (.ref 6) λ_ _ _ _ _ hx hy=>KB (z:=((n - 2:Nat):Int)) (by rw [IntKind.wrap_i64]; omega) hx hy,
      p2 (.idx 32) (.ref 7) (.ref 6) (.ref 8) λ_ _ _ _ _ hx hy=>Jc (k:=n - 2) (by omega) hx hy,
      p1 (.ld 114) (.ref 8) (.ref 9) λ_ _ _ hb hx=>Eo cp2 hb Cn hx,
      p1 (.conv 114 112) (.ref 9) (.ref 10) λ_ _ _ _ hx=>C2 (by omega) (by omega) hx,
      p2 (.bin .or 112 112) (.ref 4) (.ref 10) (.ref 11) λ_ _ _ _ _ hx hy=>Uf (z:=(((r*4294967296+pn2:Nat):Int):Int)) (by rw [show ((r*4294967296:Nat):Int)=(r:Int)*4294967296 from by omega]; exact Ff r pn2 (by omega) bp2) hx hy,
      p2 (.bin .gtr 112 112) (.ref 2) (.ref 11) (.bool true) λ_ _ _ _ _ hx hy=>ES (r:=true) (by simp; omega) hx hy] } (by kernel_rfl)
theorem AdY{q r:Nat}(hq1:q≤4294967297)(hr:r≤4294967295)(c1n:q≤4294967295)(c2n:q*d2≤r*4294967296+pn2):RA 70 [(Am (.int .u64 (q:Int))),(Am (.int .u64 (d2:Int))),(Am (.int .u64 ((q*d2:Nat):Int))),(Am (.int .u64 (r:Int))),(Am (.int .u64 ((r*4294967296:Nat):Int))),(Am (.int .i64 (n:Int))),(Am (.int .i64 ((n - 2:Nat):Int))),(Am (.slice (some (⟨g,i,none⟩:Addr)) (n+1) cap)),(Am (.pointer (some (((⟨g,i,none⟩:Addr)).add (n - 2))))),(Am (.int .u32 (pn2:Int))),(Am (.int .u64 (pn2:Int))),(Am (.int .u64 (((r*4294967296+pn2:Nat):Int):Int))),(Am (.slice (some bd) n cd)),(Am (.int .u64 ((t:Int):Int))),(Am (.int .u64 (d1:Int)))] [] ⟨[(0,(.ref 7)),(1,(.ref 12)),(4,(.int .u32 0)),(5,(.ref 5)),(6,(.ref 13)),(7,(.ref 14)),(8,(.ref 1)),(9,(.ref 0)),(10,(.ref 3))],[]⟩ ⟨[(0,(.ref 7)),(1,(.ref 12)),(4,(.int .u32 0)),(5,(.ref 5)),(6,(.ref 13)),(7,(.ref 14)),(8,(.ref 1)),(9,(.ref 0)),(10,(.ref 3)),(60,(.bool false))],[]⟩ Wb 5 WX false:=RA.of
   { pures:=[p2 (.bin .gtr 112 112) (.ref 0) (.int .u64 4294967295) (.bool false) λ_ _ _ _ _ hx hy=>ES (r:=false) (by simp; omega) hx hy,
      p2 (.bin .mul 112 112) (.ref 0) (.ref 1) (.ref 2) λ_ _ _ _ _ hx hy=>TB (z:=((q*d2:Nat):Int)) (by rw [← Int.natCast_mul,IntKind.wrap_u64]; have:=DP (show q<4294967296 by omega) bd2; omega) hx hy,
      p2 (.bin .shl 112 71) (.ref 3) (.int .u64 32) (.ref 4) λ_ _ _ _ _ hx hy=>Qz (z:=((r*4294967296:Nat):Int)) (by rw [IntKind.wrap_u64]; omega) hx hy,
      p2 (.bin .sub 3 3) (.ref 5) (.int .i64 2) (.ref 6) λ_ _ _ _ _ hx hy=>KB (z:=((n - 2:Nat):Int)) (by rw [IntKind.wrap_i64]; omega) hx hy,
      p2 (.idx 32) (.ref 7) (.ref 6) (.ref 8) λ_ _ _ _ _ hx hy=>Jc (k:=n - 2) (by omega) hx hy,
      p1 (.ld 114) (.ref 8) (.ref 9) λ_ _ _ hb hx=>Eo cp2 hb Cn hx,
      p1 (.conv 114 112) (.ref 9) (.ref 10) λ_ _ _ _ hx=>C2 (by omega) (by omega) hx,
      p2 (.bin .or 112 112) (.ref 4) (.ref 10) (.ref 11) λ_ _ _ _ _ hx hy=>Uf (z:=(((r*4294967296+pn2:Nat):Int):Int)) (by rw [show ((r*4294967296:Nat):Int)=(r:Int)*4294967296 from by omega]; exact Ff r pn2 (by omega) bp2) hx hy,
      p2 (.bin .gtr 112 112) (.ref 2) (.ref 11) (.bool false) λ_ _ _ _ _ hx hy=>ES (r:=false) (by simp; omega) hx hy] } (by kernel_rfl)
theorem AcS{q r:Nat}(k1:q<4294967296):RA 70 [(Am (.int .u64 (q:Int))),(Am (.int .u32 (q:Int))),(Am (.slice (some (⟨g,i,none⟩:Addr)) (n+1) cap)),(Am (.slice (some bd) n cd)),(Am (.int .i64 (n:Int))),(Am (.int .u64 ((t:Int):Int))),(Am (.int .u64 (d1:Int))),(Am (.int .u64 (d2:Int))),(Am (.int .u64 (r:Int)))] [] ⟨[(0,(.ref 2)),(1,(.ref 3)),(4,(.int .u32 0)),(5,(.ref 4)),(6,(.ref 5)),(7,(.ref 6)),(8,(.ref 7)),(9,(.ref 0)),(10,(.ref 8)),(60,(.bool false))],[]⟩ ⟨[(0,(.ref 2)),(1,(.ref 3)),(4,(.ref 1)),(5,(.ref 4)),(6,(.ref 5)),(7,(.ref 6)),(8,(.ref 7)),(9,(.ref 0)),(10,(.ref 8)),(60,(.bool false))],[]⟩ Wb 9 nH false:=RA.of
   { pures:=[p1 (.conv 112 114) (.ref 0) (.ref 1) λ_ _ _ _ hx=>SM (z:=(q:Int)) (by rw [IntKind.wrap_u32]; omega) hx] } (by kernel_rfl)
end
theorem Zc(g i n cap cd pn pn1 pn2 d1 d2 t Qt:Nat)(bd:Addr)(W:World)(hn:2≤n)(hnb:n≤1099511627776)(cp:W.cell? ((⟨g,i,none⟩:Addr).add n)=some (.int .u32 (pn:Int)))(cp1:W.cell? ((⟨g,i,none⟩:Addr).add (n - 1))=some (.int .u32 (pn1:Int)))(cp2:W.cell? ((⟨g,i,none⟩:Addr).add (n - 2))=some (.int .u32 (pn2:Int)))(cd1:W.cell? (bd.add (n - 1))=some (.int .u32 (d1:Int)))(cd2:W.cell? (bd.add (n - 2))=some (.int .u32 (d2:Int)))(bp:pn<4294967296)(bp1:pn1<4294967296)(bp2:pn2<4294967296)(bd1:d1<4294967296)(bd2:d2<4294967296)(hd:2147483648≤d1)(ht:pn*4294967296+pn1=t)(ht64:t<18446744073709551616)(hle:pn≤d1)(hQb:Qt<4294967296)(hq0:Qt≤t / d1)(hQ:∀ q,t*4294967296+pn2<q*(d1*4294967296+d2)→Qt<q) :
  Calls Tryz.prog 145 #[.slice (some ⟨g,i,none⟩) (n+1) cap,.slice (some bd) n cd] W (Aj (AcH Qt (d1*4294967296+d2) (t*4294967296+pn2)) W):=by
 refine Dh (S:=[(0,(Am (.slice (some (⟨g,i,none⟩:Addr)) (n+1) cap))),(1,(Am (.slice (some bd) n cd)))]) Tryz.func145 (by kernel_rfl) Tryz.ntmps145 (by simp) (λx hx=>?_) λa w hst=>?_
 ·simp only [List.mem_cons,List.not_mem_nil,or_false] at hx
  rcases hx with rfl | rfl
  ·exact ⟨_,rfl,rfl⟩
  ·exact ⟨_,rfl,rfl⟩
 show Code.wp _ Xq _ a w;rw [Agg];refine wp_seq ?_;rw [Ag9];refine (AgC hn hnb cp cp1 cp2 cd1 cd2 bp bp1 bp2 bd1 bd2 hd ht ht64).run hst ?_;clear hst;intro a w hst;show Code.wp _ RM _ a w;rw [AeU];refine wp_seq ?_;rw [Afj];refine (AfH hn hnb cp cp1 cp2 cd1 cd2 bp bp1 bp2 bd1 bd2 hd ht ht64).run hst ?_;clear hst;intro a w hst;show Code.wp _ SH _ a w;rw [AeR];refine wp_seq ?_;rw [AeO];refine (AgA hn hnb cp cp1 cp2 cd1 cd2 bp bp1 bp2 bd1 bd2 hd ht ht64).run hst ?_;clear hst;intro a w hst;show Code.wp _ R_ _ a w;rw [Agt];refine wp_seq ?_;rw [AeH];refine (Ahu hn hnb cp cp1 cp2 cd1 cd2 bp bp1 bp2 bd1 bd2 hd ht ht64).run hst ?_;clear hst;intro a w hst;show Code.wp _ TI _ a w;rw [AhM];refine wp_seq ?_;rw [Aff];refine (Agd hn hnb cp cp1 cp2 cd1 cd2 bp bp1 bp2 bd1 bd2 hd ht ht64).run hst ?_;clear hst;intro a w hst;show Code.wp _ M9 _ a w;rw [Ad5];refine wp_seq ?_;rw [AbX];refine wp_block ?_;show Code.wp _ Rv _ a w;rw [Adp];obtain ⟨g1,g2,g3,_⟩:=YS ht bp1 hle hd bd1;refine CO (fun (x:Nat × Nat) a w=>St W 70 [(0,(Am (.slice (some (⟨g,i,none⟩:Addr)) (n+1) cap))),(1,(Am (.slice (some bd) n cd))),(4,(Am (.int .u32 0))),(5,(Am (.int .i64 (n:Int)))),(6,(Am (.int .u64 ((t:Int):Int)))),(7,(Am (.int .u64 (d1:Int)))),(8,(Am (.int .u64 (d2:Int)))),(9,(Am (.int .u64 (x.1:Int)))),(10,(Am (.int .u64 (x.2:Int))))] [] a w∧x.1*d1+x.2=t∧Qt≤x.1∧x.2≤4294967295∧x.1≤4294967297) (λx=>x.1) ?_ (t / d1,t % d1) ⟨hst,g2,hq0,by show t % d1≤_; omega,g1⟩
 rintro ⟨q,r⟩ a w ⟨hst,hqr,hQq,hr,hq1⟩
 simp only [] at hst hqr hQq hr hq1;show Code.wp _ Np _ a w
 rcases Nat.lt_or_ge 4294967295 q with c1 | c1n
 ·have hQl:Qt<q:=by omega
  have hq0:0<q:=by omega
  rcases Nat.lt_or_ge 4294967295 (r+d1) with hbk | hnb2
  ·rw [Ms]
   refine wp_seq ?_;rw [Ng];refine wp_seq ?_;rw [Nk];refine (yF hn hnb cp cp1 cp2 cd1 cd2 bp bp1 bp2 bd1 bd2 hd ht ht64 hq0 hq1 hr c1).run hst ?_;clear hst;intro a w hst;show Code.wp _ Ga _ a w;rw [LY];refine wp_cond_true (A7 hst 9 rfl) ?_;show Code.wp _ Ks _ a w;rw [QC];refine wp_skip ?_;show Code.wp _ IS _ a w;rw [Qj];refine wp_block ?_;show Code.wp _ GO _ a w;rw [P4];refine wp_seq ?_;rw [Pg];refine (Wj hn hnb cp cp1 cp2 cd1 cd2 bp bp1 bp2 bd1 bd2 hd ht ht64 hq0 hq1).run hst ?_;clear hst;intro a w hst;show Code.wp _ Gr _ a w;rw [Rh];refine wp_seq ?_;rw [QD];refine (WB hn hnb cp cp1 cp2 cd1 cd2 bp bp1 bp2 bd1 bd2 hd ht ht64 hq0 hq1 hr).run hst ?_;clear hst;intro a w hst;show Code.wp _ Gs _ a w;rw [Qi];refine wp_seq ?_;rw [Py];refine (Aaf hn hnb cp cp1 cp2 cd1 cd2 bp bp1 bp2 bd1 bd2 hd ht ht64 hq0 hq1 hr hbk).run hst ?_;clear hst;intro a w hst;show Code.wp _ Gx _ a w;rw [QV];refine wp_cond_true (A7 hst 10 rfl) ?_;show Code.wp _ PD _ a w;rw [bA];refine wp_exit ?_;obtain ⟨k1,k2⟩:=OU (pn2:=pn2) (DW hqr hq0) ht bp1 hle (by omega) bd2 (show 4294967296≤r+d1 by omega);generalize hq2:q - 1=q2 at *;generalize hr2:r+d1=r2 at *;have hqr2:=DW hqr hq0;rw [hq2,hr2] at hqr2;show Code.wp _ IG _ a w;rw [T4];refine wp_seq ?_;rw [TZ];refine (yR hn hnb cp cp1 cp2 cd1 cd2 bp bp1 bp2 bd1 bd2 hd ht ht64 k1).run hst ?_;clear hst;intro a w hst;show Code.wp _ MK _ a w;rw [Ug];refine wp_ret ?_;exact Ir hst rfl 2 rfl (λv w h=>⟨q2,h,k1,by omega,LP hqr2 k2⟩)
  ·rw [Ms]
   refine wp_seq ?_;rw [Ng];refine wp_seq ?_;rw [Nk];refine (yF hn hnb cp cp1 cp2 cd1 cd2 bp bp1 bp2 bd1 bd2 hd ht ht64 hq0 hq1 hr c1).run hst ?_;clear hst;intro a w hst;show Code.wp _ Ga _ a w;rw [LY];refine wp_cond_true (A7 hst 9 rfl) ?_;show Code.wp _ Ks _ a w;rw [QC];refine wp_skip ?_;show Code.wp _ IS _ a w;rw [Qj];refine wp_block ?_;show Code.wp _ GO _ a w;rw [P4];refine wp_seq ?_;rw [Pg];refine (Wj hn hnb cp cp1 cp2 cd1 cd2 bp bp1 bp2 bd1 bd2 hd ht ht64 hq0 hq1).run hst ?_;clear hst;intro a w hst;show Code.wp _ Gr _ a w;rw [Rh];refine wp_seq ?_;rw [QD];refine (WB hn hnb cp cp1 cp2 cd1 cd2 bp bp1 bp2 bd1 bd2 hd ht ht64 hq0 hq1 hr).run hst ?_;clear hst;intro a w hst;show Code.wp _ Gs _ a w;rw [Qi];refine wp_seq ?_;rw [Py];refine (gQ hn hnb cp cp1 cp2 cd1 cd2 bp bp1 bp2 bd1 bd2 hd ht ht64 hq0 hq1 hr hnb2).run hst ?_;clear hst;intro a w hst;show Code.wp _ Gx _ a w;rw [QV];refine wp_cond_false (A7 hst 10 rfl) ?_;show Code.wp _ O9 _ a w;rw [cA];refine wp_skip ?_;exact ⟨(q - 1,r+d1),⟨(hst.to ⟨hst.slots.get (k:=0) rfl,hst.slots.get (k:=1) rfl,hst.slots.get (k:=2) rfl,hst.slots.get (k:=3) rfl,hst.slots.get (k:=4) rfl,hst.slots.get (k:=5) rfl,hst.slots.get (k:=6) rfl,hst.slots.get (k:=7) rfl,hst.slots.get (k:=8) rfl,trivial⟩),DW hqr hq0,by show Qt≤q - 1; omega,by show r+d1≤_; omega,by show q - 1≤_; omega⟩,by show q - 1<q; omega⟩
 ·rcases Nat.lt_or_ge (r*4294967296+pn2) (q*d2) with c2 | c2n
  ·have hQl:Qt<q:=YI hqr hQ c2
   have hq0:0<q:=by omega
   rcases Nat.lt_or_ge 4294967295 (r+d1) with hbk | hnb2
   ·rw [Ms]
    refine wp_seq ?_;rw [Ng];refine wp_seq ?_;rw [Nk];refine (aR hn hnb cp cp1 cp2 cd1 cd2 bp bp1 bp2 bd1 bd2 hd ht ht64 hq0 hq1 hr c1n c2).run hst ?_;clear hst;intro a w hst;show Code.wp _ Ga _ a w;rw [LY];refine wp_cond_true (A7 hst 9 rfl) ?_;show Code.wp _ Ks _ a w;rw [QC];refine wp_skip ?_;show Code.wp _ IS _ a w;rw [Qj];refine wp_block ?_;show Code.wp _ GO _ a w;rw [P4];refine wp_seq ?_;rw [Pg];refine (Wj hn hnb cp cp1 cp2 cd1 cd2 bp bp1 bp2 bd1 bd2 hd ht ht64 hq0 hq1).run hst ?_;clear hst;intro a w hst;show Code.wp _ Gr _ a w;rw [Rh];refine wp_seq ?_;rw [QD];refine (WB hn hnb cp cp1 cp2 cd1 cd2 bp bp1 bp2 bd1 bd2 hd ht ht64 hq0 hq1 hr).run hst ?_;clear hst;intro a w hst;show Code.wp _ Gs _ a w;rw [Qi];refine wp_seq ?_;rw [Py];refine (Aaf hn hnb cp cp1 cp2 cd1 cd2 bp bp1 bp2 bd1 bd2 hd ht ht64 hq0 hq1 hr hbk).run hst ?_;clear hst;intro a w hst;show Code.wp _ Gx _ a w;rw [QV];refine wp_cond_true (A7 hst 10 rfl) ?_;show Code.wp _ PD _ a w;rw [bA];refine wp_exit ?_;obtain ⟨k1,k2⟩:=OU (pn2:=pn2) (DW hqr hq0) ht bp1 hle (by omega) bd2 (show 4294967296≤r+d1 by omega);generalize hq2:q - 1=q2 at *;generalize hr2:r+d1=r2 at *;have hqr2:=DW hqr hq0;rw [hq2,hr2] at hqr2;show Code.wp _ IG _ a w;rw [T4];refine wp_seq ?_;rw [TZ];refine (yR hn hnb cp cp1 cp2 cd1 cd2 bp bp1 bp2 bd1 bd2 hd ht ht64 k1).run hst ?_;clear hst;intro a w hst;show Code.wp _ MK _ a w;rw [Ug];refine wp_ret ?_;exact Ir hst rfl 2 rfl (λv w h=>⟨q2,h,k1,by omega,LP hqr2 k2⟩)
   ·rw [Ms]
    refine wp_seq ?_;rw [Ng];refine wp_seq ?_;rw [Nk];refine (aR hn hnb cp cp1 cp2 cd1 cd2 bp bp1 bp2 bd1 bd2 hd ht ht64 hq0 hq1 hr c1n c2).run hst ?_;clear hst;intro a w hst;show Code.wp _ Ga _ a w;rw [LY];refine wp_cond_true (A7 hst 9 rfl) ?_;show Code.wp _ Ks _ a w;rw [QC];refine wp_skip ?_;show Code.wp _ IS _ a w;rw [Qj];refine wp_block ?_;show Code.wp _ GO _ a w;rw [P4];refine wp_seq ?_;rw [Pg];refine (Wj hn hnb cp cp1 cp2 cd1 cd2 bp bp1 bp2 bd1 bd2 hd ht ht64 hq0 hq1).run hst ?_;clear hst;intro a w hst;show Code.wp _ Gr _ a w;rw [Rh];refine wp_seq ?_;rw [QD];refine (WB hn hnb cp cp1 cp2 cd1 cd2 bp bp1 bp2 bd1 bd2 hd ht ht64 hq0 hq1 hr).run hst ?_;clear hst;intro a w hst;show Code.wp _ Gs _ a w;rw [Qi];refine wp_seq ?_;rw [Py];refine (gQ hn hnb cp cp1 cp2 cd1 cd2 bp bp1 bp2 bd1 bd2 hd ht ht64 hq0 hq1 hr hnb2).run hst ?_;clear hst;intro a w hst;show Code.wp _ Gx _ a w;rw [QV];refine wp_cond_false (A7 hst 10 rfl) ?_;show Code.wp _ O9 _ a w;rw [cA];refine wp_skip ?_;exact ⟨(q - 1,r+d1),⟨(hst.to ⟨hst.slots.get (k:=0) rfl,hst.slots.get (k:=1) rfl,hst.slots.get (k:=2) rfl,hst.slots.get (k:=3) rfl,hst.slots.get (k:=4) rfl,hst.slots.get (k:=5) rfl,hst.slots.get (k:=6) rfl,hst.slots.get (k:=7) rfl,hst.slots.get (k:=8) rfl,trivial⟩),DW hqr hq0,by show Qt≤q - 1; omega,by show r+d1≤_; omega,by show q - 1≤_; omega⟩,by show q - 1<q; omega⟩
  ·rw [Ms]
   refine wp_seq ?_;rw [Ng];refine wp_seq ?_;rw [Nk];refine (AdY hn hnb cp cp1 cp2 cd1 cd2 bp bp1 bp2 bd1 bd2 hd ht ht64 hq1 hr c1n c2n).run hst ?_;clear hst;intro a w hst;show Code.wp _ Ga _ a w;rw [LY];refine wp_cond_false (A7 hst 9 rfl) ?_;show Code.wp _ Ut _ a w;rw [Abn];refine wp_exit ?_;have k1:q<4294967296:=by omega
   have k2:q*d2≤r*4294967296+pn2:=by omega
   have hqr2:=hqr;show Code.wp _ IG _ a w;rw [T4];refine wp_seq ?_;rw [TZ];refine (AcS hn hnb cp cp1 cp2 cd1 cd2 bp bp1 bp2 bd1 bd2 hd ht ht64 k1).run hst ?_;clear hst;intro a w hst;show Code.wp _ MK _ a w;rw [Ug];refine wp_ret ?_;exact Ir hst rfl 2 rfl (λv w h=>⟨q,h,k1,by omega,LP hqr2 k2⟩)
end Go.Proofs.YtegaedfdddapnaaGreat
