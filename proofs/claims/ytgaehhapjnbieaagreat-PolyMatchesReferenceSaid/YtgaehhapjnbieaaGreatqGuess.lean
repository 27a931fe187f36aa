/- integer.guess (written by wip/tools/gen_guess.py). -/
import Derived.Test.YtgaehhapjnbieaaGreatqOps2
set_option linter.unusedSectionVars false
set_option linter.unusedVariables false
set_option linter.unusedSimpArgs false
set_option maxRecDepth 100000
namespace Go.Proofs.YtgaehhapjnbieaaGreat
open Go.RowKit
def Aig(Qt D T:Nat):PF:=⟨λv _=>∃ q:Nat,v = .int .u32 (q:Int)∧q<4294967296∧Qt≤q∧q*D≤T,λ_ _ _ _ h=>h⟩
noncomputable def iQ:=Bw Tryz.f158
noncomputable def wN:=cl iQ
noncomputable def VV:=cr iQ
theorem Aof:iQ = .seq wN VV:=by kernel_rfl
noncomputable def Ag9:=Bt wN
theorem AnZ:wN = .region 0 Ag9 false:=by kernel_rfl
noncomputable def tR:=cl VV
noncomputable def U_:=cr VV
theorem Arz:VV = .seq tR U_:=by kernel_rfl
noncomputable def Ahe:=Bt tR
theorem ApT:tR = .region 1 Ahe false:=by kernel_rfl
noncomputable def Aal:=cl U_
noncomputable def Xk:=cr U_
theorem Ash:U_ = .seq Aal Xk:=by kernel_rfl
noncomputable def Agr:=Bt Aal
theorem Arq:Aal = .region 2 Agr true:=by kernel_rfl
noncomputable def uC:=cl Xk
noncomputable def Xg:=cr Xk
theorem Aqo:Xk = .seq uC Xg:=by kernel_rfl
noncomputable def Aho:=Bt uC
theorem AoF:uC = .region 3 Aho true:=by kernel_rfl
noncomputable def AaF:=cl Xg
noncomputable def Ow:=cr Xg
theorem Aqx:Xg = .seq AaF Ow:=by kernel_rfl
noncomputable def Ag5:=Bt AaF
theorem AmA:AaF = .region 4 Ag5 true:=by kernel_rfl
noncomputable def YM:=cl Ow
noncomputable def J8:=cr Ow
theorem AiU:Ow = .seq YM J8:=by kernel_rfl
noncomputable def UE:=cl YM
theorem Ait:YM = .block 0 UE:=by kernel_rfl
noncomputable def Pt:=cl UE
theorem AlK:UE = .loop Pt:=by kernel_rfl
noncomputable def SD:=cl Pt
noncomputable def J7:=cr Pt
theorem Oy:Pt = .seq SD J7:=by kernel_rfl
noncomputable def Zs:=cl SD
noncomputable def HJ:=cr SD
theorem PI:SD = .seq Zs HJ:=by kernel_rfl
noncomputable def cZ:=Bt Zs
theorem OG:Zs = .region 5 cZ false:=by kernel_rfl
noncomputable def LR:=cl HJ
noncomputable def Yn:=cr HJ
theorem Pw:HJ = .cond (.tmp 60) LR Yn:=by kernel_rfl
theorem Uu:LR = .skip:=by kernel_rfl
theorem Aiw:Yn = .exit 0:=by kernel_rfl
noncomputable def Is:=cl J7
theorem S7:J7 = .block 1 Is:=by kernel_rfl
noncomputable def X6:=cl Is
noncomputable def IQ:=cr Is
theorem UJ:Is = .seq X6 IQ:=by kernel_rfl
noncomputable def AgQ:=Bt X6
theorem TR:X6 = .region 6 AgQ false:=by kernel_rfl
noncomputable def Zk:=cl IQ
noncomputable def Iq:=cr IQ
theorem Sc:IQ = .seq Zk Iq:=by kernel_rfl
noncomputable def Agt:=Bt Zk
theorem Ug:Zk = .region 7 Agt false:=by kernel_rfl
noncomputable def ZV:=cl Iq
noncomputable def Im:=cr Iq
theorem Tl:Iq = .seq ZV Im:=by kernel_rfl
noncomputable def vJ:=Bt ZV
theorem SI:ZV = .region 8 vJ false:=by kernel_rfl
noncomputable def UM:=cl Im
noncomputable def Uv:=cr Im
theorem Tw:Im = .cond (.tmp 67) UM Uv:=by kernel_rfl
theorem xB:UM = .exit 0:=by kernel_rfl
theorem yS:Uv = .skip:=by kernel_rfl
noncomputable def ZX:=cl J8
noncomputable def PY:=cr J8
theorem aG:J8 = .seq ZX PY:=by kernel_rfl
noncomputable def Aay:=Bt ZX
theorem Z2:ZX = .region 9 Aay false:=by kernel_rfl
theorem YC:PY = .ret:=by kernel_rfl
section
set_option linter.unusedSectionVars false
variable {Wb : World} {g i n cap cd pn pn1 pn2 d1 d2 t : Nat} {bd : Addr} (hn : 2 ≤ n) (hnb : n ≤ 1099511627776) (cp : Wb.cell? ((⟨g, i, none⟩ : Addr).add n) = some (.int .u32 (pn : Int))) (cp1 : Wb.cell? ((⟨g, i, none⟩ : Addr).add (n - 1)) = some (.int .u32 (pn1 : Int))) (cp2 : Wb.cell? ((⟨g, i, none⟩ : Addr).add (n - 2)) = some (.int .u32 (pn2 : Int))) (cd1 : Wb.cell? (bd.add (n - 1)) = some (.int .u32 (d1 : Int))) (cd2 : Wb.cell? (bd.add (n - 2)) = some (.int .u32 (d2 : Int))) (bp : pn < 4294967296) (bp1 : pn1 < 4294967296) (bp2 : pn2 < 4294967296) (bd1 : d1 < 4294967296) (bd2 : d2 < 4294967296) (hd : 2147483648 ≤ d1) (ht : pn * 4294967296 + pn1 = t) (ht64 : t < 18446744073709551616)
include hn hnb cp cp1 cp2 cd1 cd2 bp bp1 bp2 bd1 bd2 hd ht ht64
theorem AnA:RA 70 [(Ap (.slice (some (⟨g,i,none⟩:Addr)) (n+1) cap)),(Ap (.slice (some bd) n cd))] [] ⟨[(0,(.ref 0)),(1,(.ref 1))],[]⟩ ⟨[(0,(.ref 0)),(1,(.ref 1)),(4,(.int .u32 0))],[]⟩ Wb 0 Ag9 false:=RA.of
   {  } (by kernel_rfl)
theorem Apo:RA 70 [(Ap (.slice (some bd) n cd)),(Ap (.int .i64 (n:Int))),(Ap (.slice (some (⟨g,i,none⟩:Addr)) (n+1) cap))] [] ⟨[(0,(.ref 2)),(1,(.ref 0)),(4,(.int .u32 0))],[]⟩ ⟨[(0,(.ref 2)),(1,(.ref 0)),(4,(.int .u32 0)),(5,(.ref 1))],[]⟩ Wb 1 Ahe false:=RA.of
   { pures:=[p1 (.blt .len [32]) (.ref 0) (.ref 1) λ_ _ _ _ hx=>RG hx] } (by kernel_rfl)
theorem Arg:RA 70 [(Ap (.slice (some (⟨g,i,none⟩:Addr)) (n+1) cap)),(Ap (.int .i64 (n:Int))),(Ap (.pointer (some (((⟨g,i,none⟩:Addr)).add (n))))),(Ap (.int .u32 (pn:Int))),(Ap (.int .u64 (pn:Int))),(Ap (.int .u64 ((pn*4294967296:Nat):Int))),(Ap (.int .i64 ((n - 1:Nat):Int))),(Ap (.pointer (some (((⟨g,i,none⟩:Addr)).add (n - 1))))),(Ap (.int .u32 (pn1:Int))),(Ap (.int .u64 (pn1:Int))),(Ap (.int .u64 ((t:Int):Int))),(Ap (.slice (some bd) n cd))] [] ⟨[(0,(.ref 0)),(1,(.ref 11)),(4,(.int .u32 0)),(5,(.ref 1))],[]⟩ ⟨[(0,(.ref 0)),(1,(.ref 11)),(4,(.int .u32 0)),(5,(.ref 1)),(6,(.ref 10))],[]⟩ Wb 2 Agr true:=RA.of
   { pures:=[p2 (.idx 32) (.ref 0) (.ref 1) (.ref 2) λ_ _ _ _ _ hx hy=>Kz (k:=n) (by omega) hx hy,
      p1 (.ld 109) (.ref 2) (.ref 3) λ_ _ _ hb hx=>FK cp hb Dd hx,
      p1 (.conv 109 107) (.ref 3) (.ref 4) λ_ _ _ _ hx=>DX (by omega) (by omega) hx,
      p2 (.bin .shl 107 110) (.ref 4) (.int .u64 32) (.ref 5) λ_ _ _ _ _ hx hy=>Te (z:=((pn*4294967296:Nat):Int)) (by rw [IntKind.wrap_u64]; omega) hx hy,
      p2 (.bin .sub 3 3) (.ref 1) (.int .i64 1) (.ref 6) λ_ _ _ _ _ hx hy=>MO (z:=((n - 1:Nat):Int)) (by rw [IntKind.wrap_i64]; omega) hx hy,
      p2 (.idx 32) (.ref 0) (.ref 6) (.ref 7) λ_ _ _ _ _ hx hy=>Kz (k:=n - 1) (by omega) hx hy,
      p1 (.ld 109) (.ref 7) (.ref 8) λ_ _ _ hb hx=>FK cp1 hb Dd hx,
      p1 (.conv 109 107) (.ref 8) (.ref 9) λ_ _ _ _ hx=>DX (by omega) (by omega) hx,
      p2 (.bin .or 107 107) (.ref 5) (.ref 9) (.ref 10) λ_ _ _ _ _ hx hy=>Y_ (z:=((t:Int):Int)) (by rw [show ((pn*4294967296:Nat):Int)=(pn:Int)*4294967296 from by omega,← ht]; exact GL pn pn1 bp bp1) hx hy] } (by kernel_rfl)
theorem Anc:RA 70 [(Ap (.int .i64 (n:Int))),(Ap (.int .i64 ((n - 1:Nat):Int))),(Ap (.slice (some bd) n cd)),(Ap (.pointer (some ((bd).add (n - 1))))),(Ap (.int .u32 (d1:Int))),(Ap (.int .u64 (d1:Int))),(Ap (.int .i64 ((n - 2:Nat):Int))),(Ap (.pointer (some ((bd).add (n - 2))))),(Ap (.int .u32 (d2:Int))),(Ap (.int .u64 (d2:Int))),(Ap (.slice (some (⟨g,i,none⟩:Addr)) (n+1) cap)),(Ap (.int .u64 ((t:Int):Int)))] [] ⟨[(0,(.ref 10)),(1,(.ref 2)),(4,(.int .u32 0)),(5,(.ref 0)),(6,(.ref 11))],[]⟩ ⟨[(0,(.ref 10)),(1,(.ref 2)),(4,(.int .u32 0)),(5,(.ref 0)),(6,(.ref 11)),(7,(.ref 5)),(8,(.ref 9))],[]⟩ Wb 3 Aho true:=RA.of
   { pures:=[p2 (.bin .sub 3 3) (.ref 0) (.int .i64 1) (.ref 1) λ_ _ _ _ _ hx hy=>MO (z:=((n - 1:Nat):Int)) (by rw [IntKind.wrap_i64]; omega) hx hy,
      p2 (.idx 32) (.ref 2) (.ref 1) (.ref 3) λ_ _ _ _ _ hx hy=>Kz (k:=n - 1) (by omega) hx hy,
      p1 (.ld 109) (.ref 3) (.ref 4) λ_ _ _ hb hx=>FK cd1 hb Dd hx,
      p1 (.conv 109 107) (.ref 4) (.ref 5) λ_ _ _ _ hx=>DX (by omega) (by omega) hx,
      p2 (.bin .sub 3 3) (.ref 0) (.int .i64 2) (.ref 6) λ_ _ _ _ _ hx hy=>MO (z:=((n - 2:Nat):Int)) (by rw [IntKind.wrap_i64]; omega) hx hy,
      p2 (.idx 32) (.ref 2) (.ref 6) (.ref 7) λ_ _ _ _ _ hx hy=>Kz (k:=n - 2) (by omega) hx hy,
      p1 (.ld 109) (.ref 7) (.ref 8) λ_ _ _ hb hx=>FK cd2 hb Dd hx,
      p1 (.conv 109 107) (.ref 8) (.ref 9) λ_ _ _ _ hx=>DX (by omega) (by omega) hx] } (by kernel_rfl)
theorem ApG:RA 70 [(Ap (.int .u64 ((t:Int):Int))),(Ap (.int .u64 (d1:Int))),(Ap (.int .u64 ((t / d1:Nat):Int))),(Ap (.int .u64 ((t % d1:Nat):Int))),(Ap (.slice (some (⟨g,i,none⟩:Addr)) (n+1) cap)),(Ap (.slice (some bd) n cd)),(Ap (.int .i64 (n:Int))),(Ap (.int .u64 (d2:Int)))] [] ⟨[(0,(.ref 4)),(1,(.ref 5)),(4,(.int .u32 0)),(5,(.ref 6)),(6,(.ref 0)),(7,(.ref 1)),(8,(.ref 7))],[]⟩ ⟨[(0,(.ref 4)),(1,(.ref 5)),(4,(.int .u32 0)),(5,(.ref 6)),(6,(.ref 0)),(7,(.ref 1)),(8,(.ref 7)),(9,(.ref 2)),(10,(.ref 3))],[]⟩ Wb 4 Ag5 true:=RA.of
   { pures:=[p2 (.bin .quo 107 107) (.ref 0) (.ref 1) (.ref 2) λ_ _ _ _ _ hx hy=>Ad8 (by omega) (z:=((t / d1:Nat):Int)) (by rw [Int.tdiv_eq_ediv_of_nonneg (by omega),← Int.natCast_ediv]; exact BK _ (Nat.lt_of_le_of_lt (Nat.div_le_self _ _) ht64)) hx hy,
      p2 (.bin .rem 107 107) (.ref 0) (.ref 1) (.ref 3) λ_ _ _ _ _ hx hy=>Al2 (by omega) (z:=((t % d1:Nat):Int)) (by rw [Int.tmod_eq_emod_of_nonneg (by omega),← Int.natCast_emod]) hx hy] } (by kernel_rfl)
theorem Ah4{q r:Nat}(hq0:0<q)(hq1:q≤4294967297)(hr:r≤4294967295)(c1:4294967295<q):RA 70 [(Ap (.int .u64 (q:Int))),(Ap (.slice (some (⟨g,i,none⟩:Addr)) (n+1) cap)),(Ap (.slice (some bd) n cd)),(Ap (.int .i64 (n:Int))),(Ap (.int .u64 ((t:Int):Int))),(Ap (.int .u64 (d1:Int))),(Ap (.int .u64 (d2:Int))),(Ap (.int .u64 (r:Int)))] [] ⟨[(0,(.ref 1)),(1,(.ref 2)),(4,(.int .u32 0)),(5,(.ref 3)),(6,(.ref 4)),(7,(.ref 5)),(8,(.ref 6)),(9,(.ref 0)),(10,(.ref 7))],[]⟩ ⟨[(0,(.ref 1)),(1,(.ref 2)),(4,(.int .u32 0)),(5,(.ref 3)),(6,(.ref 4)),(7,(.ref 5)),(8,(.ref 6)),(9,(.ref 0)),(10,(.ref 7)),(60,(.bool true))],[]⟩ Wb 5 cZ false:=RA.of
   { pures:=[p2 (.bin .gtr 107 107) (.ref 0) (.int .u64 4294967295) (.bool true) λ_ _ _ _ _ hx hy=>GO (r:=true) (by simp; omega) hx hy] } (by kernel_rfl)
theorem jQ{q r:Nat}(hq0:0<q)(hq1:q≤4294967297):RA 70 [(Ap (.int .u64 (q:Int))),(Ap (.int .u64 ((q - 1:Nat):Int))),(Ap (.slice (some (⟨g,i,none⟩:Addr)) (n+1) cap)),(Ap (.slice (some bd) n cd)),(Ap (.int .i64 (n:Int))),(Ap (.int .u64 ((t:Int):Int))),(Ap (.int .u64 (d1:Int))),(Ap (.int .u64 (d2:Int))),(Ap (.int .u64 (r:Int)))] [] ⟨[(0,(.ref 2)),(1,(.ref 3)),(4,(.int .u32 0)),(5,(.ref 4)),(6,(.ref 5)),(7,(.ref 6)),(8,(.ref 7)),(9,(.ref 0)),(10,(.ref 8)),(60,(.bool true))],[]⟩ ⟨[(0,(.ref 2)),(1,(.ref 3)),(4,(.int .u32 0)),(5,(.ref 4)),(6,(.ref 5)),(7,(.ref 6)),(8,(.ref 7)),(9,(.ref 1)),(10,(.ref 8)),(60,(.bool true))],[]⟩ Wb 6 AgQ false:=RA.of
   { pures:=[p2 (.bin .sub 107 107) (.ref 0) (.int .u64 1) (.ref 1) λ_ _ _ _ _ hx hy=>MO (z:=((q - 1:Nat):Int)) (by rw [IntKind.wrap_u64]; omega) hx hy] } (by kernel_rfl)
theorem gG{q r:Nat}(hq0:0<q)(hq1:q≤4294967297)(hr:r≤4294967295):RA 70 [(Ap (.int .u64 (r:Int))),(Ap (.int .u64 (d1:Int))),(Ap (.int .u64 ((r+d1:Nat):Int))),(Ap (.slice (some (⟨g,i,none⟩:Addr)) (n+1) cap)),(Ap (.slice (some bd) n cd)),(Ap (.int .i64 (n:Int))),(Ap (.int .u64 ((t:Int):Int))),(Ap (.int .u64 (d2:Int))),(Ap (.int .u64 ((q - 1:Nat):Int)))] [] ⟨[(0,(.ref 3)),(1,(.ref 4)),(4,(.int .u32 0)),(5,(.ref 5)),(6,(.ref 6)),(7,(.ref 1)),(8,(.ref 7)),(9,(.ref 8)),(10,(.ref 0)),(60,(.bool true))],[]⟩ ⟨[(0,(.ref 3)),(1,(.ref 4)),(4,(.int .u32 0)),(5,(.ref 5)),(6,(.ref 6)),(7,(.ref 1)),(8,(.ref 7)),(9,(.ref 8)),(10,(.ref 2)),(60,(.bool true))],[]⟩ Wb 7 Agt false:=RA.of
   { pures:=[p2 (.bin .add 107 107) (.ref 0) (.ref 1) (.ref 2) λ_ _ _ _ _ hx hy=>Ag4 (z:=((r+d1:Nat):Int)) (by rw [IntKind.wrap_u64]; omega) hx hy] } (by kernel_rfl)
theorem Ag7{q r:Nat}(hq0:0<q)(hq1:q≤4294967297)(hr:r≤4294967295)(hbk:4294967295<r+d1):RA 70 [(Ap (.int .u64 ((r+d1:Nat):Int))),(Ap (.slice (some (⟨g,i,none⟩:Addr)) (n+1) cap)),(Ap (.slice (some bd) n cd)),(Ap (.int .i64 (n:Int))),(Ap (.int .u64 ((t:Int):Int))),(Ap (.int .u64 (d1:Int))),(Ap (.int .u64 (d2:Int))),(Ap (.int .u64 ((q - 1:Nat):Int)))] [] ⟨[(0,(.ref 1)),(1,(.ref 2)),(4,(.int .u32 0)),(5,(.ref 3)),(6,(.ref 4)),(7,(.ref 5)),(8,(.ref 6)),(9,(.ref 7)),(10,(.ref 0)),(60,(.bool true))],[]⟩ ⟨[(0,(.ref 1)),(1,(.ref 2)),(4,(.int .u32 0)),(5,(.ref 3)),(6,(.ref 4)),(7,(.ref 5)),(8,(.ref 6)),(9,(.ref 7)),(10,(.ref 0)),(60,(.bool true)),(67,(.bool true))],[]⟩ Wb 8 vJ false:=RA.of
   { pures:=[p2 (.bin .gtr 107 107) (.ref 0) (.int .u64 4294967295) (.bool true) λ_ _ _ _ _ hx hy=>GO (r:=true) (by simp; omega) hx hy] } (by kernel_rfl)
theorem Ag0{q2 r2:Nat}(k1:q2<4294967296):RA 70 [(Ap (.int .u64 (q2:Int))),(Ap (.int .u32 (q2:Int))),(Ap (.slice (some (⟨g,i,none⟩:Addr)) (n+1) cap)),(Ap (.slice (some bd) n cd)),(Ap (.int .i64 (n:Int))),(Ap (.int .u64 ((t:Int):Int))),(Ap (.int .u64 (d1:Int))),(Ap (.int .u64 (d2:Int))),(Ap (.int .u64 (r2:Int)))] [] ⟨[(0,(.ref 2)),(1,(.ref 3)),(4,(.int .u32 0)),(5,(.ref 4)),(6,(.ref 5)),(7,(.ref 6)),(8,(.ref 7)),(9,(.ref 0)),(10,(.ref 8)),(60,(.bool true)),(67,(.bool true))],[]⟩ ⟨[(0,(.ref 2)),(1,(.ref 3)),(4,(.ref 1)),(5,(.ref 4)),(6,(.ref 5)),(7,(.ref 6)),(8,(.ref 7)),(9,(.ref 0)),(10,(.ref 8)),(60,(.bool true)),(67,(.bool true))],[]⟩ Wb 9 Aay false:=RA.of
   { pures:=[p1 (.conv 107 109) (.ref 0) (.ref 1) λ_ _ _ _ hx=>W6 (z:=(q2:Int)) (by rw [IntKind.wrap_u32]; omega) hx] } (by kernel_rfl)
theorem yA{q r:Nat}(hq0:0<q)(hq1:q≤4294967297)(hr:r≤4294967295)(hnb2:r+d1≤4294967295):RA 70 [(Ap (.int .u64 ((r+d1:Nat):Int))),(Ap (.slice (some (⟨g,i,none⟩:Addr)) (n+1) cap)),(Ap (.slice (some bd) n cd)),(Ap (.int .i64 (n:Int))),(Ap (.int .u64 ((t:Int):Int))),(Ap (.int .u64 (d1:Int))),(Ap (.int .u64 (d2:Int))),(Ap (.int .u64 ((q - 1:Nat):Int)))] [] ⟨[(0,(.ref 1)),(1,(.ref 2)),(4,(.int .u32 0)),(5,(.ref 3)),(6,(.ref 4)),(7,(.ref 5)),(8,(.ref 6)),(9,(.ref 7)),(10,(.ref 0)),(60,(.bool true))],[]⟩ ⟨[(0,(.ref 1)),(1,(.ref 2)),(4,(.int .u32 0)),(5,(.ref 3)),(6,(.ref 4)),(7,(.ref 5)),(8,(.ref 6)),(9,(.ref 7)),(10,(.ref 0)),(60,(.bool true)),(67,(.bool false))],[]⟩ Wb 8 vJ false:=RA.of
   { pures:=[p2 (.bin .gtr 107 107) (.ref 0) (.int .u64 4294967295) (.bool false) λ_ _ _ _ _ hx hy=>GO (r:=false) (by simp; omega) hx hy] } (by kernel_rfl)
theorem yR{q r:Nat}(hq0:0<q)(hq1:q≤4294967297)(hr:r≤4294967295)(c1n:q≤4294967295)(c2:r*4294967296+pn2<q*d2):RA 70 [(Ap (.int .u64 (q:Int))),(Ap (.int .u64 (d2:Int))),(Ap (.int .u64 ((q*d2:Nat):Int))),(Ap (.int .u64 (r:Int))),(Ap (.int .u64 ((r*4294967296:Nat):Int))),(Ap (.int .i64 (n:Int))),(Ap (.int .i64 ((n - 2:Nat):Int))),(Ap (.slice (some (⟨g,i,none⟩:Addr)) (n+1) cap)),(Ap (.pointer (some (((⟨g,i,none⟩:Addr)).add (n - 2))))),(Ap (.int .u32 (pn2:Int))),(Ap (.int .u64 (pn2:Int))),(Ap (.int .u64 (((r*4294967296+pn2:Nat):Int):Int))),(Ap (.slice (some bd) n cd)),(Ap (.int .u64 ((t:Int):Int))),(Ap (.int .u64 (d1:Int)))] [] ⟨[(0,(.ref 7)),(1,(.ref 12)),(4,(.int .u32 0)),(5,(.ref 5)),(6,(.ref 13)),(7,(.ref 14)),(8,(.ref 1)),(9,(.ref 0)),(10,(.ref 3))],[]⟩ ⟨[(0,(.ref 7)),(1,(.ref 12)),(4,(.int .u32 0)),(5,(.ref 5)),(6,(.ref 13)),(7,(.ref 14)),(8,(.ref 1)),(9,(.ref 0)),(10,(.ref 3)),(60,(.bool true))],[]⟩ Wb 5 cZ false:=RA.of
   { pures:=[p2 (.bin .gtr 107 107) (.ref 0) (.int .u64 4294967295) (.bool false) λ_ _ _ _ _ hx hy=>GO (r:=false) (by simp; omega) hx hy,
      p2 (.bin .mul 107 107) (.ref 0) (.ref 1) (.ref 2) λ_ _ _ _ _ hx hy=>VM (z:=((q*d2:Nat):Int)) (by rw [← Int.natCast_mul,IntKind.wrap_u64]; have:=E0 (show q<4294967296 by omega) bd2; omega) hx hy,
      p2 (.bin .shl 107 110) (.ref 3) (.int .u64 32) (.ref 4) λ_ _ _ _ _ hx hy=>Te (z:=((r*4294967296:Nat):Int)) (by rw [IntKind.wrap_u64]; omega) hx hy,
      p2 (.bin .sub 3 3) (.ref 5) (.int .i64 2) (.ref 6) λ_ _ _ _ _ hx hy=>MO (z:=((n - 2:Nat):Int)) (by rw [IntKind.wrap_i64]; omega) hx hy,
      p2 (.idx 32) (.ref 7) (.ref 6) (.ref 8) λ_ _ _ _ _ hx hy=>Kz (k:=n - 2) (by omega) hx hy,
      p1 (.ld 109) (.ref 8) (.ref 9) λ_ _ _ hb hx=>FK cp2 hb Dd hx,
      p1 (.conv 109 107) (.ref 9) (.ref 10) λ_ _ _ _ hx=>DX (by omega) (by omega) hx,
      p2 (.bin .or 107 107) (.ref 4) (.ref 10) (.ref 11) λ_ _ _ _ _ hx hy=>Y_ (z:=(((r*4294967296+pn2:Nat):Int):Int)) (by rw [show ((r*4294967296:Nat):Int)=(r:Int)*4294967296 from by omega]; exact GL r pn2 (by omega) bp2) hx hy,
      p2 (.bin .gtr 107 107) (.ref 2) (.ref 11) (.bool true) λ_ _ _ _ _ hx hy=>GO (r:=true) (by simp; omega) hx hy] } (by kernel_rfl)
theorem Ajc{q r:Nat}(hq1:q≤4294967297)(hr:r≤4294967295)(c1n:q≤4294967295)(c2n:q*d2≤r*4294967296+pn2):RA 70 [(Ap (.int .u64 (q:Int))),(Ap (.int .u64 (d2:Int))),(Ap (.int .u64 ((q*d2:Nat):Int))),(Ap (.int .u64 (r:Int))),(Ap (.int .u64 ((r*4294967296:Nat):Int))),(Ap (.int .i64 (n:Int))),(Ap (.int .i64 ((n - 2:Nat):Int))),(Ap (.slice (some (⟨g,i,none⟩:Addr)) (n+1) cap)),(Ap (.pointer (some (((⟨g,i,none⟩:Addr)).add (n - 2))))),(Ap (.int .u32 (pn2:Int))),(Ap (.int .u64 (pn2:Int))),(Ap (.int .u64 (((r*4294967296+pn2:Nat):Int):Int))),(Ap (.slice (some bd) n cd)),(Ap (.int .u64 ((t:Int):Int))),(Ap (.int .u64 (d1:Int)))] [] ⟨[(0,(.ref 7)),(1,(.ref 12)),(4,(.int .u32 0)),(5,(.ref 5)),(6,(.ref 13)),(7,(.ref 14)),(8,(.ref 1)),(9,(.ref 0)),(10,(.ref 3))],[]⟩ ⟨[(0,(.ref 7)),(1,(.ref 12)),(4,(.int .u32 0)),(5,(.ref 5)),(6,(.ref 13)),(7,(.ref 14)),(8,(.ref 1)),(9,(.ref 0)),(10,(.ref 3)),(60,(.bool false))],[]⟩ Wb 5 cZ false:=RA.of
   { pures:=[p2 (.bin .gtr 107 107) (.ref 0) (.int .u64 4294967295) (.bool false) λ_ _ _ _ _ hx hy=>GO (r:=false) (by simp; omega) hx hy,
      p2 (.bin .mul 107 107) (.ref 0) (.ref 1) (.ref 2) λ_ _ _ _ _ hx hy=>VM (z:=((q*d2:Nat):Int)) (by rw [← Int.natCast_mul,IntKind.wrap_u64]; have:=E0 (show q<4294967296 by omega) bd2; omega) hx hy,
      p2 (.bin .shl 107 110) (.ref 3) (.int .u64 32) (.ref 4) λ_ _ _ _ _ hx hy=>Te (z:=((r*4294967296:Nat):Int)) (by rw [IntKind.wrap_u64]; omega) hx hy,
      p2 (.bin .sub 3 3) (.ref 5) (.int .i64 2) (.ref 6) λ_ _ _ _ _ hx hy=>MO (z:=((n - 2:Nat):Int)) (by rw [IntKind.wrap_i64]; omega) hx hy,
      p2 (.idx 32) (.ref 7) (.ref 6) (.ref 8) λ_ _ _ _ _ hx hy=>Kz (k:=n - 2) (by omega) hx hy,
      p1 (.ld 109) (.ref 8) (.ref 9) λ_ _ _ hb hx=>FK cp2 hb Dd hx,
      p1 (.conv 109 107) (.ref 9) (.ref 10) λ_ _ _ _ hx=>DX (by omega) (by omega) hx,
      p2 (.bin .or 107 107) (.ref 4) (.ref 10) (.ref 11) λ_ _ _ _ _ hx hy=>Y_ (z:=(((r*4294967296+pn2:Nat):Int):Int)) (by rw [show ((r*4294967296:Nat):Int)=(r:Int)*4294967296 from by omega]; exact GL r pn2 (by omega) bp2) hx hy,
      p2 (.bin .gtr 107 107) (.ref 2) (.ref 11) (.bool false) λ_ _ _ _ _ hx hy=>GO (r:=false) (by simp; omega) hx hy] } (by kernel_rfl)
theorem Ajo{q r:Nat}(k1:q<4294967296):RA 70 [(Ap (.int .u64 (q:Int))),(Ap (.int .u32 (q:Int))),(Ap (.slice (some (⟨g,i,none⟩:Addr)) (n+1) cap)),(Ap (.slice (some bd) n cd)),(Ap (.int .i64 (n:Int))),(Ap (.int .u64 ((t:Int):Int))),(Ap (.int .u64 (d1:Int))),(Ap (.int .u64 (d2:Int))),(Ap (.int .u64 (r:Int)))] [] ⟨[(0,(.ref 2)),(1,(.ref 3)),(4,(.int .u32 0)),(5,(.ref 4)),(6,(.ref 5)),(7,(.ref 6)),(8,(.ref 7)),(9,(.ref 0)),(10,(.ref 8)),(60,(.bool false))],[]⟩ ⟨[(0,(.ref 2)),(1,(.ref 3)),(4,(.ref 1)),(5,(.ref 4)),(6,(.ref 5)),(7,(.ref 6)),(8,(.ref 7)),(9,(.ref 0)),(10,(.ref 8)),(60,(.bool false))],[]⟩ Wb 9 Aay false:=RA.of
   { pures:=[p1 (.conv 107 109) (.ref 0) (.ref 1) λ_ _ _ _ hx=>W6 (z:=(q:Int)) (by rw [IntKind.wrap_u32]; omega) hx] } (by kernel_rfl)
end
theorem mB(g i n cap cd pn pn1 pn2 d1 d2 t Qt:Nat)(bd:Addr)(W:World)(hn:2≤n)(hnb:n≤1099511627776)(cp:W.cell? ((⟨g,i,none⟩:Addr).add n)=some (.int .u32 (pn:Int)))(cp1:W.cell? ((⟨g,i,none⟩:Addr).add (n - 1))=some (.int .u32 (pn1:Int)))(cp2:W.cell? ((⟨g,i,none⟩:Addr).add (n - 2))=some (.int .u32 (pn2:Int)))(cd1:W.cell? (bd.add (n - 1))=some (.int .u32 (d1:Int)))(cd2:W.cell? (bd.add (n - 2))=some (.int .u32 (d2:Int)))(bp:pn<4294967296)(bp1:pn1<4294967296)(bp2:pn2<4294967296)(bd1:d1<4294967296)(bd2:d2<4294967296)(hd:2147483648≤d1)(ht:pn*4294967296+pn1=t)(ht64:t<18446744073709551616)(hle:pn≤d1)(hQb:Qt<4294967296)(hq0:Qt≤t / d1)(hQ:∀ q,t*4294967296+pn2<q*(d1*4294967296+d2)→Qt<q) :
  Calls Tryz.prog 158 #[.slice (some ⟨g,i,none⟩) (n+1) cap,.slice (some bd) n cd] W (Ak (Aig Qt (d1*4294967296+d2) (t*4294967296+pn2)) W):=by
 refine Em (S:=[(0,(Ap (.slice (some (⟨g,i,none⟩:Addr)) (n+1) cap))),(1,(Ap (.slice (some bd) n cd)))]) Tryz.func158 (by kernel_rfl) Tryz.ntmps158 (by simp) (λx hx=>?_) λa w hst=>?_
 ·simp only [List.mem_cons,List.not_mem_nil,or_false] at hx
  rcases hx with rfl | rfl
  ·exact ⟨_,rfl,rfl⟩
  ·exact ⟨_,rfl,rfl⟩
 show Code.wp _ iQ _ a w;rw [Aof];refine wp_seq ?_;rw [AnZ];refine (AnA hn hnb cp cp1 cp2 cd1 cd2 bp bp1 bp2 bd1 bd2 hd ht ht64).run hst ?_;clear hst;intro a w hst;show Code.wp _ VV _ a w;rw [Arz];refine wp_seq ?_;rw [ApT];refine (Apo hn hnb cp cp1 cp2 cd1 cd2 bp bp1 bp2 bd1 bd2 hd ht ht64).run hst ?_;clear hst;intro a w hst;show Code.wp _ U_ _ a w;rw [Ash];refine wp_seq ?_;rw [Arq];refine (Arg hn hnb cp cp1 cp2 cd1 cd2 bp bp1 bp2 bd1 bd2 hd ht ht64).run hst ?_;clear hst;intro a w hst;show Code.wp _ Xk _ a w;rw [Aqo];refine wp_seq ?_;rw [AoF];refine (Anc hn hnb cp cp1 cp2 cd1 cd2 bp bp1 bp2 bd1 bd2 hd ht ht64).run hst ?_;clear hst;intro a w hst;show Code.wp _ Xg _ a w;rw [Aqx];refine wp_seq ?_;rw [AmA];refine (ApG hn hnb cp cp1 cp2 cd1 cd2 bp bp1 bp2 bd1 bd2 hd ht ht64).run hst ?_;clear hst;intro a w hst;show Code.wp _ Ow _ a w;rw [AiU];refine wp_seq ?_;rw [Ait];refine wp_block ?_;show Code.wp _ UE _ a w;rw [AlK];obtain ⟨g1,g2,g3,_⟩:=lH ht bp1 hle hd bd1;refine DI (fun (x:Nat × Nat) a w=>St W 70 [(0,(Ap (.slice (some (⟨g,i,none⟩:Addr)) (n+1) cap))),(1,(Ap (.slice (some bd) n cd))),(4,(Ap (.int .u32 0))),(5,(Ap (.int .i64 (n:Int)))),(6,(Ap (.int .u64 ((t:Int):Int)))),(7,(Ap (.int .u64 (d1:Int)))),(8,(Ap (.int .u64 (d2:Int)))),(9,(Ap (.int .u64 (x.1:Int)))),(10,(Ap (.int .u64 (x.2:Int))))] [] a w∧x.1*d1+x.2=t∧Qt≤x.1∧x.2≤4294967295∧x.1≤4294967297) (λx=>x.1) ?_ (t / d1,t % d1) ⟨hst,g2,hq0,by show t % d1≤_; omega,g1⟩
 rintro ⟨q,r⟩ a w ⟨hst,hqr,hQq,hr,hq1⟩
 simp only [] at hst hqr hQq hr hq1;show Code.wp _ Pt _ a w
 rcases Nat.lt_or_ge 4294967295 q with c1 | c1n
 ·have hQl:Qt<q:=by omega
  have hq0:0<q:=by omega
  rcases Nat.lt_or_ge 4294967295 (r+d1) with hbk | hnb2
  ·rw [Oy]
   refine wp_seq ?_;rw [PI];refine wp_seq ?_;rw [OG];refine (Ah4 hn hnb cp cp1 cp2 cd1 cd2 bp bp1 bp2 bd1 bd2 hd ht ht64 hq0 hq1 hr c1).run hst ?_;clear hst;intro a w hst;show Code.wp _ HJ _ a w;rw [Pw];refine wp_cond_true (Bp hst 9 rfl) ?_;show Code.wp _ LR _ a w;rw [Uu];refine wp_skip ?_;show Code.wp _ J7 _ a w;rw [S7];refine wp_block ?_;show Code.wp _ Is _ a w;rw [UJ];refine wp_seq ?_;rw [TR];refine (jQ hn hnb cp cp1 cp2 cd1 cd2 bp bp1 bp2 bd1 bd2 hd ht ht64 hq0 hq1).run hst ?_;clear hst;intro a w hst;show Code.wp _ IQ _ a w;rw [Sc];refine wp_seq ?_;rw [Ug];refine (gG hn hnb cp cp1 cp2 cd1 cd2 bp bp1 bp2 bd1 bd2 hd ht ht64 hq0 hq1 hr).run hst ?_;clear hst;intro a w hst;show Code.wp _ Iq _ a w;rw [Tl];refine wp_seq ?_;rw [SI];refine (Ag7 hn hnb cp cp1 cp2 cd1 cd2 bp bp1 bp2 bd1 bd2 hd ht ht64 hq0 hq1 hr hbk).run hst ?_;clear hst;intro a w hst;show Code.wp _ Im _ a w;rw [Tw];refine wp_cond_true (Bp hst 10 rfl) ?_;show Code.wp _ UM _ a w;rw [xB];refine wp_exit ?_;obtain ⟨k1,k2⟩:=Ra (pn2:=pn2) (E8 hqr hq0) ht bp1 hle (by omega) bd2 (show 4294967296≤r+d1 by omega);generalize hq2:q - 1=q2 at *;generalize hr2:r+d1=r2 at *;have hqr2:=E8 hqr hq0;rw [hq2,hr2] at hqr2;show Code.wp _ J8 _ a w;rw [aG];refine wp_seq ?_;rw [Z2];refine (Ag0 hn hnb cp cp1 cp2 cd1 cd2 bp bp1 bp2 bd1 bd2 hd ht ht64 k1).run hst ?_;clear hst;intro a w hst;show Code.wp _ PY _ a w;rw [YC];refine wp_ret ?_;exact JU hst rfl 2 rfl (λv w h=>⟨q2,h,k1,by omega,O2 hqr2 k2⟩)
  ·rw [Oy]
   refine wp_seq ?_;rw [PI];refine wp_seq ?_;rw [OG];refine (Ah4 hn hnb cp cp1 cp2 cd1 cd2 bp bp1 bp2 bd1 bd2 hd ht ht64 hq0 hq1 hr c1).run hst ?_;clear hst;intro a w hst;show Code.wp _ HJ _ a w;rw [Pw];refine wp_cond_true (Bp hst 9 rfl) ?_;show Code.wp _ LR _ a w;rw [Uu];refine wp_skip ?_;show Code.wp _ J7 _ a w;rw [S7];refine wp_block ?_;show Code.wp _ Is _ a w;rw [UJ];refine wp_seq ?_;rw [TR];refine (jQ hn hnb cp cp1 cp2 cd1 cd2 bp bp1 bp2 bd1 bd2 hd ht ht64 hq0 hq1).run hst ?_;clear hst;intro a w hst;show Code.wp _ IQ _ a w;rw [Sc];refine wp_seq ?_;rw [Ug];refine (gG hn hnb cp cp1 cp2 cd1 cd2 bp bp1 bp2 bd1 bd2 hd ht ht64 hq0 hq1 hr).run hst ?_;clear hst;intro a w hst;show Code.wp _ Iq _ a w;rw [Tl];refine wp_seq ?_;rw [SI];refine (yA hn hnb cp cp1 cp2 cd1 cd2 bp bp1 bp2 bd1 bd2 hd ht ht64 hq0 hq1 hr hnb2).run hst ?_;clear hst;intro a w hst;show Code.wp _ Im _ a w;rw [Tw];refine wp_cond_false (Bp hst 10 rfl) ?_;show Code.wp _ Uv _ a w;rw [yS];refine wp_skip ?_;exact ⟨(q - 1,r+d1),⟨(hst.to ⟨hst.slots.get (k:=0) rfl,hst.slots.get (k:=1) rfl,hst.slots.get (k:=2) rfl,hst.slots.get (k:=3) rfl,hst.slots.get (k:=4) rfl,hst.slots.get (k:=5) rfl,hst.slots.get (k:=6) rfl,hst.slots.get (k:=7) rfl,hst.slots.get (k:=8) rfl,trivial⟩),E8 hqr hq0,by show Qt≤q - 1; omega,by show r+d1≤_; omega,by show q - 1≤_; omega⟩,by show q - 1<q; omega⟩
 ·rcases Nat.lt_or_ge (r*4294967296+pn2) (q*d2) with c2 | c2n
  ·have hQl:Qt<q:=nL hqr hQ c2
   have hq0:0<q:=by omega
   rcases Nat.lt_or_ge 4294967295 (r+d1) with hbk | hnb2
   ·rw [Oy]
    refine wp_seq ?_;rw [PI];refine wp_seq ?_;rw [OG];refine (yR hn hnb cp cp1 cp2 cd1 cd2 bp bp1 bp2 bd1 bd2 hd ht ht64 hq0 hq1 hr c1n c2).run hst ?_;clear hst;intro a w hst;show Code.wp _ HJ _ a w;rw [Pw];refine wp_cond_true (Bp hst 9 rfl) ?_;show Code.wp _ LR _ a w;rw [Uu];refine wp_skip ?_;show Code.wp _ J7 _ a w;rw [S7];refine wp_block ?_;show Code.wp _ Is _ a w;rw [UJ];refine wp_seq ?_;rw [TR];refine (jQ hn hnb cp cp1 cp2 cd1 cd2 bp bp1 bp2 bd1 bd2 hd ht ht64 hq0 hq1).run hst ?_;clear hst;intro a w hst;show Code.wp _ IQ _ a w;rw [Sc];refine wp_seq ?_;rw [Ug];refine (gG hn hnb cp cp1 cp2 cd1 cd2 bp bp1 bp2 bd1 bd2 hd ht ht64 hq0 hq1 hr).run hst ?_;clear hst;intro a w hst;show Code.wp _ Iq _ a w;rw [Tl];refine wp_seq ?_;rw [SI];refine (Ag7 hn hnb cp cp1 cp2 cd1 cd2 bp bp1 bp2 bd1 bd2 hd ht ht64 hq0 hq1 hr hbk).run hst ?_;clear hst;intro a w hst;show Code.wp _ Im _ a w;rw [Tw];refine wp_cond_true (Bp hst 10 rfl) ?_;show Code.wp _ UM _ a w;rw [xB];refine wp_exit ?_;obtain ⟨k1,k2⟩:=Ra (pn2:=pn2) (E8 hqr hq0) ht bp1 hle (by omega) bd2 (show 4294967296≤r+d1 by omega);generalize hq2:q - 1=q2 at *;generalize hr2:r+d1=r2 at *;have hqr2:=E8 hqr hq0;rw [hq2,hr2] at hqr2;show Code.wp _ J8 _ a w;rw [aG];refine wp_seq ?_;rw [Z2];refine (Ag0 hn hnb cp cp1 cp2 cd1 cd2 bp bp1 bp2 bd1 bd2 hd ht ht64 k1).run hst ?_;clear hst;intro a w hst;show Code.wp _ PY _ a w;rw [YC];refine wp_ret ?_;exact JU hst rfl 2 rfl (λv w h=>⟨q2,h,k1,by omega,O2 hqr2 k2⟩)
   ·rw [Oy]
    refine wp_seq ?_;rw [PI];refine wp_seq ?_;rw [OG];refine (yR hn hnb cp cp1 cp2 cd1 cd2 bp bp1 bp2 bd1 bd2 hd ht ht64 hq0 hq1 hr c1n c2).run hst ?_;clear hst;intro a w hst;show Code.wp _ HJ _ a w;rw [Pw];refine wp_cond_true (Bp hst 9 rfl) ?_;show Code.wp _ LR _ a w;rw [Uu];refine wp_skip ?_;show Code.wp _ J7 _ a w;rw [S7];refine wp_block ?_;show Code.wp _ Is _ a w;rw [UJ];refine wp_seq ?_;rw [TR];refine (jQ hn hnb cp cp1 cp2 cd1 cd2 bp bp1 bp2 bd1 bd2 hd ht ht64 hq0 hq1).run hst ?_;clear hst;intro a w hst;show Code.wp _ IQ _ a w;rw [Sc];refine wp_seq ?_;rw [Ug];refine (gG hn hnb cp cp1 cp2 cd1 cd2 bp bp1 bp2 bd1 bd2 hd ht ht64 hq0 hq1 hr).run hst ?_;clear hst;intro a w hst;show Code.wp _ Iq _ a w;rw [Tl];refine wp_seq ?_;rw [SI];refine (yA hn hnb cp cp1 cp2 cd1 cd2 bp bp1 bp2 bd1 bd2 hd ht ht64 hq0 hq1 hr hnb2).run hst ?_;clear hst;intro a w hst;show Code.wp _ Im _ a w;rw [Tw];refine wp_cond_false (Bp hst 10 rfl) ?_;show Code.wp _ Uv _ a w;rw [yS];refine wp_skip ?_;exact ⟨(q - 1,r+d1),⟨(hst.to ⟨hst.slots.get (k:=0) rfl,hst.slots.get (k:=1) rfl,hst.slots.get (k:=2) rfl,hst.slots.get (k:=3) rfl,hst.slots.get (k:=4) rfl,hst.slots.get (k:=5) rfl,hst.slots.get (k:=6) rfl,hst.slots.get (k:=7) rfl,hst.slots.get (k:=8) rfl,trivial⟩),E8 hqr hq0,by show Qt≤q - 1; omega,by show r+d1≤_; omega,by show q - 1≤_; omega⟩,by show q - 1<q; omega⟩
  ·rw [Oy]
   refine wp_seq ?_;rw [PI];refine wp_seq ?_;rw [OG];refine (Ajc hn hnb cp cp1 cp2 cd1 cd2 bp bp1 bp2 bd1 bd2 hd ht ht64 hq1 hr c1n c2n).run hst ?_;clear hst;intro a w hst;show Code.wp _ HJ _ a w;rw [Pw];refine wp_cond_false (Bp hst 9 rfl) ?_;show Code.wp _ Yn _ a w;rw [Aiw];refine wp_exit ?_;have k1:q<4294967296:=by omega
   have k2:q*d2≤r*4294967296+pn2:=by omega
   have hqr2:=hqr;show Code.wp _ J8 _ a w;rw [aG];refine wp_seq ?_;rw [Z2];refine (Ajo hn hnb cp cp1 cp2 cd1 cd2 bp bp1 bp2 bd1 bd2 hd ht ht64 k1).run hst ?_;clear hst;intro a w hst;show Code.wp _ PY _ a w;rw [YC];refine wp_ret ?_;exact JU hst rfl 2 rfl (λv w h=>⟨q,h,k1,by omega,O2 hqr2 k2⟩)
end Go.Proofs.YtgaehhapjnbieaaGreat
