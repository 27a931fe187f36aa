/- integer.guess (written by wip/tools/gen_guess.py). -/
import Derived.Test.YtdopbgnkneeceaaGreatqOps2
set_option linter.unusedSectionVars false
set_option linter.unusedVariables false
set_option linter.unusedSimpArgs false
set_option maxRecDepth 100000
namespace Go.Proofs.YtdopbgnkneeceaaGreat
open Go.RowKit
def Afv(Qt D T:Nat):PF:=⟨λv _=>∃ q:Nat,v = .int .u32 (q:Int)∧q<4294967296∧Qt≤q∧q*D≤T,λ_ _ _ _ h=>h⟩
noncomputable def YA:=DH Tryz.f145
noncomputable def lQ:=cl YA
noncomputable def Sk:=cr YA
theorem Ahr:YA = .seq lQ Sk:=by kernel_rfl
noncomputable def Acn:=Ba lQ
theorem Aiu:lQ = .region 0 Acn false:=by kernel_rfl
noncomputable def lT:=cl Sk
noncomputable def Si:=cr Sk
theorem AhW:Sk = .seq lT Si:=by kernel_rfl
noncomputable def AbV:=Ba lT
theorem AhQ:lT = .region 1 AbV false:=by kernel_rfl
noncomputable def pK:=cl Si
noncomputable def TZ:=cr Si
theorem Ah5:Si = .seq pK TZ:=by kernel_rfl
noncomputable def AbW:=Ba pK
theorem AiE:pK = .region 2 AbW true:=by kernel_rfl
noncomputable def nZ:=cl TZ
noncomputable def S0:=cr TZ
theorem Ahf:TZ = .seq nZ S0:=by kernel_rfl
noncomputable def Aby:=Ba nZ
theorem Aji:nZ = .region 3 Aby true:=by kernel_rfl
noncomputable def tK:=cl S0
noncomputable def Nn:=cr S0
theorem AhZ:S0 = .seq tK Nn:=by kernel_rfl
noncomputable def Acg:=Ba tK
theorem Agx:tK = .region 4 Acg true:=by kernel_rfl
noncomputable def WE:=cl Nn
noncomputable def IB:=cr Nn
theorem AcU:Nn = .seq WE IB:=by kernel_rfl
noncomputable def PB:=cl WE
theorem AcY:WE = .block 0 PB:=by kernel_rfl
noncomputable def No:=cl PB
theorem AdN:PB = .loop No:=by kernel_rfl
noncomputable def Rv:=cl No
noncomputable def IT:=cr No
theorem Ng:No = .seq Rv IT:=by kernel_rfl
noncomputable def Vq:=cl Rv
noncomputable def Gp:=cr Rv
theorem MH:Rv = .seq Vq Gp:=by kernel_rfl
noncomputable def YY:=Ba Vq
theorem Ny:Vq = .region 5 YY false:=by kernel_rfl
noncomputable def J3:=cl Gp
noncomputable def UT:=cr Gp
theorem NK:Gp = .cond (.tmp 60) J3 UT:=by kernel_rfl
theorem PP:J3 = .skip:=by kernel_rfl
theorem Ads:UT = .exit 0:=by kernel_rfl
noncomputable def GG:=cl IT
theorem RI:IT = .block 1 GG:=by kernel_rfl
noncomputable def UC:=cl GG
noncomputable def G5:=cr GG
theorem Qa:GG = .seq UC G5:=by kernel_rfl
noncomputable def Aca:=Ba UC
theorem PD:UC = .region 6 Aca false:=by kernel_rfl
noncomputable def UH:=cl G5
noncomputable def GN:=cr G5
theorem Pd:G5 = .seq UH GN:=by kernel_rfl
noncomputable def Abd:=Ba UH
theorem Pt:UH = .region 7 Abd false:=by kernel_rfl
noncomputable def Xb:=cl GN
noncomputable def GS:=cr GN
theorem Ro:GN = .seq Xb GS:=by kernel_rfl
noncomputable def qV:=Ba Xb
theorem RS:Xb = .region 8 qV false:=by kernel_rfl
noncomputable def QW:=cl GS
noncomputable def QK:=cr GS
theorem RQ:GS = .cond (.tmp 67) QW QK:=by kernel_rfl
theorem kB:QW = .exit 0:=by kernel_rfl
theorem tA:QK = .skip:=by kernel_rfl
noncomputable def WT:=cl IB
noncomputable def L6:=cr IB
theorem W5:IB = .seq WT L6:=by kernel_rfl
noncomputable def mU:=Ba WT
theorem UF:WT = .region 9 mU false:=by kernel_rfl
theorem Vw:L6 = .ret:=by kernel_rfl
section
set_option linter.unusedSectionVars false
variable {Wb : World} {g i n cap cd pn pn1 pn2 d1 d2 t : Nat} {bd : Addr} (hn : 2 ≤ n) (hnb : n ≤ 1099511627776) (cp : Wb.cell? ((⟨g, i, none⟩ : Addr).add n) = some (.int .u32 (pn : Int))) (cp1 : Wb.cell? ((⟨g, i, none⟩ : Addr).add (n - 1)) = some (.int .u32 (pn1 : Int))) (cp2 : Wb.cell? ((⟨g, i, none⟩ : Addr).add (n - 2)) = some (.int .u32 (pn2 : Int))) (cd1 : Wb.cell? (bd.add (n - 1)) = some (.int .u32 (d1 : Int))) (cd2 : Wb.cell? (bd.add (n - 2)) = some (.int .u32 (d2 : Int))) (bp : pn < 4294967296) (bp1 : pn1 < 4294967296) (bp2 : pn2 < 4294967296) (bd1 : d1 < 4294967296) (bd2 : d2 < 4294967296) (hd : 2147483648 ≤ d1) (ht : pn * 4294967296 + pn1 = t) (ht64 : t < 18446744073709551616)
include hn hnb cp cp1 cp2 cd1 cd2 bp bp1 bp2 bd1 bd2 hd ht ht64
theorem Agy:RA 70 [(Am (.slice (some (⟨g,i,none⟩:Addr)) (n+1) cap)),(Am (.slice (some bd) n cd))] [] ⟨[(0,(.ref 0)),(1,(.ref 1))],[]⟩ ⟨[(0,(.ref 0)),(1,(.ref 1)),(4,(.int .u32 0))],[]⟩ Wb 0 Acn false:=RA.of
   {  } (by kernel_rfl)
theorem AhU:RA 70 [(Am (.slice (some bd) n cd)),(Am (.int .i64 (n:Int))),(Am (.slice (some (⟨g,i,none⟩:Addr)) (n+1) cap))] [] ⟨[(0,(.ref 2)),(1,(.ref 0)),(4,(.int .u32 0))],[]⟩ ⟨[(0,(.ref 2)),(1,(.ref 0)),(4,(.int .u32 0)),(5,(.ref 1))],[]⟩ Wb 1 AbV false:=RA.of
   { pures:=[p1 (.blt .len [32]) (.ref 0) (.ref 1) λ_ _ _ _ hx=>Om hx] } (by kernel_rfl)
theorem AhL:RA 70 [(Am (.slice (some (⟨g,i,none⟩:Addr)) (n+1) cap)),(Am (.int .i64 (n:Int))),(Am (.pointer (some (((⟨g,i,none⟩:Addr)).add (n))))),(Am (.int .u32 (pn:Int))),(Am (.int .u64 (pn:Int))),(Am (.int .u64 ((pn*4294967296:Nat):Int))),(Am (.int .i64 ((n - 1:Nat):Int))),(Am (.pointer (some (((⟨g,i,none⟩:Addr)).add (n - 1))))),(Am (.int .u32 (pn1:Int))),(Am (.int .u64 (pn1:Int))),(Am (.int .u64 ((t:Int):Int))),(Am (.slice (some bd) n cd))] [] ⟨[(0,(.ref 0)),(1,(.ref 11)),(4,(.int .u32 0)),(5,(.ref 1))],[]⟩ ⟨[(0,(.ref 0)),(1,(.ref 11)),(4,(.int .u32 0)),(5,(.ref 1)),(6,(.ref 10))],[]⟩ Wb 2 AbW true:=RA.of
   { pures:=[p2 (.idx 32) (.ref 0) (.ref 1) (.ref 2) λ_ _ _ _ _ hx hy=>Jn (k:=n) (by omega) hx hy,
      p1 (.ld 114) (.ref 2) (.ref 3) λ_ _ _ hb hx=>Ez cp hb Cr hx,
      p1 (.conv 114 112) (.ref 3) (.ref 4) λ_ _ _ _ hx=>C8 (by omega) (by omega) hx,
      p2 (.bin .shl 112 71) (.ref 4) (.int .u64 32) (.ref 5) λ_ _ _ _ _ hx hy=>Q6 (z:=((pn*4294967296:Nat):Int)) (by rw [IntKind.wrap_u64]; omega) hx hy,
      p2 (.bin .sub 3 3) (.ref 1) (.int .i64 1) (.ref 6) λ_ _ _ _ _ hx hy=>KX (z:=((n - 1:Nat):Int)) (by rw [IntKind.wrap_i64]; omega) hx hy,
      p2 (.idx 32) (.ref 0) (.ref 6) (.ref 7) λ_ _ _ _ _ hx hy=>Jn (k:=n - 1) (by omega) hx hy,
      p1 (.ld 114) (.ref 7) (.ref 8) λ_ _ _ hb hx=>Ez cp1 hb Cr hx,
      p1 (.conv 114 112) (.ref 8) (.ref 9) λ_ _ _ _ hx=>C8 (by omega) (by omega) hx,
      p2 (.bin .or 112 112) (.ref 5) (.ref 9) (.ref 10) λ_ _ _ _ _ hx hy=>Vk (z:=((t:Int):Int)) (by rw [show ((pn*4294967296:Nat):Int)=(pn:Int)*4294967296 from by omega,← ht]; exact Fr pn pn1 bp bp1) hx hy] } (by kernel_rfl)
theorem Ait:RA 70 [(Am (.int .i64 (n:Int))),(Am (.int .i64 ((n - 1:Nat):Int))),(Am (.slice (some bd) n cd)),(Am (.pointer (some ((bd).add (n - 1))))),(Am (.int .u32 (d1:Int))),(Am (.int .u64 (d1:Int))),(Am (.int .i64 ((n - 2:Nat):Int))),(Am (.pointer (some ((bd).add (n - 2))))),(Am (.int .u32 (d2:Int))),(Am (.int .u64 (d2:Int))),(Am (.slice (some (⟨g,i,none⟩:Addr)) (n+1) cap)),(Am (.int .u64 ((t:Int):Int)))] [] ⟨[(0,(.ref 10)),(1,(.ref 2)),(4,(.int .u32 0)),(5,(.ref 0)),(6,(.ref 11))],[]⟩ ⟨[(0,(.ref 10)),(1,(.ref 2)),(4,(.int .u32 0)),(5,(.ref 0)),(6,(.ref 11)),(7,(.ref 5)),(8,(.ref 9))],[]⟩ Wb 3 Aby true:=RA.of
   { pures:=[p2 (.bin .sub 3 3) (.ref 0) (.int .i64 1) (.ref 1) λ_ _ _ _ _ hx hy=>KX (z:=((n - 1:Nat):Int)) (by rw [IntKind.wrap_i64]; omega) hx hy,
      p2 (.idx 32) (.ref 2) (.ref 1) (.ref 3) λ_ _ _ _ _ hx hy=>Jn (k:=n - 1) (by omega) hx hy,
      p1 (.ld 114) (.ref 3) (.ref 4) λ_ _ _ hb hx=>Ez cd1 hb Cr hx,
      p1 (.conv 114 112) (.ref 4) (.ref 5) λ_ _ _ _ hx=>C8 (by omega) (by omega) hx,
      p2 (.bin .sub 3 3) (.ref 0) (.int .i64 2) (.ref 6) λ_ _ _ _ _ hx hy=>KX (z:=((n - 2:Nat):Int)) (by rw [IntKind.wrap_i64]; omega) hx hy,
      p2 (.idx 32) (.ref 2) (.ref 6) (.ref 7) λ_ _ _ _ _ hx hy=>Jn (k:=n - 2) (by omega) hx hy,
      p1 (.ld 114) (.ref 7) (.ref 8) λ_ _ _ hb hx=>Ez cd2 hb Cr hx,
      p1 (.conv 114 112) (.ref 8) (.ref 9) λ_ _ _ _ hx=>C8 (by omega) (by omega) hx] } (by kernel_rfl)
theorem Ahs:RA 70 [(Am (.int .u64 ((t:Int):Int))),(Am (.int .u64 (d1:Int))),(Am (.int .u64 ((t / d1:Nat):Int))),(Am (.int .u64 ((t % d1:Nat):Int))),(Am (.slice (some (⟨g,i,none⟩:Addr)) (n+1) cap)),(Am (.slice (some bd) n cd)),(Am (.int .i64 (n:Int))),(Am (.int .u64 (d2:Int)))] [] ⟨[(0,(.ref 4)),(1,(.ref 5)),(4,(.int .u32 0)),(5,(.ref 6)),(6,(.ref 0)),(7,(.ref 1)),(8,(.ref 7))],[]⟩ ⟨[(0,(.ref 4)),(1,(.ref 5)),(4,(.int .u32 0)),(5,(.ref 6)),(6,(.ref 0)),(7,(.ref 1)),(8,(.ref 7)),(9,(.ref 2)),(10,(.ref 3))],[]⟩ Wb 4 Acg true:=RA.of
   { pures:=[p2 (.bin .quo 112 112) (.ref 0) (.ref 1) (.ref 2) λ_ _ _ _ _ hx hy=>tS (by omega) (z:=((t / d1:Nat):Int)) (by rw [Int.tdiv_eq_ediv_of_nonneg (by omega),← Int.natCast_ediv]; exact Bo _ (Nat.lt_of_le_of_lt (Nat.div_le_self _ _) ht64)) hx hy,
      p2 (.bin .rem 112 112) (.ref 0) (.ref 1) (.ref 3) λ_ _ _ _ _ hx hy=>Aih (by omega) (z:=((t % d1:Nat):Int)) (by rw [Int.tmod_eq_emod_of_nonneg (by omega),← Int.natCast_emod]) hx hy] } (by kernel_rfl)
theorem AbB{q r:Nat}(hq0:0<q)(hq1:q≤4294967297)(hr:r≤4294967295)(c1:4294967295<q):RA 70 [(Am (.int .u64 (q:Int))),(Am (.slice (some (⟨g,i,none⟩:Addr)) (n+1) cap)),(Am (.slice (some bd) n cd)),(Am (.int .i64 (n:Int))),(Am (.int .u64 ((t:Int):Int))),(Am (.int .u64 (d1:Int))),(Am (.int .u64 (d2:Int))),(Am (.int .u64 (r:Int)))] [] ⟨[(0,(.ref 1)),(1,(.ref 2)),(4,(.int .u32 0)),(5,(.ref 3)),(6,(.ref 4)),(7,(.ref 5)),(8,(.ref 6)),(9,(.ref 0)),(10,(.ref 7))],[]⟩ ⟨[(0,(.ref 1)),(1,(.ref 2)),(4,(.int .u32 0)),(5,(.ref 3)),(6,(.ref 4)),(7,(.ref 5)),(8,(.ref 6)),(9,(.ref 0)),(10,(.ref 7)),(60,(.bool true))],[]⟩ Wb 5 YY false:=RA.of
   { pures:=[p2 (.bin .gtr 112 112) (.ref 0) (.int .u64 4294967295) (.bool true) λ_ _ _ _ _ hx hy=>Ff (r:=true) (by simp; omega) hx hy] } (by kernel_rfl)
theorem Zm{q r:Nat}(hq0:0<q)(hq1:q≤4294967297):RA 70 [(Am (.int .u64 (q:Int))),(Am (.int .u64 ((q - 1:Nat):Int))),(Am (.slice (some (⟨g,i,none⟩:Addr)) (n+1) cap)),(Am (.slice (some bd) n cd)),(Am (.int .i64 (n:Int))),(Am (.int .u64 ((t:Int):Int))),(Am (.int .u64 (d1:Int))),(Am (.int .u64 (d2:Int))),(Am (.int .u64 (r:Int)))] [] ⟨[(0,(.ref 2)),(1,(.ref 3)),(4,(.int .u32 0)),(5,(.ref 4)),(6,(.ref 5)),(7,(.ref 6)),(8,(.ref 7)),(9,(.ref 0)),(10,(.ref 8)),(60,(.bool true))],[]⟩ ⟨[(0,(.ref 2)),(1,(.ref 3)),(4,(.int .u32 0)),(5,(.ref 4)),(6,(.ref 5)),(7,(.ref 6)),(8,(.ref 7)),(9,(.ref 1)),(10,(.ref 8)),(60,(.bool true))],[]⟩ Wb 6 Aca false:=RA.of
   { pures:=[p2 (.bin .sub 112 112) (.ref 0) (.int .u64 1) (.ref 1) λ_ _ _ _ _ hx hy=>KX (z:=((q - 1:Nat):Int)) (by rw [IntKind.wrap_u64]; omega) hx hy] } (by kernel_rfl)
theorem Xr{q r:Nat}(hq0:0<q)(hq1:q≤4294967297)(hr:r≤4294967295):RA 70 [(Am (.int .u64 (r:Int))),(Am (.int .u64 (d1:Int))),(Am (.int .u64 ((r+d1:Nat):Int))),(Am (.slice (some (⟨g,i,none⟩:Addr)) (n+1) cap)),(Am (.slice (some bd) n cd)),(Am (.int .i64 (n:Int))),(Am (.int .u64 ((t:Int):Int))),(Am (.int .u64 (d2:Int))),(Am (.int .u64 ((q - 1:Nat):Int)))] [] ⟨[(0,(.ref 3)),(1,(.ref 4)),(4,(.int .u32 0)),(5,(.ref 5)),(6,(.ref 6)),(7,(.ref 1)),(8,(.ref 7)),(9,(.ref 8)),(10,(.ref 0)),(60,(.bool true))],[]⟩ ⟨[(0,(.ref 3)),(1,(.ref 4)),(4,(.int .u32 0)),(5,(.ref 5)),(6,(.ref 6)),(7,(.ref 1)),(8,(.ref 7)),(9,(.ref 8)),(10,(.ref 2)),(60,(.bool true))],[]⟩ Wb 7 Abd false:=RA.of
   { pures:=[p2 (.bin .add 112 112) (.ref 0) (.ref 1) (.ref 2) λ_ _ _ _ _ hx hy=>AbT (z:=((r+d1:Nat):Int)) (by rw [IntKind.wrap_u64]; omega) hx hy] } (by kernel_rfl)
theorem Abq{q r:Nat}(hq0:0<q)(hq1:q≤4294967297)(hr:r≤4294967295)(hbk:4294967295<r+d1):RA 70 [(Am (.int .u64 ((r+d1:Nat):Int))),(Am (.slice (some (⟨g,i,none⟩:Addr)) (n+1) cap)),(Am (.slice (some bd) n cd)),(Am (.int .i64 (n:Int))),(Am (.int .u64 ((t:Int):Int))),(Am (.int .u64 (d1:Int))),(Am (.int .u64 (d2:Int))),(Am (.int .u64 ((q - 1:Nat):Int)))] [] ⟨[(0,(.ref 1)),(1,(.ref 2)),(4,(.int .u32 0)),(5,(.ref 3)),(6,(.ref 4)),(7,(.ref 5)),(8,(.ref 6)),(9,(.ref 7)),(10,(.ref 0)),(60,(.bool true))],[]⟩ ⟨[(0,(.ref 1)),(1,(.ref 2)),(4,(.int .u32 0)),(5,(.ref 3)),(6,(.ref 4)),(7,(.ref 5)),(8,(.ref 6)),(9,(.ref 7)),(10,(.ref 0)),(60,(.bool true)),(67,(.bool true))],[]⟩ Wb 8 qV false:=RA.of
   { pures:=[p2 (.bin .gtr 112 112) (.ref 0) (.int .u64 4294967295) (.bool true) λ_ _ _ _ _ hx hy=>Ff (r:=true) (by simp; omega) hx hy] } (by kernel_rfl)
theorem Abi{q2 r2:Nat}(k1:q2<4294967296):RA 70 [(Am (.int .u64 (q2:Int))),(Am (.int .u32 (q2:Int))),(Am (.slice (some (⟨g,i,none⟩:Addr)) (n+1) cap)),(Am (.slice (some bd) n cd)),(Am (.int .i64 (n:Int))),(Am (.int .u64 ((t:Int):Int))),(Am (.int .u64 (d1:Int))),(Am (.int .u64 (d2:Int))),(Am (.int .u64 (r2:Int)))] [] ⟨[(0,(.ref 2)),(1,(.ref 3)),(4,(.int .u32 0)),(5,(.ref 4)),(6,(.ref 5)),(7,(.ref 6)),(8,(.ref 7)),(9,(.ref 0)),(10,(.ref 8)),(60,(.bool true)),(67,(.bool true))],[]⟩ ⟨[(0,(.ref 2)),(1,(.ref 3)),(4,(.ref 1)),(5,(.ref 4)),(6,(.ref 5)),(7,(.ref 6)),(8,(.ref 7)),(9,(.ref 0)),(10,(.ref 8)),(60,(.bool true)),(67,(.bool true))],[]⟩ Wb 9 mU false:=RA.of
   { pures:=[p1 (.conv 112 114) (.ref 0) (.ref 1) λ_ _ _ _ hx=>TQ (z:=(q2:Int)) (by rw [IntKind.wrap_u32]; omega) hx] } (by kernel_rfl)
theorem sU{q r:Nat}(hq0:0<q)(hq1:q≤4294967297)(hr:r≤4294967295)(hnb2:r+d1≤4294967295):RA 70 [(Am (.int .u64 ((r+d1:Nat):Int))),(Am (.slice (some (⟨g,i,none⟩:Addr)) (n+1) cap)),(Am (.slice (some bd) n cd)),(Am (.int .i64 (n:Int))),(Am (.int .u64 ((t:Int):Int))),(Am (.int .u64 (d1:Int))),(Am (.int .u64 (d2:Int))),(Am (.int .u64 ((q - 1:Nat):Int)))] [] ⟨[(0,(.ref 1)),(1,(.ref 2)),(4,(.int .u32 0)),(5,(.ref 3)),(6,(.ref 4)),(7,(.ref 5)),(8,(.ref 6)),(9,(.ref 7)),(10,(.ref 0)),(60,(.bool true))],[]⟩ ⟨[(0,(.ref 1)),(1,(.ref 2)),(4,(.int .u32 0)),(5,(.ref 3)),(6,(.ref 4)),(7,(.ref 5)),(8,(.ref 6)),(9,(.ref 7)),(10,(.ref 0)),(60,(.bool true)),(67,(.bool false))],[]⟩ Wb 8 qV false:=RA.of
   { pures:=[p2 (.bin .gtr 112 112) (.ref 0) (.int .u64 4294967295) (.bool false) λ_ _ _ _ _ hx hy=>Ff (r:=false) (by simp; omega) hx hy] } (by kernel_rfl)
theorem lJ{q r:Nat}(hq0:0<q)(hq1:q≤4294967297)(hr:r≤4294967295)(c1n:q≤4294967295)(c2:r*4294967296+pn2<q*d2):RA 70 [(Am (.int .u64 (q:Int))),(Am (.int .u64 (d2:Int))),(Am (.int .u64 ((q*d2:Nat):Int))),(Am (.int .u64 (r:Int))),(Am (.int .u64 ((r*4294967296:Nat):Int))),(Am (.int .i64 (n:Int))),(Am (.int .i64 ((n - 2:Nat):Int))),(Am (.slice (some (⟨g,i,none⟩:Addr)) (n+1) cap)),(Am (.pointer (some (((⟨g,i,none⟩:Addr)).add (n - 2))))),(Am (.int .u32 (pn2:Int))),(Am (.int .u64 (pn2:Int))),(Am (.int .u64 (((r*4294967296+pn2:Nat):Int):Int))),(Am (.slice (some bd) n cd)),(Am (.int .u64 ((t:Int):Int))),(Am (.int .u64 (d1:Int)))] [] ⟨[(0,(.ref 7)),(1,(.ref 12)),(4,(.int .u32 0)),(5,(.ref 5)),(6,(.ref 13)),(7,(.ref 14)),(8,(.ref 1)),(9,(.ref 0)),(10,(.ref 3))],[]⟩ ⟨[(0,(.ref 7)),(1,(.ref 12)),(4,(.int .u32 0)),(5,(.ref 5)),(6,(.ref 13)),(7,(.ref 14)),(8,(.ref 1)),(9,(.ref 0)),(10,(.ref 3)),(60,(.bool true))],[]⟩ Wb 5 YY false:=RA.of
   { pures:=[p2 (.bin .gtr 112 112) (.ref 0) (.int .u64 4294967295) (.bool false) λ_ _ _ _ _ hx hy=>Ff (r:=false) (by simp; omega) hx hy,
      p2 (.bin .mul 112 112) (.ref 0) (.ref 1) (.ref 2) λ_ _ _ _ _ hx hy=>R4 (z:=((q*d2:Nat):Int)) (by rw [← Int.natCast_mul,IntKind.wrap_u64]; have:=DX (show q<4294967296 by omega) bd2; omega) hx hy,
      p2 (.bin .shl 112 71) (.ref 3) (.int .u64 32) (.ref 4) λ_ _ _ _ _ hx hy=>Q6 (z:=((r*4294967296:Nat):Int)) (by rw [IntKind.wrap_u64]; omega) hx hy,
      p2 (.bin .sub 3 3) (.ref 5) (.int .i64 2) (.ref 6) λ_ _ _ _ _ hx hy=>KX (z:=((n - 2:Nat):Int)) (by rw [IntKind.wrap_i64]; omega) hx hy,
      p2 (.idx 32) (.ref 7) (.ref 6) (.ref 8) λ_ _ _ _ _ hx hy=>Jn (k:=n - 2) (by omega) hx hy,
      p1 (.ld 114) (.ref 8) (.ref 9) λ_ _ _ hb hx=>Ez cp2 hb Cr hx,
      p1 (.conv 114 112) (.ref 9) (.ref 10) λ_ _ _ _ hx=>C8 (by omega) (by omega) hx,
      p2 (.bin .or 112 112) (.ref 4) (.ref 10) (.ref 11) λ_ _ _ _ _ hx hy=>Vk (z:=(((r*4294967296+pn2:Nat):Int):Int)) (by rw [show ((r*4294967296:Nat):Int)=(r:Int)*4294967296 from by omega]; exact Fr r pn2 (by omega) bp2) hx hy,
      p2 (.bin .gtr 112 112) (.ref 2) (.ref 11) (.bool true) λ_ _ _ _ _ hx hy=>Ff (r:=true) (by simp; omega) hx hy] } (by kernel_rfl)
theorem AfH{q r:Nat}(hq1:q≤4294967297)(hr:r≤4294967295)(c1n:q≤4294967295)(c2n:q*d2≤r*4294967296+pn2):RA 70 [(Am (.int .u64 (q:Int))),(Am (.int .u64 (d2:Int))),(Am (.int .u64 ((q*d2:Nat):Int))),(Am (.int .u64 (r:Int))),(Am (.int .u64 ((r*4294967296:Nat):Int))),(Am (.int .i64 (n:Int))),(Am (.int .i64 ((n - 2:Nat):Int))),(Am (.slice (some (⟨g,i,none⟩:Addr)) (n+1) cap)),(Am (.pointer (some (((⟨g,i,none⟩:Addr)).add (n - 2))))),(Am (.int .u32 (pn2:Int))),(Am (.int .u64 (pn2:Int))),(Am (.int .u64 (((r*4294967296+pn2:Nat):Int):Int))),(Am (.slice (some bd) n cd)),(Am (.int .u64 ((t:Int):Int))),(Am (.int .u64 (d1:Int)))] [] ⟨[(0,(.ref 7)),(1,(.ref 12)),(4,(.int .u32 0)),(5,(.ref 5)),(6,(.ref 13)),(7,(.ref 14)),(8,(.ref 1)),(9,(.ref 0)),(10,(.ref 3))],[]⟩ ⟨[(0,(.ref 7)),(1,(.ref 12)),(4,(.int .u32 0)),(5,(.ref 5)),(6,(.ref 13)),(7,(.ref 14)),(8,(.ref 1)),(9,(.ref 0)),(10,(.ref 3)),(60,(.bool false))],[]⟩ Wb 5 YY false:=RA.of
   { pures:=[p2 (.bin .gtr 112 112) (.ref 0) (.int .u64 4294967295) (.bool false) λ_ _ _ _ _ hx hy=>Ff (r:=false) (by simp; omega) hx hy,
      p2 (.bin .mul 112 112) (.ref 0) (.ref 1) (.ref 2) λ_ _ _ _ _ hx hy=>R4 (z:=((q*d2:Nat):Int)) (by rw [← Int.natCast_mul,IntKind.wrap_u64]; have:=DX (show q<4294967296 by omega) bd2; omega) hx hy,
      p2 (.bin .shl 112 71) (.ref 3) (.int .u64 32) (.ref 4) λ_ _ _ _ _ hx hy=>Q6 (z:=((r*4294967296:Nat):Int)) (by rw [IntKind.wrap_u64]; omega) hx hy,
      p2 (.bin .sub 3 3) (.ref 5) (.int .i64 2) (.ref 6) λ_ _ _ _ _ hx hy=>KX (z:=((n - 2:Nat):Int)) (by rw [IntKind.wrap_i64]; omega) hx hy,
      p2 (.idx 32) (.ref 7) (.ref 6) (.ref 8) λ_ _ _ _ _ hx hy=>Jn (k:=n - 2) (by omega) hx hy,
      p1 (.ld 114) (.ref 8) (.ref 9) λ_ _ _ hb hx=>Ez cp2 hb Cr hx,
      p1 (.conv 114 112) (.ref 9) (.ref 10) λ_ _ _ _ hx=>C8 (by omega) (by omega) hx,
      p2 (.bin .or 112 112) (.ref 4) (.ref 10) (.ref 11) λ_ _ _ _ _ hx hy=>Vk (z:=(((r*4294967296+pn2:Nat):Int):Int)) (by rw [show ((r*4294967296:Nat):Int)=(r:Int)*4294967296 from by omega]; exact Fr r pn2 (by omega) bp2) hx hy,
      p2 (.bin .gtr 112 112) (.ref 2) (.ref 11) (.bool false) λ_ _ _ _ _ hx hy=>Ff (r:=false) (by simp; omega) hx hy] } (by kernel_rfl)
theorem Ad7{q r:Nat}(k1:q<4294967296):RA 70 [(Am (.int .u64 (q:Int))),(Am (.int .u32 (q:Int))),(Am (.slice (some (⟨g,i,none⟩:Addr)) (n+1) cap)),(Am (.slice (some bd) n cd)),(Am (.int .i64 (n:Int))),(Am (.int .u64 ((t:Int):Int))),(Am (.int .u64 (d1:Int))),(Am (.int .u64 (d2:Int))),(Am (.int .u64 (r:Int)))] [] ⟨[(0,(.ref 2)),(1,(.ref 3)),(4,(.int .u32 0)),(5,(.ref 4)),(6,(.ref 5)),(7,(.ref 6)),(8,(.ref 7)),(9,(.ref 0)),(10,(.ref 8)),(60,(.bool false))],[]⟩ ⟨[(0,(.ref 2)),(1,(.ref 3)),(4,(.ref 1)),(5,(.ref 4)),(6,(.ref 5)),(7,(.ref 6)),(8,(.ref 7)),(9,(.ref 0)),(10,(.ref 8)),(60,(.bool false))],[]⟩ Wb 9 mU false:=RA.of
   { pures:=[p1 (.conv 112 114) (.ref 0) (.ref 1) λ_ _ _ _ hx=>TQ (z:=(q:Int)) (by rw [IntKind.wrap_u32]; omega) hx] } (by kernel_rfl)
end
theorem aU(g i n cap cd pn pn1 pn2 d1 d2 t Qt:Nat)(bd:Addr)(W:World)(hn:2≤n)(hnb:n≤1099511627776)(cp:W.cell? ((⟨g,i,none⟩:Addr).add n)=some (.int .u32 (pn:Int)))(cp1:W.cell? ((⟨g,i,none⟩:Addr).add (n - 1))=some (.int .u32 (pn1:Int)))(cp2:W.cell? ((⟨g,i,none⟩:Addr).add (n - 2))=some (.int .u32 (pn2:Int)))(cd1:W.cell? (bd.add (n - 1))=some (.int .u32 (d1:Int)))(cd2:W.cell? (bd.add (n - 2))=some (.int .u32 (d2:Int)))(bp:pn<4294967296)(bp1:pn1<4294967296)(bp2:pn2<4294967296)(bd1:d1<4294967296)(bd2:d2<4294967296)(hd:2147483648≤d1)(ht:pn*4294967296+pn1=t)(ht64:t<18446744073709551616)(hle:pn≤d1)(hQb:Qt<4294967296)(hq0:Qt≤t / d1)(hQ:∀ q,t*4294967296+pn2<q*(d1*4294967296+d2)→Qt<q) :
  Calls Tryz.prog 145 #[.slice (some ⟨g,i,none⟩) (n+1) cap,.slice (some bd) n cd] W (Aj (Afv Qt (d1*4294967296+d2) (t*4294967296+pn2)) W):=by
 refine Do (S:=[(0,(Am (.slice (some (⟨g,i,none⟩:Addr)) (n+1) cap))),(1,(Am (.slice (some bd) n cd)))]) Tryz.func145 (by kernel_rfl) Tryz.ntmps145 (by simp) (λx hx=>?_) λa w hst=>?_
 ·simp only [List.mem_cons,List.not_mem_nil,or_false] at hx
  rcases hx with rfl | rfl
  ·exact ⟨_,rfl,rfl⟩
  ·exact ⟨_,rfl,rfl⟩
 show Code.wp _ YA _ a w;rw [Ahr];refine wp_seq ?_;rw [Aiu];refine (Agy hn hnb cp cp1 cp2 cd1 cd2 bp bp1 bp2 bd1 bd2 hd ht ht64).run hst ?_;clear hst;intro a w hst;show Code.wp _ Sk _ a w;rw [AhW];refine wp_seq ?_;rw [AhQ];refine (AhU hn hnb cp cp1 cp2 cd1 cd2 bp bp1 bp2 bd1 bd2 hd ht ht64).run hst ?_;clear hst;intro a w hst;show Code.wp _ Si _ a w;rw [Ah5];refine wp_seq ?_;rw [AiE];refine (AhL hn hnb cp cp1 cp2 cd1 cd2 bp bp1 bp2 bd1 bd2 hd ht ht64).run hst ?_;clear hst;intro a w hst;show Code.wp _ TZ _ a w;rw [Ahf];refine wp_seq ?_;rw [Aji];refine (Ait hn hnb cp cp1 cp2 cd1 cd2 bp bp1 bp2 bd1 bd2 hd ht ht64).run hst ?_;clear hst;intro a w hst;show Code.wp _ S0 _ a w;rw [AhZ];refine wp_seq ?_;rw [Agx];refine (Ahs hn hnb cp cp1 cp2 cd1 cd2 bp bp1 bp2 bd1 bd2 hd ht ht64).run hst ?_;clear hst;intro a w hst;show Code.wp _ Nn _ a w;rw [AcU];refine wp_seq ?_;rw [AcY];refine wp_block ?_;show Code.wp _ PB _ a w;rw [AdN];obtain ⟨g1,g2,g3,_⟩:=aC ht bp1 hle hd bd1;refine CN (fun (x:Nat × Nat) a w=>St W 70 [(0,(Am (.slice (some (⟨g,i,none⟩:Addr)) (n+1) cap))),(1,(Am (.slice (some bd) n cd))),(4,(Am (.int .u32 0))),(5,(Am (.int .i64 (n:Int)))),(6,(Am (.int .u64 ((t:Int):Int)))),(7,(Am (.int .u64 (d1:Int)))),(8,(Am (.int .u64 (d2:Int)))),(9,(Am (.int .u64 (x.1:Int)))),(10,(Am (.int .u64 (x.2:Int))))] [] a w∧x.1*d1+x.2=t∧Qt≤x.1∧x.2≤4294967295∧x.1≤4294967297) (λx=>x.1) ?_ (t / d1,t % d1) ⟨hst,g2,hq0,by show t % d1≤_; omega,g1⟩
 rintro ⟨q,r⟩ a w ⟨hst,hqr,hQq,hr,hq1⟩
 simp only [] at hst hqr hQq hr hq1;show Code.wp _ No _ a w
 rcases Nat.lt_or_ge 4294967295 q with c1 | c1n
 ·have hQl:Qt<q:=by omega
  have hq0:0<q:=by omega
  rcases Nat.lt_or_ge 4294967295 (r+d1) with hbk | hnb2
  ·rw [Ng]
   refine wp_seq ?_;rw [MH];refine wp_seq ?_;rw [Ny];refine (AbB hn hnb cp cp1 cp2 cd1 cd2 bp bp1 bp2 bd1 bd2 hd ht ht64 hq0 hq1 hr c1).run hst ?_;clear hst;intro a w hst;show Code.wp _ Gp _ a w;rw [NK];refine wp_cond_true (A7 hst 9 rfl) ?_;show Code.wp _ J3 _ a w;rw [PP];refine wp_skip ?_;show Code.wp _ IT _ a w;rw [RI];refine wp_block ?_;show Code.wp _ GG _ a w;rw [Qa];refine wp_seq ?_;rw [PD];refine (Zm hn hnb cp cp1 cp2 cd1 cd2 bp bp1 bp2 bd1 bd2 hd ht ht64 hq0 hq1).run hst ?_;clear hst;intro a w hst;show Code.wp _ G5 _ a w;rw [Pd];refine wp_seq ?_;rw [Pt];refine (Xr hn hnb cp cp1 cp2 cd1 cd2 bp bp1 bp2 bd1 bd2 hd ht ht64 hq0 hq1 hr).run hst ?_;clear hst;intro a w hst;show Code.wp _ GN _ a w;rw [Ro];refine wp_seq ?_;rw [RS];refine (Abq hn hnb cp cp1 cp2 cd1 cd2 bp bp1 bp2 bd1 bd2 hd ht ht64 hq0 hq1 hr hbk).run hst ?_;clear hst;intro a w hst;show Code.wp _ GS _ a w;rw [RQ];refine wp_cond_true (A7 hst 10 rfl) ?_;show Code.wp _ QW _ a w;rw [kB];refine wp_exit ?_;obtain ⟨k1,k2⟩:=Oo (pn2:=pn2) (DZ hqr hq0) ht bp1 hle (by omega) bd2 (show 4294967296≤r+d1 by omega);generalize hq2:q - 1=q2 at *;generalize hr2:r+d1=r2 at *;have hqr2:=DZ hqr hq0;rw [hq2,hr2] at hqr2;show Code.wp _ IB _ a w;rw [W5];refine wp_seq ?_;rw [UF];refine (Abi hn hnb cp cp1 cp2 cd1 cd2 bp bp1 bp2 bd1 bd2 hd ht ht64 k1).run hst ?_;clear hst;intro a w hst;show Code.wp _ L6 _ a w;rw [Vw];refine wp_ret ?_;exact IA hst rfl 2 rfl (λv w h=>⟨q2,h,k1,by omega,L5 hqr2 k2⟩)
  ·rw [Ng]
   refine wp_seq ?_;rw [MH];refine wp_seq ?_;rw [Ny];refine (AbB hn hnb cp cp1 cp2 cd1 cd2 bp bp1 bp2 bd1 bd2 hd ht ht64 hq0 hq1 hr c1).run hst ?_;clear hst;intro a w hst;show Code.wp _ Gp _ a w;rw [NK];refine wp_cond_true (A7 hst 9 rfl) ?_;show Code.wp _ J3 _ a w;rw [PP];refine wp_skip ?_;show Code.wp _ IT _ a w;rw [RI];refine wp_block ?_;show Code.wp _ GG _ a w;rw [Qa];refine wp_seq ?_;rw [PD];refine (Zm hn hnb cp cp1 cp2 cd1 cd2 bp bp1 bp2 bd1 bd2 hd ht ht64 hq0 hq1).run hst ?_;clear hst;intro a w hst;show Code.wp _ G5 _ a w;rw [Pd];refine wp_seq ?_;rw [Pt];refine (Xr hn hnb cp cp1 cp2 cd1 cd2 bp bp1 bp2 bd1 bd2 hd ht ht64 hq0 hq1 hr).run hst ?_;clear hst;intro a w hst;show Code.wp _ GN _ a w;rw [Ro];refine wp_seq ?_;rw [RS];refine (sU hn hnb cp cp1 cp2 cd1 cd2 bp bp1 bp2 bd1 bd2 hd ht ht64 hq0 hq1 hr hnb2).run hst ?_;clear hst;intro a w hst;show Code.wp _ GS _ a w;rw [RQ];refine wp_cond_false (A7 hst 10 rfl) ?_;show Code.wp _ QK _ a w;rw [tA];refine wp_skip ?_;exact ⟨(q - 1,r+d1),⟨(hst.to ⟨hst.slots.get (k:=0) rfl,hst.slots.get (k:=1) rfl,hst.slots.get (k:=2) rfl,hst.slots.get (k:=3) rfl,hst.slots.get (k:=4) rfl,hst.slots.get (k:=5) rfl,hst.slots.get (k:=6) rfl,hst.slots.get (k:=7) rfl,hst.slots.get (k:=8) rfl,trivial⟩),DZ hqr hq0,by show Qt≤q - 1; omega,by show r+d1≤_; omega,by show q - 1≤_; omega⟩,by show q - 1<q; omega⟩
 ·rcases Nat.lt_or_ge (r*4294967296+pn2) (q*d2) with c2 | c2n
  ·have hQl:Qt<q:=bQ hqr hQ c2
   have hq0:0<q:=by omega
   rcases Nat.lt_or_ge 4294967295 (r+d1) with hbk | hnb2
   ·rw [Ng]
    refine wp_seq ?_;rw [MH];refine wp_seq ?_;rw [Ny];refine (lJ hn hnb cp cp1 cp2 cd1 cd2 bp bp1 bp2 bd1 bd2 hd ht ht64 hq0 hq1 hr c1n c2).run hst ?_;clear hst;intro a w hst;show Code.wp _ Gp _ a w;rw [NK];refine wp_cond_true (A7 hst 9 rfl) ?_;show Code.wp _ J3 _ a w;rw [PP];refine wp_skip ?_;show Code.wp _ IT _ a w;rw [RI];refine wp_block ?_;show Code.wp _ GG _ a w;rw [Qa];refine wp_seq ?_;rw [PD];refine (Zm hn hnb cp cp1 cp2 cd1 cd2 bp bp1 bp2 bd1 bd2 hd ht ht64 hq0 hq1).run hst ?_;clear hst;intro a w hst;show Code.wp _ G5 _ a w;rw [Pd];refine wp_seq ?_;rw [Pt];refine (Xr hn hnb cp cp1 cp2 cd1 cd2 bp bp1 bp2 bd1 bd2 hd ht ht64 hq0 hq1 hr).run hst ?_;clear hst;intro a w hst;show Code.wp _ GN _ a w;rw [Ro];refine wp_seq ?_;rw [RS];refine (Abq hn hnb cp cp1 cp2 cd1 cd2 bp bp1 bp2 bd1 bd2 hd ht ht64 hq0 hq1 hr hbk).run hst ?_;clear hst;intro a w hst;show Code.wp _ GS _ a w;rw [RQ];refine wp_cond_true (A7 hst 10 rfl) ?_;show Code.wp _ QW _ a w;rw [kB];refine wp_exit ?_;obtain ⟨k1,k2⟩:=Oo (pn2:=pn2) (DZ hqr hq0) ht bp1 hle (by omega) bd2 (show 4294967296≤r+d1 by omega);generalize hq2:q - 1=q2 at *;generalize hr2:r+d1=r2 at *;have hqr2:=DZ hqr hq0;rw [hq2,hr2] at hqr2;show Code.wp _ IB _ a w;rw [W5];refine wp_seq ?_;rw [UF];refine (Abi hn hnb cp cp1 cp2 cd1 cd2 bp bp1 bp2 bd1 bd2 hd ht ht64 k1).run hst ?_;clear hst;intro a w hst;show Code.wp _ L6 _ a w;rw [Vw];refine wp_ret ?_;exact IA hst rfl 2 rfl (λv w h=>⟨q2,h,k1,by omega,L5 hqr2 k2⟩)
   ·rw [Ng]
    refine wp_seq ?_;rw [MH];refine wp_seq ?_;rw [Ny];refine (lJ hn hnb cp cp1 cp2 cd1 cd2 bp bp1 bp2 bd1 bd2 hd ht ht64 hq0 hq1 hr c1n c2).run hst ?_;clear hst;intro a w hst;show Code.wp _ Gp _ a w;rw [NK];refine wp_cond_true (A7 hst 9 rfl) ?_;show Code.wp _ J3 _ a w;rw [PP];refine wp_skip ?_;show Code.wp _ IT _ a w;rw [RI];refine wp_block ?_;show Code.wp _ GG _ a w;rw [Qa];refine wp_seq ?_;rw [PD];refine (Zm hn hnb cp cp1 cp2 cd1 cd2 bp bp1 bp2 bd1 bd2 hd ht ht64 hq0 hq1).run hst ?_;clear hst;intro a w hst;show Code.wp _ G5 _ a w;rw [Pd];refine wp_seq ?_;rw [Pt];refine (Xr hn hnb cp cp1 cp2 cd1 cd2 bp bp1 bp2 bd1 bd2 hd ht ht64 hq0 hq1 hr).run hst ?_;clear hst;intro a w hst;show Code.wp _ GN _ a w;rw [Ro];refine wp_seq ?_;rw [RS];refine (sU hn hnb cp cp1 cp2 cd1 cd2 bp bp1 bp2 bd1 bd2 hd ht ht64 hq0 hq1 hr hnb2).run hst ?_;clear hst;intro a w hst;show Code.wp _ GS _ a w;rw [RQ];refine wp_cond_false (A7 hst 10 rfl) ?_;show Code.wp _ QK _ a w;rw [tA];refine wp_skip ?_;exact ⟨(q - 1,r+d1),⟨(hst.to ⟨hst.slots.get (k:=0) rfl,hst.slots.get (k:=1) rfl,hst.slots.get (k:=2) rfl,hst.slots.get (k:=3) rfl,hst.slots.get (k:=4) rfl,hst.slots.get (k:=5) rfl,hst.slots.get (k:=6) rfl,hst.slots.get (k:=7) rfl,hst.slots.get (k:=8) rfl,trivial⟩),DZ hqr hq0,by show Qt≤q - 1; omega,by show r+d1≤_; omega,by show q - 1≤_; omega⟩,by show q - 1<q; omega⟩
  ·rw [Ng]
   refine wp_seq ?_;rw [MH];refine wp_seq ?_;rw [Ny];refine (AfH hn hnb cp cp1 cp2 cd1 cd2 bp bp1 bp2 bd1 bd2 hd ht ht64 hq1 hr c1n c2n).run hst ?_;clear hst;intro a w hst;show Code.wp _ Gp _ a w;rw [NK];refine wp_cond_false (A7 hst 9 rfl) ?_;show Code.wp _ UT _ a w;rw [Ads];refine wp_exit ?_;have k1:q<4294967296:=by omega
   have k2:q*d2≤r*4294967296+pn2:=by omega
   have hqr2:=hqr;show Code.wp _ IB _ a w;rw [W5];refine wp_seq ?_;rw [UF];refine (Ad7 hn hnb cp cp1 cp2 cd1 cd2 bp bp1 bp2 bd1 bd2 hd ht ht64 k1).run hst ?_;clear hst;intro a w hst;show Code.wp _ L6 _ a w;rw [Vw];refine wp_ret ?_;exact IA hst rfl 2 rfl (λv w h=>⟨q,h,k1,by omega,L5 hqr2 k2⟩)
end Go.Proofs.YtdopbgnkneeceaaGreat
