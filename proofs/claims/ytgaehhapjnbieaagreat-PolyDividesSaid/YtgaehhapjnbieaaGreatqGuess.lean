/- integer.guess (written by wip/tools/gen_guess.py). -/
import Derived.Test.YtgaehhapjnbieaaGreatqCon
import Derived.Test.YtgaehhapjnbieaaGreatqOps2
set_option linter.unusedSectionVars false
set_option linter.unusedVariables false
set_option linter.unusedSimpArgs false
namespace Go.Proofs.YtgaehhapjnbieaaGreat
open Go.RowKit
def guessF (Qt D T:Nat):PF:=⟨fun v _=>∃ q:Nat,v = .int .u32 (q:Int)∧q<4294967296∧Qt≤q∧q*D≤T,fun _ _ _ _ h=>h⟩
noncomputable def gs_n0:Code:=bodyOf Tryz.f158
noncomputable def gs_n1:Code:=cl gs_n0
noncomputable def gs_n2:Code:=cr gs_n0
theorem gs_e0:gs_n0 = .seq gs_n1 gs_n2:=by kernel_rfl
noncomputable def gs_o0:Array Oper:=opsOf gs_n1
theorem gs_e1:gs_n1 = .region 0 gs_o0 false:=by kernel_rfl
noncomputable def gs_n3:Code:=cl gs_n2
noncomputable def gs_n4:Code:=cr gs_n2
theorem gs_e2:gs_n2 = .seq gs_n3 gs_n4:=by kernel_rfl
noncomputable def gs_o1:Array Oper:=opsOf gs_n3
theorem gs_e3:gs_n3 = .region 1 gs_o1 false:=by kernel_rfl
noncomputable def gs_n5:Code:=cl gs_n4
noncomputable def gs_n6:Code:=cr gs_n4
theorem gs_e4:gs_n4 = .seq gs_n5 gs_n6:=by kernel_rfl
noncomputable def gs_o2:Array Oper:=opsOf gs_n5
theorem gs_e5:gs_n5 = .region 2 gs_o2 true:=by kernel_rfl
noncomputable def gs_n7:Code:=cl gs_n6
noncomputable def gs_n8:Code:=cr gs_n6
theorem gs_e6:gs_n6 = .seq gs_n7 gs_n8:=by kernel_rfl
noncomputable def gs_o3:Array Oper:=opsOf gs_n7
theorem gs_e7:gs_n7 = .region 3 gs_o3 true:=by kernel_rfl
noncomputable def gs_n9:Code:=cl gs_n8
noncomputable def gs_n10:Code:=cr gs_n8
theorem gs_e8:gs_n8 = .seq gs_n9 gs_n10:=by kernel_rfl
noncomputable def gs_o4:Array Oper:=opsOf gs_n9
theorem gs_e9:gs_n9 = .region 4 gs_o4 true:=by kernel_rfl
noncomputable def gs_n11:Code:=cl gs_n10
noncomputable def gs_n12:Code:=cr gs_n10
theorem gs_e10:gs_n10 = .seq gs_n11 gs_n12:=by kernel_rfl
noncomputable def gs_n13:Code:=cl gs_n11
theorem gs_e11:gs_n11 = .block 0 gs_n13:=by kernel_rfl
noncomputable def gs_n14:Code:=cl gs_n13
theorem gs_e13:gs_n13 = .loop gs_n14:=by kernel_rfl
noncomputable def gs_n15:Code:=cl gs_n14
noncomputable def gs_n16:Code:=cr gs_n14
theorem gs_e14:gs_n14 = .seq gs_n15 gs_n16:=by kernel_rfl
noncomputable def gs_n17:Code:=cl gs_n15
noncomputable def gs_n18:Code:=cr gs_n15
theorem gs_e15:gs_n15 = .seq gs_n17 gs_n18:=by kernel_rfl
noncomputable def gs_o5:Array Oper:=opsOf gs_n17
theorem gs_e17:gs_n17 = .region 5 gs_o5 false:=by kernel_rfl
noncomputable def gs_n19:Code:=cl gs_n18
noncomputable def gs_n20:Code:=cr gs_n18
theorem gs_e18:gs_n18 = .cond (.tmp 60) gs_n19 gs_n20:=by kernel_rfl
theorem gs_e19:gs_n19 = .skip:=by kernel_rfl
theorem gs_e20:gs_n20 = .exit 0:=by kernel_rfl
noncomputable def gs_n21:Code:=cl gs_n16
theorem gs_e16:gs_n16 = .block 1 gs_n21:=by kernel_rfl
noncomputable def gs_n22:Code:=cl gs_n21
noncomputable def gs_n23:Code:=cr gs_n21
theorem gs_e21:gs_n21 = .seq gs_n22 gs_n23:=by kernel_rfl
noncomputable def gs_o6:Array Oper:=opsOf gs_n22
theorem gs_e22:gs_n22 = .region 6 gs_o6 false:=by kernel_rfl
noncomputable def gs_n24:Code:=cl gs_n23
noncomputable def gs_n25:Code:=cr gs_n23
theorem gs_e23:gs_n23 = .seq gs_n24 gs_n25:=by kernel_rfl
noncomputable def gs_o7:Array Oper:=opsOf gs_n24
theorem gs_e24:gs_n24 = .region 7 gs_o7 false:=by kernel_rfl
noncomputable def gs_n26:Code:=cl gs_n25
noncomputable def gs_n27:Code:=cr gs_n25
theorem gs_e25:gs_n25 = .seq gs_n26 gs_n27:=by kernel_rfl
noncomputable def gs_o8:Array Oper:=opsOf gs_n26
theorem gs_e26:gs_n26 = .region 8 gs_o8 false:=by kernel_rfl
noncomputable def gs_n28:Code:=cl gs_n27
noncomputable def gs_n29:Code:=cr gs_n27
theorem gs_e27:gs_n27 = .cond (.tmp 67) gs_n28 gs_n29:=by kernel_rfl
theorem gs_e28:gs_n28 = .exit 0:=by kernel_rfl
theorem gs_e29:gs_n29 = .skip:=by kernel_rfl
noncomputable def gs_n30:Code:=cl gs_n12
noncomputable def gs_n31:Code:=cr gs_n12
theorem gs_e12:gs_n12 = .seq gs_n30 gs_n31:=by kernel_rfl
noncomputable def gs_o9:Array Oper:=opsOf gs_n30
theorem gs_e30:gs_n30 = .region 9 gs_o9 false:=by kernel_rfl
theorem gs_e31:gs_n31 = .ret:=by kernel_rfl
section
set_option maxRecDepth 100000
set_option linter.unusedSectionVars false
variable {Wb : World} {g i n cap cd pn pn1 pn2 d1 d2 t : Nat} {bd : Addr} (hn : 2 ≤ n) (hnb : n ≤ 1099511627776) (cp : Wb.cell? ((⟨g, i, none⟩ : Addr).add n) = some (.int .u32 (pn : Int))) (cp1 : Wb.cell? ((⟨g, i, none⟩ : Addr).add (n - 1)) = some (.int .u32 (pn1 : Int))) (cp2 : Wb.cell? ((⟨g, i, none⟩ : Addr).add (n - 2)) = some (.int .u32 (pn2 : Int))) (cd1 : Wb.cell? (bd.add (n - 1)) = some (.int .u32 (d1 : Int))) (cd2 : Wb.cell? (bd.add (n - 2)) = some (.int .u32 (d2 : Int))) (bp : pn < 4294967296) (bp1 : pn1 < 4294967296) (bp2 : pn2 < 4294967296) (bd1 : d1 < 4294967296) (bd2 : d2 < 4294967296) (hd : 2147483648 ≤ d1) (ht : pn * 4294967296 + pn1 = t) (ht64 : t < 18446744073709551616)
include hn hnb cp cp1 cp2 cd1 cd2 bp bp1 bp2 bd1 bd2 hd ht ht64
theorem gs_r0:RA 70 [(eqF (.slice (some (⟨g,i,none⟩:Addr)) (n+1) cap)),(eqF (.slice (some bd) n cd))] [] ⟨[(0,(.ref 0)),(1,(.ref 1))],[]⟩ ⟨[(0,(.ref 0)),(1,(.ref 1)),(4,(.int .u32 0))],[]⟩ Wb 0 gs_o0 false:=RA.of
   {  } (by kernel_rfl)
theorem gs_r1:RA 70 [(eqF (.slice (some bd) n cd)),(eqF (.int .i64 (n:Int))),(eqF (.slice (some (⟨g,i,none⟩:Addr)) (n+1) cap))] [] ⟨[(0,(.ref 2)),(1,(.ref 0)),(4,(.int .u32 0))],[]⟩ ⟨[(0,(.ref 2)),(1,(.ref 0)),(4,(.int .u32 0)),(5,(.ref 1))],[]⟩ Wb 1 gs_o1 false:=RA.of
   { pures:=[p1 (.blt .len [32]) (.ref 0) (.ref 1) fun _ _ _ _ hx=>h_len hx] } (by kernel_rfl)
theorem gs_r2:RA 70 [(eqF (.slice (some (⟨g,i,none⟩:Addr)) (n+1) cap)),(eqF (.int .i64 (n:Int))),(eqF (.pointer (some (((⟨g,i,none⟩:Addr)).add (n))))),(eqF (.int .u32 (pn:Int))),(eqF (.int .u64 (pn:Int))),(eqF (.int .u64 ((pn*4294967296:Nat):Int))),(eqF (.int .i64 ((n - 1:Nat):Int))),(eqF (.pointer (some (((⟨g,i,none⟩:Addr)).add (n - 1))))),(eqF (.int .u32 (pn1:Int))),(eqF (.int .u64 (pn1:Int))),(eqF (.int .u64 ((t:Int):Int))),(eqF (.slice (some bd) n cd))] [] ⟨[(0,(.ref 0)),(1,(.ref 11)),(4,(.int .u32 0)),(5,(.ref 1))],[]⟩ ⟨[(0,(.ref 0)),(1,(.ref 11)),(4,(.int .u32 0)),(5,(.ref 1)),(6,(.ref 10))],[]⟩ Wb 2 gs_o2 true:=RA.of
   { pures:=[p2 (.idx 32) (.ref 0) (.ref 1) (.ref 2) fun _ _ _ _ _ hx hy=>h_idx (k:=n) (by omega) hx hy,
      p1 (.ld 109) (.ref 2) (.ref 3) fun _ _ _ hb hx=>h_loadP cp hb load32_run hx,
      p1 (.conv 109 107) (.ref 3) (.ref 4) fun _ _ _ _ hx=>h_conv32 (by omega) (by omega) hx,
      p2 (.bin .shl 107 110) (.ref 4) (.int .u64 32) (.ref 5) fun _ _ _ _ _ hx hy=>h_shl32 (z:=((pn*4294967296:Nat):Int)) (by rw [IntKind.wrap_u64]; omega) hx hy,
      p2 (.bin .sub 3 3) (.ref 1) (.int .i64 1) (.ref 6) fun _ _ _ _ _ hx hy=>h_sub (z:=((n - 1:Nat):Int)) (by rw [IntKind.wrap_i64]; omega) hx hy,
      p2 (.idx 32) (.ref 0) (.ref 6) (.ref 7) fun _ _ _ _ _ hx hy=>h_idx (k:=n - 1) (by omega) hx hy,
      p1 (.ld 109) (.ref 7) (.ref 8) fun _ _ _ hb hx=>h_loadP cp1 hb load32_run hx,
      p1 (.conv 109 107) (.ref 8) (.ref 9) fun _ _ _ _ hx=>h_conv32 (by omega) (by omega) hx,
      p2 (.bin .or 107 107) (.ref 5) (.ref 9) (.ref 10) fun _ _ _ _ _ hx hy=>h_or64 (z:=((t:Int):Int)) (by rw [show ((pn*4294967296:Nat):Int)=(pn:Int)*4294967296 from by omega,← ht]; exact or_word pn pn1 bp bp1) hx hy] } (by kernel_rfl)
theorem gs_r3:RA 70 [(eqF (.int .i64 (n:Int))),(eqF (.int .i64 ((n - 1:Nat):Int))),(eqF (.slice (some bd) n cd)),(eqF (.pointer (some ((bd).add (n - 1))))),(eqF (.int .u32 (d1:Int))),(eqF (.int .u64 (d1:Int))),(eqF (.int .i64 ((n - 2:Nat):Int))),(eqF (.pointer (some ((bd).add (n - 2))))),(eqF (.int .u32 (d2:Int))),(eqF (.int .u64 (d2:Int))),(eqF (.slice (some (⟨g,i,none⟩:Addr)) (n+1) cap)),(eqF (.int .u64 ((t:Int):Int)))] [] ⟨[(0,(.ref 10)),(1,(.ref 2)),(4,(.int .u32 0)),(5,(.ref 0)),(6,(.ref 11))],[]⟩ ⟨[(0,(.ref 10)),(1,(.ref 2)),(4,(.int .u32 0)),(5,(.ref 0)),(6,(.ref 11)),(7,(.ref 5)),(8,(.ref 9))],[]⟩ Wb 3 gs_o3 true:=RA.of
   { pures:=[p2 (.bin .sub 3 3) (.ref 0) (.int .i64 1) (.ref 1) fun _ _ _ _ _ hx hy=>h_sub (z:=((n - 1:Nat):Int)) (by rw [IntKind.wrap_i64]; omega) hx hy,
      p2 (.idx 32) (.ref 2) (.ref 1) (.ref 3) fun _ _ _ _ _ hx hy=>h_idx (k:=n - 1) (by omega) hx hy,
      p1 (.ld 109) (.ref 3) (.ref 4) fun _ _ _ hb hx=>h_loadP cd1 hb load32_run hx,
      p1 (.conv 109 107) (.ref 4) (.ref 5) fun _ _ _ _ hx=>h_conv32 (by omega) (by omega) hx,
      p2 (.bin .sub 3 3) (.ref 0) (.int .i64 2) (.ref 6) fun _ _ _ _ _ hx hy=>h_sub (z:=((n - 2:Nat):Int)) (by rw [IntKind.wrap_i64]; omega) hx hy,
      p2 (.idx 32) (.ref 2) (.ref 6) (.ref 7) fun _ _ _ _ _ hx hy=>h_idx (k:=n - 2) (by omega) hx hy,
      p1 (.ld 109) (.ref 7) (.ref 8) fun _ _ _ hb hx=>h_loadP cd2 hb load32_run hx,
      p1 (.conv 109 107) (.ref 8) (.ref 9) fun _ _ _ _ hx=>h_conv32 (by omega) (by omega) hx] } (by kernel_rfl)
theorem gs_r4:RA 70 [(eqF (.int .u64 ((t:Int):Int))),(eqF (.int .u64 (d1:Int))),(eqF (.int .u64 ((t / d1:Nat):Int))),(eqF (.int .u64 ((t % d1:Nat):Int))),(eqF (.slice (some (⟨g,i,none⟩:Addr)) (n+1) cap)),(eqF (.slice (some bd) n cd)),(eqF (.int .i64 (n:Int))),(eqF (.int .u64 (d2:Int)))] [] ⟨[(0,(.ref 4)),(1,(.ref 5)),(4,(.int .u32 0)),(5,(.ref 6)),(6,(.ref 0)),(7,(.ref 1)),(8,(.ref 7))],[]⟩ ⟨[(0,(.ref 4)),(1,(.ref 5)),(4,(.int .u32 0)),(5,(.ref 6)),(6,(.ref 0)),(7,(.ref 1)),(8,(.ref 7)),(9,(.ref 2)),(10,(.ref 3))],[]⟩ Wb 4 gs_o4 true:=RA.of
   { pures:=[p2 (.bin .quo 107 107) (.ref 0) (.ref 1) (.ref 2) fun _ _ _ _ _ hx hy=>h_quo64 (by omega) (z:=((t / d1:Nat):Int)) (by rw [Int.tdiv_eq_ediv_of_nonneg (by omega),← Int.natCast_ediv]; exact wrap_u64_nat _ (Nat.lt_of_le_of_lt (Nat.div_le_self _ _) ht64)) hx hy,
      p2 (.bin .rem 107 107) (.ref 0) (.ref 1) (.ref 3) fun _ _ _ _ _ hx hy=>h_rem (by omega) (z:=((t % d1:Nat):Int)) (by rw [Int.tmod_eq_emod_of_nonneg (by omega),← Int.natCast_emod]) hx hy] } (by kernel_rfl)
theorem gs_r5 {q r:Nat} (hq0:0<q) (hq1:q≤4294967297) (hr:r≤4294967295) (c1:4294967295<q):RA 70 [(eqF (.int .u64 (q:Int))),(eqF (.slice (some (⟨g,i,none⟩:Addr)) (n+1) cap)),(eqF (.slice (some bd) n cd)),(eqF (.int .i64 (n:Int))),(eqF (.int .u64 ((t:Int):Int))),(eqF (.int .u64 (d1:Int))),(eqF (.int .u64 (d2:Int))),(eqF (.int .u64 (r:Int)))] [] ⟨[(0,(.ref 1)),(1,(.ref 2)),(4,(.int .u32 0)),(5,(.ref 3)),(6,(.ref 4)),(7,(.ref 5)),(8,(.ref 6)),(9,(.ref 0)),(10,(.ref 7))],[]⟩ ⟨[(0,(.ref 1)),(1,(.ref 2)),(4,(.int .u32 0)),(5,(.ref 3)),(6,(.ref 4)),(7,(.ref 5)),(8,(.ref 6)),(9,(.ref 0)),(10,(.ref 7)),(60,(.bool true))],[]⟩ Wb 5 gs_o5 false:=RA.of
   { pures:=[p2 (.bin .gtr 107 107) (.ref 0) (.int .u64 4294967295) (.bool true) fun _ _ _ _ _ hx hy=>h_gtr (r:=true) (by simp; omega) hx hy] } (by kernel_rfl)
theorem gs_r6 {q r:Nat} (hq0:0<q) (hq1:q≤4294967297):RA 70 [(eqF (.int .u64 (q:Int))),(eqF (.int .u64 ((q - 1:Nat):Int))),(eqF (.slice (some (⟨g,i,none⟩:Addr)) (n+1) cap)),(eqF (.slice (some bd) n cd)),(eqF (.int .i64 (n:Int))),(eqF (.int .u64 ((t:Int):Int))),(eqF (.int .u64 (d1:Int))),(eqF (.int .u64 (d2:Int))),(eqF (.int .u64 (r:Int)))] [] ⟨[(0,(.ref 2)),(1,(.ref 3)),(4,(.int .u32 0)),(5,(.ref 4)),(6,(.ref 5)),(7,(.ref 6)),(8,(.ref 7)),(9,(.ref 0)),(10,(.ref 8)),(60,(.bool true))],[]⟩ ⟨[(0,(.ref 2)),(1,(.ref 3)),(4,(.int .u32 0)),(5,(.ref 4)),(6,(.ref 5)),(7,(.ref 6)),(8,(.ref 7)),(9,(.ref 1)),(10,(.ref 8)),(60,(.bool true))],[]⟩ Wb 6 gs_o6 false:=RA.of
   { pures:=[p2 (.bin .sub 107 107) (.ref 0) (.int .u64 1) (.ref 1) fun _ _ _ _ _ hx hy=>h_sub (z:=((q - 1:Nat):Int)) (by rw [IntKind.wrap_u64]; omega) hx hy] } (by kernel_rfl)
theorem gs_r7 {q r:Nat} (hq0:0<q) (hq1:q≤4294967297) (hr:r≤4294967295):RA 70 [(eqF (.int .u64 (r:Int))),(eqF (.int .u64 (d1:Int))),(eqF (.int .u64 ((r+d1:Nat):Int))),(eqF (.slice (some (⟨g,i,none⟩:Addr)) (n+1) cap)),(eqF (.slice (some bd) n cd)),(eqF (.int .i64 (n:Int))),(eqF (.int .u64 ((t:Int):Int))),(eqF (.int .u64 (d2:Int))),(eqF (.int .u64 ((q - 1:Nat):Int)))] [] ⟨[(0,(.ref 3)),(1,(.ref 4)),(4,(.int .u32 0)),(5,(.ref 5)),(6,(.ref 6)),(7,(.ref 1)),(8,(.ref 7)),(9,(.ref 8)),(10,(.ref 0)),(60,(.bool true))],[]⟩ ⟨[(0,(.ref 3)),(1,(.ref 4)),(4,(.int .u32 0)),(5,(.ref 5)),(6,(.ref 6)),(7,(.ref 1)),(8,(.ref 7)),(9,(.ref 8)),(10,(.ref 2)),(60,(.bool true))],[]⟩ Wb 7 gs_o7 false:=RA.of
   { pures:=[p2 (.bin .add 107 107) (.ref 0) (.ref 1) (.ref 2) fun _ _ _ _ _ hx hy=>h_add (z:=((r+d1:Nat):Int)) (by rw [IntKind.wrap_u64]; omega) hx hy] } (by kernel_rfl)
theorem gs_r8 {q r:Nat} (hq0:0<q) (hq1:q≤4294967297) (hr:r≤4294967295) (hbk:4294967295<r+d1):RA 70 [(eqF (.int .u64 ((r+d1:Nat):Int))),(eqF (.slice (some (⟨g,i,none⟩:Addr)) (n+1) cap)),(eqF (.slice (some bd) n cd)),(eqF (.int .i64 (n:Int))),(eqF (.int .u64 ((t:Int):Int))),(eqF (.int .u64 (d1:Int))),(eqF (.int .u64 (d2:Int))),(eqF (.int .u64 ((q - 1:Nat):Int)))] [] ⟨[(0,(.ref 1)),(1,(.ref 2)),(4,(.int .u32 0)),(5,(.ref 3)),(6,(.ref 4)),(7,(.ref 5)),(8,(.ref 6)),(9,(.ref 7)),(10,(.ref 0)),(60,(.bool true))],[]⟩ ⟨[(0,(.ref 1)),(1,(.ref 2)),(4,(.int .u32 0)),(5,(.ref 3)),(6,(.ref 4)),(7,(.ref 5)),(8,(.ref 6)),(9,(.ref 7)),(10,(.ref 0)),(60,(.bool true)),(67,(.bool true))],[]⟩ Wb 8 gs_o8 false:=RA.of
   { pures:=[p2 (.bin .gtr 107 107) (.ref 0) (.int .u64 4294967295) (.bool true) fun _ _ _ _ _ hx hy=>h_gtr (r:=true) (by simp; omega) hx hy] } (by kernel_rfl)
theorem gs_r9 {q2 r2:Nat} (k1:q2<4294967296):RA 70 [(eqF (.int .u64 (q2:Int))),(eqF (.int .u32 (q2:Int))),(eqF (.slice (some (⟨g,i,none⟩:Addr)) (n+1) cap)),(eqF (.slice (some bd) n cd)),(eqF (.int .i64 (n:Int))),(eqF (.int .u64 ((t:Int):Int))),(eqF (.int .u64 (d1:Int))),(eqF (.int .u64 (d2:Int))),(eqF (.int .u64 (r2:Int)))] [] ⟨[(0,(.ref 2)),(1,(.ref 3)),(4,(.int .u32 0)),(5,(.ref 4)),(6,(.ref 5)),(7,(.ref 6)),(8,(.ref 7)),(9,(.ref 0)),(10,(.ref 8)),(60,(.bool true)),(67,(.bool true))],[]⟩ ⟨[(0,(.ref 2)),(1,(.ref 3)),(4,(.ref 1)),(5,(.ref 4)),(6,(.ref 5)),(7,(.ref 6)),(8,(.ref 7)),(9,(.ref 0)),(10,(.ref 8)),(60,(.bool true)),(67,(.bool true))],[]⟩ Wb 9 gs_o9 false:=RA.of
   { pures:=[p1 (.conv 107 109) (.ref 0) (.ref 1) fun _ _ _ _ hx=>h_conv64 (z:=(q2:Int)) (by rw [IntKind.wrap_u32]; omega) hx] } (by kernel_rfl)
theorem gs_r8b {q r:Nat} (hq0:0<q) (hq1:q≤4294967297) (hr:r≤4294967295) (hnb2:r+d1≤4294967295):RA 70 [(eqF (.int .u64 ((r+d1:Nat):Int))),(eqF (.slice (some (⟨g,i,none⟩:Addr)) (n+1) cap)),(eqF (.slice (some bd) n cd)),(eqF (.int .i64 (n:Int))),(eqF (.int .u64 ((t:Int):Int))),(eqF (.int .u64 (d1:Int))),(eqF (.int .u64 (d2:Int))),(eqF (.int .u64 ((q - 1:Nat):Int)))] [] ⟨[(0,(.ref 1)),(1,(.ref 2)),(4,(.int .u32 0)),(5,(.ref 3)),(6,(.ref 4)),(7,(.ref 5)),(8,(.ref 6)),(9,(.ref 7)),(10,(.ref 0)),(60,(.bool true))],[]⟩ ⟨[(0,(.ref 1)),(1,(.ref 2)),(4,(.int .u32 0)),(5,(.ref 3)),(6,(.ref 4)),(7,(.ref 5)),(8,(.ref 6)),(9,(.ref 7)),(10,(.ref 0)),(60,(.bool true)),(67,(.bool false))],[]⟩ Wb 8 gs_o8 false:=RA.of
   { pures:=[p2 (.bin .gtr 107 107) (.ref 0) (.int .u64 4294967295) (.bool false) fun _ _ _ _ _ hx hy=>h_gtr (r:=false) (by simp; omega) hx hy] } (by kernel_rfl)
theorem gs_r5b {q r:Nat} (hq0:0<q) (hq1:q≤4294967297) (hr:r≤4294967295) (c1n:q≤4294967295) (c2:r*4294967296+pn2<q*d2):RA 70 [(eqF (.int .u64 (q:Int))),(eqF (.int .u64 (d2:Int))),(eqF (.int .u64 ((q*d2:Nat):Int))),(eqF (.int .u64 (r:Int))),(eqF (.int .u64 ((r*4294967296:Nat):Int))),(eqF (.int .i64 (n:Int))),(eqF (.int .i64 ((n - 2:Nat):Int))),(eqF (.slice (some (⟨g,i,none⟩:Addr)) (n+1) cap)),(eqF (.pointer (some (((⟨g,i,none⟩:Addr)).add (n - 2))))),(eqF (.int .u32 (pn2:Int))),(eqF (.int .u64 (pn2:Int))),(eqF (.int .u64 (((r*4294967296+pn2:Nat):Int):Int))),(eqF (.slice (some bd) n cd)),(eqF (.int .u64 ((t:Int):Int))),(eqF (.int .u64 (d1:Int)))] [] ⟨[(0,(.ref 7)),(1,(.ref 12)),(4,(.int .u32 0)),(5,(.ref 5)),(6,(.ref 13)),(7,(.ref 14)),(8,(.ref 1)),(9,(.ref 0)),(10,(.ref 3))],[]⟩ ⟨[(0,(.ref 7)),(1,(.ref 12)),(4,(.int .u32 0)),(5,(.ref 5)),(6,(.ref 13)),(7,(.ref 14)),(8,(.ref 1)),(9,(.ref 0)),(10,(.ref 3)),(60,(.bool true))],[]⟩ Wb 5 gs_o5 false:=RA.of
   { pures:=[p2 (.bin .gtr 107 107) (.ref 0) (.int .u64 4294967295) (.bool false) fun _ _ _ _ _ hx hy=>h_gtr (r:=false) (by simp; omega) hx hy,
      p2 (.bin .mul 107 107) (.ref 0) (.ref 1) (.ref 2) fun _ _ _ _ _ hx hy=>h_mul (z:=((q*d2:Nat):Int)) (by rw [← Int.natCast_mul,IntKind.wrap_u64]; have:=mul_bd (show q<4294967296 by omega) bd2; omega) hx hy,
      p2 (.bin .shl 107 110) (.ref 3) (.int .u64 32) (.ref 4) fun _ _ _ _ _ hx hy=>h_shl32 (z:=((r*4294967296:Nat):Int)) (by rw [IntKind.wrap_u64]; omega) hx hy,
      p2 (.bin .sub 3 3) (.ref 5) (.int .i64 2) (.ref 6) fun _ _ _ _ _ hx hy=>h_sub (z:=((n - 2:Nat):Int)) (by rw [IntKind.wrap_i64]; omega) hx hy,
      p2 (.idx 32) (.ref 7) (.ref 6) (.ref 8) fun _ _ _ _ _ hx hy=>h_idx (k:=n - 2) (by omega) hx hy,
      p1 (.ld 109) (.ref 8) (.ref 9) fun _ _ _ hb hx=>h_loadP cp2 hb load32_run hx,
      p1 (.conv 109 107) (.ref 9) (.ref 10) fun _ _ _ _ hx=>h_conv32 (by omega) (by omega) hx,
      p2 (.bin .or 107 107) (.ref 4) (.ref 10) (.ref 11) fun _ _ _ _ _ hx hy=>h_or64 (z:=(((r*4294967296+pn2:Nat):Int):Int)) (by rw [show ((r*4294967296:Nat):Int)=(r:Int)*4294967296 from by omega]; exact or_word r pn2 (by omega) bp2) hx hy,
      p2 (.bin .gtr 107 107) (.ref 2) (.ref 11) (.bool true) fun _ _ _ _ _ hx hy=>h_gtr (r:=true) (by simp; omega) hx hy] } (by kernel_rfl)
theorem gs_r5c {q r:Nat} (hq1:q≤4294967297) (hr:r≤4294967295) (c1n:q≤4294967295) (c2n:q*d2≤r*4294967296+pn2):RA 70 [(eqF (.int .u64 (q:Int))),(eqF (.int .u64 (d2:Int))),(eqF (.int .u64 ((q*d2:Nat):Int))),(eqF (.int .u64 (r:Int))),(eqF (.int .u64 ((r*4294967296:Nat):Int))),(eqF (.int .i64 (n:Int))),(eqF (.int .i64 ((n - 2:Nat):Int))),(eqF (.slice (some (⟨g,i,none⟩:Addr)) (n+1) cap)),(eqF (.pointer (some (((⟨g,i,none⟩:Addr)).add (n - 2))))),(eqF (.int .u32 (pn2:Int))),(eqF (.int .u64 (pn2:Int))),(eqF (.int .u64 (((r*4294967296+pn2:Nat):Int):Int))),(eqF (.slice (some bd) n cd)),(eqF (.int .u64 ((t:Int):Int))),(eqF (.int .u64 (d1:Int)))] [] ⟨[(0,(.ref 7)),(1,(.ref 12)),(4,(.int .u32 0)),(5,(.ref 5)),(6,(.ref 13)),(7,(.ref 14)),(8,(.ref 1)),(9,(.ref 0)),(10,(.ref 3))],[]⟩ ⟨[(0,(.ref 7)),(1,(.ref 12)),(4,(.int .u32 0)),(5,(.ref 5)),(6,(.ref 13)),(7,(.ref 14)),(8,(.ref 1)),(9,(.ref 0)),(10,(.ref 3)),(60,(.bool false))],[]⟩ Wb 5 gs_o5 false:=RA.of
   { pures:=[p2 (.bin .gtr 107 107) (.ref 0) (.int .u64 4294967295) (.bool false) fun _ _ _ _ _ hx hy=>h_gtr (r:=false) (by simp; omega) hx hy,
      p2 (.bin .mul 107 107) (.ref 0) (.ref 1) (.ref 2) fun _ _ _ _ _ hx hy=>h_mul (z:=((q*d2:Nat):Int)) (by rw [← Int.natCast_mul,IntKind.wrap_u64]; have:=mul_bd (show q<4294967296 by omega) bd2; omega) hx hy,
      p2 (.bin .shl 107 110) (.ref 3) (.int .u64 32) (.ref 4) fun _ _ _ _ _ hx hy=>h_shl32 (z:=((r*4294967296:Nat):Int)) (by rw [IntKind.wrap_u64]; omega) hx hy,
      p2 (.bin .sub 3 3) (.ref 5) (.int .i64 2) (.ref 6) fun _ _ _ _ _ hx hy=>h_sub (z:=((n - 2:Nat):Int)) (by rw [IntKind.wrap_i64]; omega) hx hy,
      p2 (.idx 32) (.ref 7) (.ref 6) (.ref 8) fun _ _ _ _ _ hx hy=>h_idx (k:=n - 2) (by omega) hx hy,
      p1 (.ld 109) (.ref 8) (.ref 9) fun _ _ _ hb hx=>h_loadP cp2 hb load32_run hx,
      p1 (.conv 109 107) (.ref 9) (.ref 10) fun _ _ _ _ hx=>h_conv32 (by omega) (by omega) hx,
      p2 (.bin .or 107 107) (.ref 4) (.ref 10) (.ref 11) fun _ _ _ _ _ hx hy=>h_or64 (z:=(((r*4294967296+pn2:Nat):Int):Int)) (by rw [show ((r*4294967296:Nat):Int)=(r:Int)*4294967296 from by omega]; exact or_word r pn2 (by omega) bp2) hx hy,
      p2 (.bin .gtr 107 107) (.ref 2) (.ref 11) (.bool false) fun _ _ _ _ _ hx hy=>h_gtr (r:=false) (by simp; omega) hx hy] } (by kernel_rfl)
theorem gs_r9b {q r:Nat} (k1:q<4294967296):RA 70 [(eqF (.int .u64 (q:Int))),(eqF (.int .u32 (q:Int))),(eqF (.slice (some (⟨g,i,none⟩:Addr)) (n+1) cap)),(eqF (.slice (some bd) n cd)),(eqF (.int .i64 (n:Int))),(eqF (.int .u64 ((t:Int):Int))),(eqF (.int .u64 (d1:Int))),(eqF (.int .u64 (d2:Int))),(eqF (.int .u64 (r:Int)))] [] ⟨[(0,(.ref 2)),(1,(.ref 3)),(4,(.int .u32 0)),(5,(.ref 4)),(6,(.ref 5)),(7,(.ref 6)),(8,(.ref 7)),(9,(.ref 0)),(10,(.ref 8)),(60,(.bool false))],[]⟩ ⟨[(0,(.ref 2)),(1,(.ref 3)),(4,(.ref 1)),(5,(.ref 4)),(6,(.ref 5)),(7,(.ref 6)),(8,(.ref 7)),(9,(.ref 0)),(10,(.ref 8)),(60,(.bool false))],[]⟩ Wb 9 gs_o9 false:=RA.of
   { pures:=[p1 (.conv 107 109) (.ref 0) (.ref 1) fun _ _ _ _ hx=>h_conv64 (z:=(q:Int)) (by rw [IntKind.wrap_u32]; omega) hx] } (by kernel_rfl)
end
set_option maxRecDepth 100000 in
theorem guess_any (g i n cap cd pn pn1 pn2 d1 d2 t Qt:Nat) (bd:Addr) (W:World) (hn:2≤n) (hnb:n≤1099511627776) (cp:W.cell? ((⟨g,i,none⟩:Addr).add n)=some (.int .u32 (pn:Int))) (cp1:W.cell? ((⟨g,i,none⟩:Addr).add (n - 1))=some (.int .u32 (pn1:Int))) (cp2:W.cell? ((⟨g,i,none⟩:Addr).add (n - 2))=some (.int .u32 (pn2:Int))) (cd1:W.cell? (bd.add (n - 1))=some (.int .u32 (d1:Int))) (cd2:W.cell? (bd.add (n - 2))=some (.int .u32 (d2:Int))) (bp:pn<4294967296) (bp1:pn1<4294967296) (bp2:pn2<4294967296) (bd1:d1<4294967296) (bd2:d2<4294967296) (hd:2147483648≤d1) (ht:pn*4294967296+pn1=t) (ht64:t<18446744073709551616) (hle:pn≤d1) (hQb:Qt<4294967296) (hq0:Qt≤t / d1) (hQ:∀ q,t*4294967296+pn2<q*(d1*4294967296+d2)→Qt<q) :
  Calls Tryz.prog 158 #[.slice (some ⟨g,i,none⟩) (n+1) cap,.slice (some bd) n cd] W (GivesP (guessF Qt (d1*4294967296+d2) (t*4294967296+pn2)) W):=by
 refine calls_stW (S:=[(0,(eqF (.slice (some (⟨g,i,none⟩:Addr)) (n+1) cap))),(1,(eqF (.slice (some bd) n cd)))]) Tryz.func158 (by kernel_rfl) Tryz.ntmps158 (by simp) (fun x hx=>?_) fun a w hst=>?_
 ·simp only [List.mem_cons,List.not_mem_nil,or_false] at hx
  rcases hx with rfl | rfl
  ·exact ⟨_,rfl,rfl⟩
  ·exact ⟨_,rfl,rfl⟩
 show Code.wp _ gs_n0 _ a w
 rw [gs_e0]
 refine wp_seq ?_
 rw [gs_e1]
 refine (gs_r0 hn hnb cp cp1 cp2 cd1 cd2 bp bp1 bp2 bd1 bd2 hd ht ht64).run hst ?_
 clear hst
 intro a w hst
 show Code.wp _ gs_n2 _ a w
 rw [gs_e2]
 refine wp_seq ?_
 rw [gs_e3]
 refine (gs_r1 hn hnb cp cp1 cp2 cd1 cd2 bp bp1 bp2 bd1 bd2 hd ht ht64).run hst ?_
 clear hst
 intro a w hst
 show Code.wp _ gs_n4 _ a w
 rw [gs_e4]
 refine wp_seq ?_
 rw [gs_e5]
 refine (gs_r2 hn hnb cp cp1 cp2 cd1 cd2 bp bp1 bp2 bd1 bd2 hd ht ht64).run hst ?_
 clear hst
 intro a w hst
 show Code.wp _ gs_n6 _ a w
 rw [gs_e6]
 refine wp_seq ?_
 rw [gs_e7]
 refine (gs_r3 hn hnb cp cp1 cp2 cd1 cd2 bp bp1 bp2 bd1 bd2 hd ht ht64).run hst ?_
 clear hst
 intro a w hst
 show Code.wp _ gs_n8 _ a w
 rw [gs_e8]
 refine wp_seq ?_
 rw [gs_e9]
 refine (gs_r4 hn hnb cp cp1 cp2 cd1 cd2 bp bp1 bp2 bd1 bd2 hd ht ht64).run hst ?_
 clear hst
 intro a w hst
 show Code.wp _ gs_n10 _ a w
 rw [gs_e10]
 refine wp_seq ?_
 rw [gs_e11]
 refine wp_block ?_
 show Code.wp _ gs_n13 _ a w
 rw [gs_e13]
 obtain ⟨g1,g2,g3,_⟩:=guess_top ht bp1 hle hd bd1
 refine loop_ghost (fun (x:Nat × Nat) a w=>St W 70 [(0,(eqF (.slice (some (⟨g,i,none⟩:Addr)) (n+1) cap))),(1,(eqF (.slice (some bd) n cd))),(4,(eqF (.int .u32 0))),(5,(eqF (.int .i64 (n:Int)))),(6,(eqF (.int .u64 ((t:Int):Int)))),(7,(eqF (.int .u64 (d1:Int)))),(8,(eqF (.int .u64 (d2:Int)))),(9,(eqF (.int .u64 (x.1:Int)))),(10,(eqF (.int .u64 (x.2:Int))))] [] a w∧x.1*d1+x.2=t∧Qt≤x.1∧x.2≤4294967295∧x.1≤4294967297) (fun x=>x.1) ?_ (t / d1,t % d1) ⟨hst,g2,hq0,by show t % d1≤_; omega,g1⟩
 rintro ⟨q,r⟩ a w ⟨hst,hqr,hQq,hr,hq1⟩
 simp only [] at hst hqr hQq hr hq1
 show Code.wp _ gs_n14 _ a w
 rcases Nat.lt_or_ge 4294967295 q with c1 | c1n
 ·have hQl:Qt<q:=by omega
  have hq0:0<q:=by omega
  rcases Nat.lt_or_ge 4294967295 (r+d1) with hbk | hnb2
  ·rw [gs_e14]
   refine wp_seq ?_
   rw [gs_e15]
   refine wp_seq ?_
   rw [gs_e17]
   refine (gs_r5 hn hnb cp cp1 cp2 cd1 cd2 bp bp1 bp2 bd1 bd2 hd ht ht64 hq0 hq1 hr c1).run hst ?_
   clear hst
   intro a w hst
   show Code.wp _ gs_n18 _ a w
   rw [gs_e18]
   refine wp_cond_true (st_bool hst 9 rfl) ?_
   show Code.wp _ gs_n19 _ a w
   rw [gs_e19]
   refine wp_skip ?_
   show Code.wp _ gs_n16 _ a w
   rw [gs_e16]
   refine wp_block ?_
   show Code.wp _ gs_n21 _ a w
   rw [gs_e21]
   refine wp_seq ?_
   rw [gs_e22]
   refine (gs_r6 hn hnb cp cp1 cp2 cd1 cd2 bp bp1 bp2 bd1 bd2 hd ht ht64 hq0 hq1).run hst ?_
   clear hst
   intro a w hst
   show Code.wp _ gs_n23 _ a w
   rw [gs_e23]
   refine wp_seq ?_
   rw [gs_e24]
   refine (gs_r7 hn hnb cp cp1 cp2 cd1 cd2 bp bp1 bp2 bd1 bd2 hd ht ht64 hq0 hq1 hr).run hst ?_
   clear hst
   intro a w hst
   show Code.wp _ gs_n25 _ a w
   rw [gs_e25]
   refine wp_seq ?_
   rw [gs_e26]
   refine (gs_r8 hn hnb cp cp1 cp2 cd1 cd2 bp bp1 bp2 bd1 bd2 hd ht ht64 hq0 hq1 hr hbk).run hst ?_
   clear hst
   intro a w hst
   show Code.wp _ gs_n27 _ a w
   rw [gs_e27]
   refine wp_cond_true (st_bool hst 10 rfl) ?_
   show Code.wp _ gs_n28 _ a w
   rw [gs_e28]
   refine wp_exit ?_
   obtain ⟨k1,k2⟩:=guess_brk (pn2:=pn2) (guess_next hqr hq0) ht bp1 hle (by omega) bd2 (show 4294967296≤r+d1 by omega)
   generalize hq2:q - 1=q2 at *
   generalize hr2:r+d1=r2 at *
   have hqr2:=guess_next hqr hq0
   rw [hq2,hr2] at hqr2
   show Code.wp _ gs_n12 _ a w
   rw [gs_e12]
   refine wp_seq ?_
   rw [gs_e30]
   refine (gs_r9 hn hnb cp cp1 cp2 cd1 cd2 bp bp1 bp2 bd1 bd2 hd ht ht64 k1).run hst ?_
   clear hst
   intro a w hst
   show Code.wp _ gs_n31 _ a w
   rw [gs_e31]
   refine wp_ret ?_
   exact ret_tmp_of hst rfl 2 rfl (fun v w h=>⟨q2,h,k1,by omega,guess_ok hqr2 k2⟩)
  ·rw [gs_e14]
   refine wp_seq ?_
   rw [gs_e15]
   refine wp_seq ?_
   rw [gs_e17]
   refine (gs_r5 hn hnb cp cp1 cp2 cd1 cd2 bp bp1 bp2 bd1 bd2 hd ht ht64 hq0 hq1 hr c1).run hst ?_
   clear hst
   intro a w hst
   show Code.wp _ gs_n18 _ a w
   rw [gs_e18]
   refine wp_cond_true (st_bool hst 9 rfl) ?_
   show Code.wp _ gs_n19 _ a w
   rw [gs_e19]
   refine wp_skip ?_
   show Code.wp _ gs_n16 _ a w
   rw [gs_e16]
   refine wp_block ?_
   show Code.wp _ gs_n21 _ a w
   rw [gs_e21]
   refine wp_seq ?_
   rw [gs_e22]
   refine (gs_r6 hn hnb cp cp1 cp2 cd1 cd2 bp bp1 bp2 bd1 bd2 hd ht ht64 hq0 hq1).run hst ?_
   clear hst
   intro a w hst
   show Code.wp _ gs_n23 _ a w
   rw [gs_e23]
   refine wp_seq ?_
   rw [gs_e24]
   refine (gs_r7 hn hnb cp cp1 cp2 cd1 cd2 bp bp1 bp2 bd1 bd2 hd ht ht64 hq0 hq1 hr).run hst ?_
   clear hst
   intro a w hst
   show Code.wp _ gs_n25 _ a w
   rw [gs_e25]
   refine wp_seq ?_
   rw [gs_e26]
   refine (gs_r8b hn hnb cp cp1 cp2 cd1 cd2 bp bp1 bp2 bd1 bd2 hd ht ht64 hq0 hq1 hr hnb2).run hst ?_
   clear hst
   intro a w hst
   show Code.wp _ gs_n27 _ a w
   rw [gs_e27]
   refine wp_cond_false (st_bool hst 10 rfl) ?_
   show Code.wp _ gs_n29 _ a w
   rw [gs_e29]
   refine wp_skip ?_
   exact ⟨(q - 1,r+d1),⟨(hst.to ⟨hst.slots.get (k:=0) rfl,hst.slots.get (k:=1) rfl,hst.slots.get (k:=2) rfl,hst.slots.get (k:=3) rfl,hst.slots.get (k:=4) rfl,hst.slots.get (k:=5) rfl,hst.slots.get (k:=6) rfl,hst.slots.get (k:=7) rfl,hst.slots.get (k:=8) rfl,trivial⟩),guess_next hqr hq0,by show Qt≤q - 1; omega,by show r+d1≤_; omega,by show q - 1≤_; omega⟩,by show q - 1<q; omega⟩
 ·rcases Nat.lt_or_ge (r*4294967296+pn2) (q*d2) with c2 | c2n
  ·have hQl:Qt<q:=guess_dec hqr hQ c2
   have hq0:0<q:=by omega
   rcases Nat.lt_or_ge 4294967295 (r+d1) with hbk | hnb2
   ·rw [gs_e14]
    refine wp_seq ?_
    rw [gs_e15]
    refine wp_seq ?_
    rw [gs_e17]
    refine (gs_r5b hn hnb cp cp1 cp2 cd1 cd2 bp bp1 bp2 bd1 bd2 hd ht ht64 hq0 hq1 hr c1n c2).run hst ?_
    clear hst
    intro a w hst
    show Code.wp _ gs_n18 _ a w
    rw [gs_e18]
    refine wp_cond_true (st_bool hst 9 rfl) ?_
    show Code.wp _ gs_n19 _ a w
    rw [gs_e19]
    refine wp_skip ?_
    show Code.wp _ gs_n16 _ a w
    rw [gs_e16]
    refine wp_block ?_
    show Code.wp _ gs_n21 _ a w
    rw [gs_e21]
    refine wp_seq ?_
    rw [gs_e22]
    refine (gs_r6 hn hnb cp cp1 cp2 cd1 cd2 bp bp1 bp2 bd1 bd2 hd ht ht64 hq0 hq1).run hst ?_
    clear hst
    intro a w hst
    show Code.wp _ gs_n23 _ a w
    rw [gs_e23]
    refine wp_seq ?_
    rw [gs_e24]
    refine (gs_r7 hn hnb cp cp1 cp2 cd1 cd2 bp bp1 bp2 bd1 bd2 hd ht ht64 hq0 hq1 hr).run hst ?_
    clear hst
    intro a w hst
    show Code.wp _ gs_n25 _ a w
    rw [gs_e25]
    refine wp_seq ?_
    rw [gs_e26]
    refine (gs_r8 hn hnb cp cp1 cp2 cd1 cd2 bp bp1 bp2 bd1 bd2 hd ht ht64 hq0 hq1 hr hbk).run hst ?_
    clear hst
    intro a w hst
    show Code.wp _ gs_n27 _ a w
    rw [gs_e27]
    refine wp_cond_true (st_bool hst 10 rfl) ?_
    show Code.wp _ gs_n28 _ a w
    rw [gs_e28]
    refine wp_exit ?_
    obtain ⟨k1,k2⟩:=guess_brk (pn2:=pn2) (guess_next hqr hq0) ht bp1 hle (by omega) bd2 (show 4294967296≤r+d1 by omega)
    generalize hq2:q - 1=q2 at *
    generalize hr2:r+d1=r2 at *
    have hqr2:=guess_next hqr hq0
    rw [hq2,hr2] at hqr2
    show Code.wp _ gs_n12 _ a w
    rw [gs_e12]
    refine wp_seq ?_
    rw [gs_e30]
    refine (gs_r9 hn hnb cp cp1 cp2 cd1 cd2 bp bp1 bp2 bd1 bd2 hd ht ht64 k1).run hst ?_
    clear hst
    intro a w hst
    show Code.wp _ gs_n31 _ a w
    rw [gs_e31]
    refine wp_ret ?_
    exact ret_tmp_of hst rfl 2 rfl (fun v w h=>⟨q2,h,k1,by omega,guess_ok hqr2 k2⟩)
   ·rw [gs_e14]
    refine wp_seq ?_
    rw [gs_e15]
    refine wp_seq ?_
    rw [gs_e17]
    refine (gs_r5b hn hnb cp cp1 cp2 cd1 cd2 bp bp1 bp2 bd1 bd2 hd ht ht64 hq0 hq1 hr c1n c2).run hst ?_
    clear hst
    intro a w hst
    show Code.wp _ gs_n18 _ a w
    rw [gs_e18]
    refine wp_cond_true (st_bool hst 9 rfl) ?_
    show Code.wp _ gs_n19 _ a w
    rw [gs_e19]
    refine wp_skip ?_
    show Code.wp _ gs_n16 _ a w
    rw [gs_e16]
    refine wp_block ?_
    show Code.wp _ gs_n21 _ a w
    rw [gs_e21]
    refine wp_seq ?_
    rw [gs_e22]
    refine (gs_r6 hn hnb cp cp1 cp2 cd1 cd2 bp bp1 bp2 bd1 bd2 hd ht ht64 hq0 hq1).run hst ?_
    clear hst
    intro a w hst
    show Code.wp _ gs_n23 _ a w
    rw [gs_e23]
    refine wp_seq ?_
    rw [gs_e24]
    refine (gs_r7 hn hnb cp cp1 cp2 cd1 cd2 bp bp1 bp2 bd1 bd2 hd ht ht64 hq0 hq1 hr).run hst ?_
    clear hst
    intro a w hst
    show Code.wp _ gs_n25 _ a w
    rw [gs_e25]
    refine wp_seq ?_
    rw [gs_e26]
    refine (gs_r8b hn hnb cp cp1 cp2 cd1 cd2 bp bp1 bp2 bd1 bd2 hd ht ht64 hq0 hq1 hr hnb2).run hst ?_
    clear hst
    intro a w hst
    show Code.wp _ gs_n27 _ a w
    rw [gs_e27]
    refine wp_cond_false (st_bool hst 10 rfl) ?_
    show Code.wp _ gs_n29 _ a w
    rw [gs_e29]
    refine wp_skip ?_
    exact ⟨(q - 1,r+d1),⟨(hst.to ⟨hst.slots.get (k:=0) rfl,hst.slots.get (k:=1) rfl,hst.slots.get (k:=2) rfl,hst.slots.get (k:=3) rfl,hst.slots.get (k:=4) rfl,hst.slots.get (k:=5) rfl,hst.slots.get (k:=6) rfl,hst.slots.get (k:=7) rfl,hst.slots.get (k:=8) rfl,trivial⟩),guess_next hqr hq0,by show Qt≤q - 1; omega,by show r+d1≤_; omega,by show q - 1≤_; omega⟩,by show q - 1<q; omega⟩
  ·rw [gs_e14]
   refine wp_seq ?_
   rw [gs_e15]
   refine wp_seq ?_
   rw [gs_e17]
   refine (gs_r5c hn hnb cp cp1 cp2 cd1 cd2 bp bp1 bp2 bd1 bd2 hd ht ht64 hq1 hr c1n c2n).run hst ?_
   clear hst
   intro a w hst
   show Code.wp _ gs_n18 _ a w
   rw [gs_e18]
   refine wp_cond_false (st_bool hst 9 rfl) ?_
   show Code.wp _ gs_n20 _ a w
   rw [gs_e20]
   refine wp_exit ?_
   have k1:q<4294967296:=by omega
   have k2:q*d2≤r*4294967296+pn2:=by omega
   have hqr2:=hqr
   show Code.wp _ gs_n12 _ a w
   rw [gs_e12]
   refine wp_seq ?_
   rw [gs_e30]
   refine (gs_r9b hn hnb cp cp1 cp2 cd1 cd2 bp bp1 bp2 bd1 bd2 hd ht ht64 k1).run hst ?_
   clear hst
   intro a w hst
   show Code.wp _ gs_n31 _ a w
   rw [gs_e31]
   refine wp_ret ?_
   exact ret_tmp_of hst rfl 2 rfl (fun v w h=>⟨q,h,k1,by omega,guess_ok hqr2 k2⟩)
end Go.Proofs.YtgaehhapjnbieaaGreat
