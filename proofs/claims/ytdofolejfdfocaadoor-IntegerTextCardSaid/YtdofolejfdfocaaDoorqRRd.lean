/- The reference's Read of integers (written by wip/tools/gen_txt.py). -/
import Derived.Test.YtdofolejfdfocaaDoorqQr
namespace Go.Proofs.YtdofolejfdfocaaDoor
open Go.RowKit Go.Lib

/-- What Read gives: the number, or the error about the form. -/
def readP (o : Option Int) : PF := tup2F (intF (o.getD 0)) (eqF (.int .i64 (if o.isSome then 0 else 4)))
theorem readP_none : readP none = tup2F (intF 0) (eqF (.int .i64 4)) := rfl
theorem readP_some (z : Int) : readP (some z) = tup2F (intF z) (eqF (.int .i64 0)) := rfl
theorem b_ne {b c : UInt8} (h : b ≠ c) : ¬ b.toNat = c.toNat := fun e => h (UInt8.toNat_inj.1 e)
theorem chr_ne {b c : UInt8} {n : Int} (h : b ≠ c) (e : (c.toNat : Int) = n) : ((b.toNat : Int) == n) = false := by
  subst e
  have := b_ne h
  rw [beq_eq_false_iff_ne]
  omega
theorem get_lt {l : List UInt8} {k : Nat} {c : UInt8} (h : l[k]? = some c) : k < l.length := (List.getElem?_eq_some_iff.1 h).1
theorem next_chr {l : List UInt8} {k : Nat} (h : k ≤ l.length) : k = l.length ∨ ∃ c, l[k]? = some c := by
  rcases Nat.lt_or_ge k l.length with h1 | h1
  · exact .inr ⟨_, List.getElem?_eq_getElem h1⟩
  · exact .inl (by omega)
theorem take_next {l : List UInt8} {k : Nat} {c : UInt8} (h : l[k]? = some c) : l.take (k + 1) = l.take k ++ [c] := by
  rw [List.take_add_one, h]
  rfl
theorem dv_next {l : List UInt8} {k : Nat} {c : UInt8} (h : l[k]? = some c) : dvA 0 (l.take (k + 1)) = 10 * dvA 0 (l.take k) + dgt c := by
  rw [take_next h, dvA_append, dvA_cons, dvA_nil]
theorem all_next {l : List UInt8} {k : Nat} {c : UInt8} (h : l[k]? = some c) (ha : (l.take k).all isD = true) (hc : isD c = true) : (l.take (k + 1)).all isD = true := by
  rw [take_next h, List.all_append, ha, List.all_cons, hc]
  rfl
theorem sm_dv {l : List UInt8} {k v : Nat} (hv : v = dvA 0 (l.take k)) (ha : (l.take k).all isD = true) (hk : k ≤ 2000) : Sm ((v : Nat) : Int) 224 := by
  have h1 := dv_lt _ ha
  have h2 : (l.take k).length ≤ 2000 := by rw [List.length_take]; omega
  show ((v : Nat) : Int).natAbs < _
  rw [Int.natAbs_natCast, hv]
  exact Nat.lt_of_lt_of_le h1 (pow_nine (by omega))
theorem sm_chr (c : UInt8) : Sm ((c.toNat : Int) - 48) 2 := sm_i64 (by have := c.toNat_lt; omega) (by have := c.toNat_lt; omega)
theorem kRMadeT {v i : Nat} {va vb : Value} {w : World} (ha : (natF ((v : Nat) : Int).natAbs).p va w) (hb : (eqF (.bool true)).p vb w) (sv : Sm ((v : Nat) : Int) i) (hi : i ≤ 1000 := by decide) : Calls Tryd.prog 19 #[va, vb] w (GivesP (intF (-((v : Nat) : Int))) w) := by
  have hb : vb = .bool true := hb
  rw [hb]
  exact Made_nat va v true w ha (Nat.le_trans (len_le_pow sv) (by omega))
theorem kRMadeU {v i : Nat} {va vb : Value} {w : World} (ha : (natF ((v : Nat) : Int).natAbs).p va w) (hb : (eqF (.bool false)).p vb w) (sv : Sm ((v : Nat) : Int) i) (hi : i ≤ 1000 := by decide) : Calls Tryd.prog 19 #[va, vb] w (GivesP (intF ((v : Nat) : Int)) w) := by
  have hb : vb = .bool false := hb
  rw [hb]
  exact Made_nat va v false w ha (Nat.le_trans (len_le_pow sv) (by omega))
theorem not_num {l : List UInt8} {k : Nat} {c : UInt8} (hc : l[k]? = some c) (h : c.toNat < 48 ∨ 57 < c.toNat) : isNum l = false := by
  have hm : c ∈ l := List.mem_of_getElem? hc
  have : l.all isD = false := by
    rw [List.all_eq_false]
    refine ⟨c, hm, ?_⟩
    simp only [isD, Bool.and_eq_true, decide_eq_true_eq]
    omega
  unfold isNum
  rw [this, Bool.and_false]
theorem num_of {l : List UInt8} {b : UInt8} (hl : l ≠ []) (h0 : l[0]? = some b) (h : b ≠ 48 ∨ l.length ≤ 1) (ha : l.all isD = true) : isNum l = true := by
  cases l with
  | nil => exact absurd rfl hl
  | cons c r =>
    simp only [List.getElem?_cons_zero, Option.some.injEq] at h0
    subst h0
    unfold isNum
    rw [ha]
    simp only [List.isEmpty_cons, Bool.not_false, List.head?_cons, Bool.true_and, Bool.and_true, Bool.not_eq_true', Bool.and_eq_false_iff, beq_eq_false_iff_ne, decide_eq_false_iff_not]
    rcases h with h | h
    · exact .inl fun e => h (Option.some.inj e)
    · exact .inr (by omega)
theorem read_badN {ds : List UInt8} {k : Nat} {c : UInt8} (hc : ds[k]? = some c) (h : c.toNat < 48 ∨ 57 < c.toNat) : readOf (45 :: ds) = none := by
  simp only [readOf, if_true, not_num hc h, Bool.false_and, Bool.false_eq_true, if_false]
theorem read_badP {ds : List UInt8} {b : UInt8} {k : Nat} {c : UInt8} (hds : ds ≠ []) (h0 : ds[0]? = some b) (h45 : b ≠ 45) (hc : ds[k]? = some c) (h : c.toNat < 48 ∨ 57 < c.toNat) : readOf ds = none := by
  cases ds with
  | nil => exact absurd rfl hds
  | cons a r =>
    simp only [List.getElem?_cons_zero, Option.some.injEq] at h0
    subst h0
    simp only [readOf, if_neg h45, not_num hc h, Bool.false_eq_true, if_false]
theorem read_goodN {ds : List UInt8} {b : UInt8} {v : Nat} (hds : ds ≠ []) (h0 : ds[0]? = some b) (h48 : b ≠ 48) (ha : ds.all isD = true) (hv : v = dvA 0 ds) : readOf (45 :: ds) = some (-((v : Nat) : Int)) := by
  have h1 : (ds == [48]) = false := by
    rw [beq_eq_false_iff_ne]
    rintro rfl
    simp only [List.getElem?_cons_zero, Option.some.injEq] at h0
    exact h48 h0.symm
  simp only [readOf, if_true, num_of hds h0 (.inl h48) ha, h1, Bool.not_false, Bool.and_self]
  rw [hv]
  rfl
theorem read_goodP {ds : List UInt8} {b : UInt8} {v : Nat} (hds : ds ≠ []) (h0 : ds[0]? = some b) (h45 : b ≠ 45) (h48 : b ≠ 48 ∨ ds.length ≤ 1) (ha : ds.all isD = true) (hv : v = dvA 0 ds) : readOf ds = some ((v : Nat) : Int) := by
  have hn := num_of hds h0 h48 ha
  cases ds with
  | nil => exact absurd rfl hds
  | cons a r =>
    simp only [List.getElem?_cons_zero, Option.some.injEq] at h0
    subst h0
    simp only [readOf, if_neg h45, hn, if_true]
    rw [hv]
    rfl
theorem read_48 (s : List UInt8) : readOf (45 :: 48 :: s) = none := by
  cases s with
  | nil => rfl
  | cons a r => simp [readOf, isNum]
theorem read_lead {b : UInt8} {r : List UInt8} (h48 : b = 48) (h1 : 1 < (b :: r).length) : readOf (b :: r) = none := by
  subst h48
  have : isNum (48 :: r) = false := by
    unfold isNum
    rw [decide_eq_true h1]
    rfl
  simp only [readOf, this]
  rfl
set_option maxRecDepth 100000 in
theorem RRead_big {bs : List UInt8} (va : Value) (W : World) (hva : (eqF (.string ⟨List.toArray bs⟩)).p va W) (_hl : 2000 < bs.length) : Calls Tryd.prog 8 #[va] W (GivesP (tup2F (intF 0) (eqF (.int .i64 2))) W) := by
  let E : List PF := [(eqF (.string ⟨List.toArray bs⟩)), (eqF (.int .i64 (bs.length : Int))), (intF 0)]
  let EB : List CF := [zeroIF, (boxIF 0)]
  exact auto_calls (E := E) (EB := EB) (fs := [(.ref 0)]) (r := (.tup2 (.ref 2) (.int .i64 2)))
   { pures := [p1 (.blt .len [9]) (.ref 0) (.ref 1) fun _ _ _ _ hx => h_lenS hx,
      p2 (.bin .gtr 3 3) (.ref 1) (.int .i64 2000) (.bool true) fun _ _ _ _ _ hx hy => h_gtr (r := true) (by simp only [decide_eq_true_eq]; omega) hx hy,
      p0 (.bld 27 []) (.ref 2) fun _ _ _ => h_build0],
     loads := [⟨27, 0, 1, (.ref 2), fun w q h => loadI_int w q h⟩],
     allocs := [⟨27, 0, _, allocI_run, allocI_old⟩],
     stores := [⟨27, 0, 0, (.ref 2), 1, (storeI_zero _)⟩] }
   Tryd.func8 ⟨hva, trivial⟩ (by kernel_rfl)
set_option maxRecDepth 100000 in
theorem RRead_E (va : Value) (W : World) (hva : (eqF (.string ⟨List.toArray ([] : List UInt8)⟩)).p va W) : Calls Tryd.prog 8 #[va] W (GivesP (tup2F (intF 0) (eqF (.int .i64 4))) W) := by
  let E : List PF := [(eqF (.string ⟨List.toArray ([] : List UInt8)⟩)), (eqF (.int .i64 (([] : List UInt8).length : Int))), (intF 0)]
  let EB : List CF := [zeroIF, (boxIF 0)]
  exact auto_calls (E := E) (EB := EB) (fs := [(.ref 0)]) (r := (.tup2 (.ref 2) (.int .i64 4)))
   { pures := [p1 (.blt .len [9]) (.ref 0) (.ref 1) fun _ _ _ _ hx => h_lenS hx,
      p2 (.bin .gtr 3 3) (.ref 1) (.int .i64 2000) (.bool false) fun _ _ _ _ _ hx hy => h_gtr (r := false) (by decide) hx hy,
      p2 (.bin .gtr 3 3) (.ref 1) (.int .i64 0) (.bool false) fun _ _ _ _ _ hx hy => h_gtr (r := false) (by decide) hx hy,
      p2 (.bin .eql 9 9) (.ref 0) (.str { data := #[] }) (.bool true) fun _ _ _ _ _ hx hy => h_eqlS (a := ([] : List UInt8)) (b := []) (by decide) hx hy,
      p0 (.bld 27 []) (.ref 2) fun _ _ _ => h_build0],
     loads := [⟨27, 0, 1, (.ref 2), fun w q h => loadI_int w q h⟩],
     allocs := [⟨27, 0, _, allocI_run, allocI_old⟩],
     stores := [⟨27, 0, 0, (.ref 2), 1, (storeI_zero _)⟩] }
   Tryd.func8 ⟨hva, trivial⟩ (by kernel_rfl)
set_option maxRecDepth 100000 in
theorem RRead_N1 {ds : List UInt8} (va : Value) (W : World) (hva : (eqF (.string ⟨List.toArray (45 :: ds)⟩)).p va W) (_hlen : ds.length ≤ 1999) (hds : ds = []) : Calls Tryd.prog 8 #[va] W (GivesP (tup2F (intF 0) (eqF (.int .i64 4))) W) := by
  let E : List PF := [(eqF (.string ⟨List.toArray (45 :: ds)⟩)), (eqF (.int .i64 ((45 :: ds).length : Int))), (eqF (.int .u8 ((45 : UInt8).toNat : Int))), (eqF (.string ⟨List.toArray ds⟩)), (intF 0)]
  let EB : List CF := [zeroIF, (boxIF 0)]
  exact auto_calls (E := E) (EB := EB) (fs := [(.ref 0)]) (r := (.tup2 (.ref 4) (.int .i64 4)))
   { pures := [p1 (.blt .len [9]) (.ref 0) (.ref 1) fun _ _ _ _ hx => h_lenS hx,
      p2 (.bin .gtr 3 3) (.ref 1) (.int .i64 2000) (.bool false) fun _ _ _ _ _ hx hy => h_gtr (r := false) (by simp only [decide_eq_false_iff_not, List.length_cons]; omega) hx hy,
      p2 (.bin .gtr 3 3) (.ref 1) (.int .i64 0) (.bool true) fun _ _ _ _ _ hx hy => h_gtr (r := true) (by rw [decide_eq_true_eq]; simp only [List.length_cons]; omega) hx hy,
      p2 (.ixv 9) (.ref 0) (.int .i64 0) (.ref 2) fun _ _ _ _ _ hx hy => h_chr (bs := (45 :: ds)) (k := 0) rfl hx hy,
      p2 (.bin .eql 5 5) (.ref 2) (.int .u8 45) (.bool true) fun _ _ _ _ _ hx hy => h_eqlI (r := true) (by decide) hx hy,
      p2 (.slc 9 true false false) (.ref 0) (.int .i64 1) (.ref 3) fun _ _ _ _ _ hx hy => h_from (bs := (45 :: ds)) (k := 1) (by simp) hx hy,
      p2 (.bin .eql 9 9) (.ref 3) (.str { data := #[] }) (.bool true) fun _ _ _ _ _ hx hy => h_eqlS (a := ds) (b := []) (by simpa using hds) hx hy,
      p0 (.bld 27 []) (.ref 4) fun _ _ _ => h_build0],
     loads := [⟨27, 0, 1, (.ref 4), fun w q h => loadI_int w q h⟩],
     allocs := [⟨27, 0, _, allocI_run, allocI_old⟩],
     stores := [⟨27, 0, 0, (.ref 4), 1, (storeI_zero _)⟩] }
   Tryd.func8 ⟨hva, trivial⟩ (by kernel_rfl)
set_option maxRecDepth 100000 in
theorem RRead_N2 {ds : List UInt8} (va : Value) (W : World) (hva : (eqF (.string ⟨List.toArray (45 :: ds)⟩)).p va W) (_hlen : ds.length ≤ 1999) (hds : ds ≠ []) (h0 : ds[0]? = some 48) : Calls Tryd.prog 8 #[va] W (GivesP (tup2F (intF 0) (eqF (.int .i64 4))) W) := by
  let E : List PF := [(eqF (.string ⟨List.toArray (45 :: ds)⟩)), (eqF (.int .i64 ((45 :: ds).length : Int))), (eqF (.int .u8 ((45 : UInt8).toNat : Int))), (eqF (.string ⟨List.toArray ds⟩)), (eqF (.int .u8 ((48 : UInt8).toNat : Int))), (intF 0)]
  let EB : List CF := [zeroIF, (boxIF 0)]
  exact auto_calls (E := E) (EB := EB) (fs := [(.ref 0)]) (r := (.tup2 (.ref 5) (.int .i64 4)))
   { pures := [p1 (.blt .len [9]) (.ref 0) (.ref 1) fun _ _ _ _ hx => h_lenS hx,
      p2 (.bin .gtr 3 3) (.ref 1) (.int .i64 2000) (.bool false) fun _ _ _ _ _ hx hy => h_gtr (r := false) (by simp only [decide_eq_false_iff_not, List.length_cons]; omega) hx hy,
      p2 (.bin .gtr 3 3) (.ref 1) (.int .i64 0) (.bool true) fun _ _ _ _ _ hx hy => h_gtr (r := true) (by rw [decide_eq_true_eq]; simp only [List.length_cons]; omega) hx hy,
      p2 (.ixv 9) (.ref 0) (.int .i64 0) (.ref 2) fun _ _ _ _ _ hx hy => h_chr (bs := (45 :: ds)) (k := 0) rfl hx hy,
      p2 (.bin .eql 5 5) (.ref 2) (.int .u8 45) (.bool true) fun _ _ _ _ _ hx hy => h_eqlI (r := true) (by decide) hx hy,
      p2 (.slc 9 true false false) (.ref 0) (.int .i64 1) (.ref 3) fun _ _ _ _ _ hx hy => h_from (bs := (45 :: ds)) (k := 1) (by simp) hx hy,
      p2 (.bin .eql 9 9) (.ref 3) (.str { data := #[] }) (.bool false) fun _ _ _ _ _ hx hy => h_eqlS (a := ds) (b := []) (by simpa using hds) hx hy,
      p2 (.ixv 9) (.ref 3) (.int .i64 0) (.ref 4) fun _ _ _ _ _ hx hy => h_chr (bs := ds) (k := 0) h0 hx hy,
      p2 (.bin .eql 5 5) (.ref 4) (.int .u8 48) (.bool true) fun _ _ _ _ _ hx hy => h_eqlI (r := true) (by decide) hx hy,
      p0 (.bld 27 []) (.ref 5) fun _ _ _ => h_build0],
     loads := [⟨27, 0, 1, (.ref 5), fun w q h => loadI_int w q h⟩],
     allocs := [⟨27, 0, _, allocI_run, allocI_old⟩],
     stores := [⟨27, 0, 0, (.ref 5), 1, (storeI_zero _)⟩] }
   Tryd.func8 ⟨hva, trivial⟩ (by kernel_rfl)
set_option maxRecDepth 100000 in
theorem RRead_P0 {ds : List UInt8} {b : UInt8} (va : Value) (W : World) (hva : (eqF (.string ⟨List.toArray ds⟩)).p va W) (_hlen : ds.length ≤ 2000) (hds : ds ≠ []) (h0 : ds[0]? = some b) (h45 : b ≠ 45) (h48 : b = 48) (_h1 : 1 < ds.length) : Calls Tryd.prog 8 #[va] W (GivesP (tup2F (intF 0) (eqF (.int .i64 4))) W) := by
  let E : List PF := [(eqF (.string ⟨List.toArray ds⟩)), (eqF (.int .i64 (ds.length : Int))), (eqF (.int .u8 (b.toNat : Int))), (intF 0)]
  let EB : List CF := [zeroIF, (boxIF 0)]
  exact auto_calls (E := E) (EB := EB) (fs := [(.ref 0)]) (r := (.tup2 (.ref 3) (.int .i64 4)))
   { pures := [p1 (.blt .len [9]) (.ref 0) (.ref 1) fun _ _ _ _ hx => h_lenS hx,
      p2 (.bin .gtr 3 3) (.ref 1) (.int .i64 2000) (.bool false) fun _ _ _ _ _ hx hy => h_gtr (r := false) (by simp only [decide_eq_false_iff_not]; omega) hx hy,
      p2 (.bin .gtr 3 3) (.ref 1) (.int .i64 0) (.bool true) fun _ _ _ _ _ hx hy => h_gtr (r := true) (by rw [decide_eq_true_eq]; have := List.length_pos_iff.2 hds; omega) hx hy,
      p2 (.ixv 9) (.ref 0) (.int .i64 0) (.ref 2) fun _ _ _ _ _ hx hy => h_chr (bs := ds) (k := 0) h0 hx hy,
      p2 (.bin .eql 5 5) (.ref 2) (.int .u8 45) (.bool false) fun _ _ _ _ _ hx hy => h_eqlI (r := false) (chr_ne h45 (by decide)) hx hy,
      p2 (.bin .eql 9 9) (.ref 0) (.str { data := #[] }) (.bool false) fun _ _ _ _ _ hx hy => h_eqlS (a := ds) (b := []) (by simpa using hds) hx hy,
      p2 (.bin .eql 5 5) (.ref 2) (.int .u8 48) (.bool true) fun _ _ _ _ _ hx hy => h_eqlI (r := true) (by rw [h48]; rfl) hx hy,
      p2 (.bin .gtr 3 3) (.ref 1) (.int .i64 1) (.bool true) fun _ _ _ _ _ hx hy => h_gtr (r := true) (by simp only [decide_eq_true_eq]; omega) hx hy,
      p0 (.bld 27 []) (.ref 3) fun _ _ _ => h_build0],
     loads := [⟨27, 0, 1, (.ref 3), fun w q h => loadI_int w q h⟩],
     allocs := [⟨27, 0, _, allocI_run, allocI_old⟩],
     stores := [⟨27, 0, 0, (.ref 3), 1, (storeI_zero _)⟩] }
   Tryd.func8 ⟨hva, trivial⟩ (by kernel_rfl)

noncomputable def rrn_n0 : Code := bodyOf Tryd.f8
noncomputable def rrn_n1 : Code := cl rrn_n0
noncomputable def rrn_n2 : Code := cr rrn_n0
theorem rrn_e0 : rrn_n0 = .seq rrn_n1 rrn_n2 := by kernel_rfl
noncomputable def rrn_o0 : Array Oper := opsOf rrn_n1
theorem rrn_e1 : rrn_n1 = .region 0 rrn_o0 false := by kernel_rfl
noncomputable def rrn_n3 : Code := cl rrn_n2
noncomputable def rrn_n4 : Code := cr rrn_n2
theorem rrn_e2 : rrn_n2 = .seq rrn_n3 rrn_n4 := by kernel_rfl
noncomputable def rrn_n5 : Code := cl rrn_n3
noncomputable def rrn_n6 : Code := cr rrn_n3
theorem rrn_e3 : rrn_n3 = .seq rrn_n5 rrn_n6 := by kernel_rfl
noncomputable def rrn_o1 : Array Oper := opsOf rrn_n5
theorem rrn_e5 : rrn_n5 = .region 1 rrn_o1 false := by kernel_rfl
noncomputable def rrn_n7 : Code := cl rrn_n6
noncomputable def rrn_n8 : Code := cr rrn_n6
theorem rrn_e6 : rrn_n6 = .cond (.tmp 11) rrn_n7 rrn_n8 := by kernel_rfl
noncomputable def rrn_n9 : Code := cl rrn_n7
noncomputable def rrn_n10 : Code := cr rrn_n7
theorem rrn_e7 : rrn_n7 = .seq rrn_n9 rrn_n10 := by kernel_rfl
noncomputable def rrn_o2 : Array Oper := opsOf rrn_n9
theorem rrn_e9 : rrn_n9 = .region 2 rrn_o2 false := by kernel_rfl
theorem rrn_e10 : rrn_n10 = .ret := by kernel_rfl
theorem rrn_e8 : rrn_n8 = .skip := by kernel_rfl
noncomputable def rrn_n11 : Code := cl rrn_n4
noncomputable def rrn_n12 : Code := cr rrn_n4
theorem rrn_e4 : rrn_n4 = .seq rrn_n11 rrn_n12 := by kernel_rfl
noncomputable def rrn_o3 : Array Oper := opsOf rrn_n11
theorem rrn_e11 : rrn_n11 = .region 3 rrn_o3 false := by kernel_rfl
noncomputable def rrn_n13 : Code := cl rrn_n12
noncomputable def rrn_n14 : Code := cr rrn_n12
theorem rrn_e12 : rrn_n12 = .seq rrn_n13 rrn_n14 := by kernel_rfl
noncomputable def rrn_o4 : Array Oper := opsOf rrn_n13
theorem rrn_e13 : rrn_n13 = .region 4 rrn_o4 false := by kernel_rfl
noncomputable def rrn_n15 : Code := cl rrn_n14
noncomputable def rrn_n16 : Code := cr rrn_n14
theorem rrn_e14 : rrn_n14 = .seq rrn_n15 rrn_n16 := by kernel_rfl
noncomputable def rrn_n17 : Code := cl rrn_n15
noncomputable def rrn_n18 : Code := cr rrn_n15
theorem rrn_e15 : rrn_n15 = .seq rrn_n17 rrn_n18 := by kernel_rfl
noncomputable def rrn_o5 : Array Oper := opsOf rrn_n17
theorem rrn_e17 : rrn_n17 = .region 5 rrn_o5 false := by kernel_rfl
noncomputable def rrn_n19 : Code := cl rrn_n18
noncomputable def rrn_n20 : Code := cr rrn_n18
theorem rrn_e18 : rrn_n18 = .cond (.tmp 22) rrn_n19 rrn_n20 := by kernel_rfl
noncomputable def rrn_o6 : Array Oper := opsOf rrn_n19
theorem rrn_e19 : rrn_n19 = .region 6 rrn_o6 false := by kernel_rfl
theorem rrn_e20 : rrn_n20 = .skip := by kernel_rfl
noncomputable def rrn_n21 : Code := cl rrn_n16
noncomputable def rrn_n22 : Code := cr rrn_n16
theorem rrn_e16 : rrn_n16 = .seq rrn_n21 rrn_n22 := by kernel_rfl
noncomputable def rrn_n23 : Code := cl rrn_n21
noncomputable def rrn_n24 : Code := cr rrn_n21
theorem rrn_e21 : rrn_n21 = .seq rrn_n23 rrn_n24 := by kernel_rfl
noncomputable def rrn_o7 : Array Oper := opsOf rrn_n23
theorem rrn_e23 : rrn_n23 = .region 7 rrn_o7 false := by kernel_rfl
noncomputable def rrn_n25 : Code := cl rrn_n24
noncomputable def rrn_n26 : Code := cr rrn_n24
theorem rrn_e24 : rrn_n24 = .cond (.tmp 39) rrn_n25 rrn_n26 := by kernel_rfl
noncomputable def rrn_n27 : Code := cl rrn_n25
noncomputable def rrn_n28 : Code := cr rrn_n25
theorem rrn_e25 : rrn_n25 = .seq rrn_n27 rrn_n28 := by kernel_rfl
noncomputable def rrn_o8 : Array Oper := opsOf rrn_n27
theorem rrn_e27 : rrn_n27 = .region 8 rrn_o8 false := by kernel_rfl
theorem rrn_e28 : rrn_n28 = .ret := by kernel_rfl
theorem rrn_e26 : rrn_n26 = .skip := by kernel_rfl
noncomputable def rrn_n29 : Code := cl rrn_n22
noncomputable def rrn_n30 : Code := cr rrn_n22
theorem rrn_e22 : rrn_n22 = .seq rrn_n29 rrn_n30 := by kernel_rfl
noncomputable def rrn_o9 : Array Oper := opsOf rrn_n29
theorem rrn_e29 : rrn_n29 = .region 9 rrn_o9 false := by kernel_rfl
noncomputable def rrn_n31 : Code := cl rrn_n30
noncomputable def rrn_n32 : Code := cr rrn_n30
theorem rrn_e30 : rrn_n30 = .seq rrn_n31 rrn_n32 := by kernel_rfl
noncomputable def rrn_n33 : Code := cl rrn_n31
noncomputable def rrn_n34 : Code := cr rrn_n31
theorem rrn_e31 : rrn_n31 = .seq rrn_n33 rrn_n34 := by kernel_rfl
noncomputable def rrn_o10 : Array Oper := opsOf rrn_n33
theorem rrn_e33 : rrn_n33 = .region 10 rrn_o10 false := by kernel_rfl
noncomputable def rrn_n35 : Code := cl rrn_n34
theorem rrn_e34 : rrn_n34 = .block 0 rrn_n35 := by kernel_rfl
noncomputable def rrn_n36 : Code := cl rrn_n35
theorem rrn_e35 : rrn_n35 = .loop rrn_n36 := by kernel_rfl
noncomputable def rrn_n37 : Code := cl rrn_n36
noncomputable def rrn_n38 : Code := cr rrn_n36
theorem rrn_e36 : rrn_n36 = .seq rrn_n37 rrn_n38 := by kernel_rfl
noncomputable def rrn_n39 : Code := cl rrn_n37
noncomputable def rrn_n40 : Code := cr rrn_n37
theorem rrn_e37 : rrn_n37 = .seq rrn_n39 rrn_n40 := by kernel_rfl
noncomputable def rrn_o11 : Array Oper := opsOf rrn_n39
theorem rrn_e39 : rrn_n39 = .region 11 rrn_o11 false := by kernel_rfl
noncomputable def rrn_n41 : Code := cl rrn_n40
noncomputable def rrn_n42 : Code := cr rrn_n40
theorem rrn_e40 : rrn_n40 = .cond (.tmp 46) rrn_n41 rrn_n42 := by kernel_rfl
theorem rrn_e41 : rrn_n41 = .skip := by kernel_rfl
theorem rrn_e42 : rrn_n42 = .exit 0 := by kernel_rfl
noncomputable def rrn_n43 : Code := cl rrn_n38
noncomputable def rrn_n44 : Code := cr rrn_n38
theorem rrn_e38 : rrn_n38 = .seq rrn_n43 rrn_n44 := by kernel_rfl
noncomputable def rrn_n45 : Code := cl rrn_n43
theorem rrn_e43 : rrn_n43 = .block 1 rrn_n45 := by kernel_rfl
noncomputable def rrn_n46 : Code := cl rrn_n45
noncomputable def rrn_n47 : Code := cr rrn_n45
theorem rrn_e45 : rrn_n45 = .seq rrn_n46 rrn_n47 := by kernel_rfl
noncomputable def rrn_n48 : Code := cl rrn_n46
noncomputable def rrn_n49 : Code := cr rrn_n46
theorem rrn_e46 : rrn_n46 = .seq rrn_n48 rrn_n49 := by kernel_rfl
noncomputable def rrn_o13 : Array Oper := opsOf rrn_n48
theorem rrn_e48 : rrn_n48 = .region 13 rrn_o13 false := by kernel_rfl
noncomputable def rrn_n50 : Code := cl rrn_n49
noncomputable def rrn_n51 : Code := cr rrn_n49
theorem rrn_e49 : rrn_n49 = .cond (.tmp 58) rrn_n50 rrn_n51 := by kernel_rfl
noncomputable def rrn_n52 : Code := cl rrn_n50
noncomputable def rrn_n53 : Code := cr rrn_n50
theorem rrn_e50 : rrn_n50 = .seq rrn_n52 rrn_n53 := by kernel_rfl
noncomputable def rrn_o14 : Array Oper := opsOf rrn_n52
theorem rrn_e52 : rrn_n52 = .region 14 rrn_o14 false := by kernel_rfl
theorem rrn_e53 : rrn_n53 = .ret := by kernel_rfl
theorem rrn_e51 : rrn_n51 = .skip := by kernel_rfl
noncomputable def rrn_o15 : Array Oper := opsOf rrn_n47
theorem rrn_e47 : rrn_n47 = .region 15 rrn_o15 true := by kernel_rfl
noncomputable def rrn_o12 : Array Oper := opsOf rrn_n44
theorem rrn_e44 : rrn_n44 = .region 12 rrn_o12 false := by kernel_rfl
noncomputable def rrn_n54 : Code := cl rrn_n32
noncomputable def rrn_n55 : Code := cr rrn_n32
theorem rrn_e32 : rrn_n32 = .seq rrn_n54 rrn_n55 := by kernel_rfl
noncomputable def rrn_o16 : Array Oper := opsOf rrn_n54
theorem rrn_e54 : rrn_n54 = .region 16 rrn_o16 false := by kernel_rfl
theorem rrn_e55 : rrn_n55 = .ret := by kernel_rfl
set_option maxRecDepth 100000 in
theorem rrn_r0 {Q : Exit → Act → World → Prop} {Wb W0 : World} {a0 : Act} {ds : List UInt8} {b : UInt8} (_hlen : ds.length ≤ 1999) (_hds : ds ≠ []) (_h0 : ds[0]? = some b) (_h48 : b ≠ 48)  (hst : St Wb 74 [(0, (eqF (.string ⟨List.toArray (45 :: ds)⟩)))] [] a0 W0)
    (fin : ∀ a w, St Wb 74 [(0, (eqF (.string ⟨List.toArray (45 :: ds)⟩))), (3, (eqF (.int .i64 0)))] [(2, zeroIF)] a w → Q .normal a w) : (Code.region 0 rrn_o0 false).wp Tryd.prog Q a0 W0 := by
  let E : List PF := [(eqF (.string ⟨List.toArray (45 :: ds)⟩))]
  let EB : List CF := [zeroIF]
  exact region_auto (E := E) (EB := EB) (s := ⟨[(0, (.ref 0))], []⟩)
   { allocs := [⟨27, 0, _, allocI_run, allocI_old⟩] }
   ⟨[(0, (.ref 0)), (3, (.int .i64 0))], [(2, 0)]⟩ hst (by kernel_rfl) fin
set_option maxRecDepth 100000 in
theorem rrn_r1 {Q : Exit → Act → World → Prop} {Wb W0 : World} {a0 : Act} {ds : List UInt8} {b : UInt8} (_hlen : ds.length ≤ 1999) (_hds : ds ≠ []) (_h0 : ds[0]? = some b) (_h48 : b ≠ 48)  (hst : St Wb 74 [(0, (eqF (.string ⟨List.toArray (45 :: ds)⟩))), (3, (eqF (.int .i64 0)))] [(2, zeroIF)] a0 W0)
    (fin : ∀ a w, St Wb 74 [(0, (eqF (.string ⟨List.toArray (45 :: ds)⟩))), (3, (eqF (.int .i64 0))), (11, (eqF (.bool false)))] [(2, zeroIF)] a w → Q .normal a w) : (Code.region 1 rrn_o1 false).wp Tryd.prog Q a0 W0 := by
  let E : List PF := [(eqF (.string ⟨List.toArray (45 :: ds)⟩)), (eqF (.int .i64 ((45 :: ds).length : Int)))]
  let EB : List CF := [zeroIF]
  exact region_auto (E := E) (EB := EB) (s := ⟨[(0, (.ref 0)), (3, (.int .i64 0))], [(2, 0)]⟩)
   { pures := [p1 (.blt .len [9]) (.ref 0) (.ref 1) fun _ _ _ _ hx => h_lenS hx,
      p2 (.bin .gtr 3 3) (.ref 1) (.int .i64 2000) (.bool false) fun _ _ _ _ _ hx hy => h_gtr (r := false) (by simp only [decide_eq_false_iff_not, List.length_cons]; omega) hx hy] }
   ⟨[(0, (.ref 0)), (3, (.int .i64 0)), (11, (.bool false))], [(2, 0)]⟩ hst (by kernel_rfl) fin
set_option maxRecDepth 100000 in
theorem rrn_r3 {Q : Exit → Act → World → Prop} {Wb W0 : World} {a0 : Act} {ds : List UInt8} {b : UInt8} (_hlen : ds.length ≤ 1999) (_hds : ds ≠ []) (_h0 : ds[0]? = some b) (_h48 : b ≠ 48)  (hst : St Wb 74 [(0, (eqF (.string ⟨List.toArray (45 :: ds)⟩))), (3, (eqF (.int .i64 0))), (11, (eqF (.bool false)))] [(2, zeroIF)] a0 W0)
    (fin : ∀ a w, St Wb 74 [(0, (eqF (.string ⟨List.toArray (45 :: ds)⟩))), (3, (eqF (.int .i64 0))), (4, (eqF (.bool true))), (11, (eqF (.bool false)))] [(2, zeroIF)] a w → Q .normal a w) : (Code.region 3 rrn_o3 false).wp Tryd.prog Q a0 W0 := by
  let E : List PF := [(eqF (.string ⟨List.toArray (45 :: ds)⟩)), (eqF (.int .i64 ((45 :: ds).length : Int))), (eqF (.int .u8 ((45 : UInt8).toNat : Int)))]
  let EB : List CF := [zeroIF]
  exact region_auto (E := E) (EB := EB) (s := ⟨[(0, (.ref 0)), (3, (.int .i64 0)), (11, (.bool false))], [(2, 0)]⟩)
   { pures := [p1 (.blt .len [9]) (.ref 0) (.ref 1) fun _ _ _ _ hx => h_lenS hx,
      p2 (.bin .gtr 3 3) (.ref 1) (.int .i64 0) (.bool true) fun _ _ _ _ _ hx hy => h_gtr (r := true) (by rw [decide_eq_true_eq]; simp only [List.length_cons]; omega) hx hy,
      p2 (.ixv 9) (.ref 0) (.int .i64 0) (.ref 2) fun _ _ _ _ _ hx hy => h_chr (bs := (45 :: ds)) (k := 0) rfl hx hy,
      p2 (.bin .eql 5 5) (.ref 2) (.int .u8 45) (.bool true) fun _ _ _ _ _ hx hy => h_eqlI (r := true) (by decide) hx hy] }
   ⟨[(0, (.ref 0)), (3, (.int .i64 0)), (4, (.bool true)), (11, (.bool false))], [(2, 0)]⟩ hst (by kernel_rfl) fin
set_option maxRecDepth 100000 in
theorem rrn_r4 {Q : Exit → Act → World → Prop} {Wb W0 : World} {a0 : Act} {ds : List UInt8} {b : UInt8} (_hlen : ds.length ≤ 1999) (_hds : ds ≠ []) (_h0 : ds[0]? = some b) (_h48 : b ≠ 48)  (hst : St Wb 74 [(0, (eqF (.string ⟨List.toArray (45 :: ds)⟩))), (3, (eqF (.int .i64 0))), (4, (eqF (.bool true))), (11, (eqF (.bool false)))] [(2, zeroIF)] a0 W0)
    (fin : ∀ a w, St Wb 74 [(0, (eqF (.string ⟨List.toArray (45 :: ds)⟩))), (3, (eqF (.int .i64 0))), (4, (eqF (.bool true))), (5, (eqF (.string ⟨List.toArray (45 :: ds)⟩))), (11, (eqF (.bool false)))] [(2, zeroIF)] a w → Q .normal a w) : (Code.region 4 rrn_o4 false).wp Tryd.prog Q a0 W0 := by
  let E : List PF := [(eqF (.string ⟨List.toArray (45 :: ds)⟩))]
  let EB : List CF := [zeroIF]
  exact region_auto (E := E) (EB := EB) (s := ⟨[(0, (.ref 0)), (3, (.int .i64 0)), (4, (.bool true)), (11, (.bool false))], [(2, 0)]⟩)
   {  }
   ⟨[(0, (.ref 0)), (3, (.int .i64 0)), (4, (.bool true)), (5, (.ref 0)), (11, (.bool false))], [(2, 0)]⟩ hst (by kernel_rfl) fin
set_option maxRecDepth 100000 in
theorem rrn_r5 {Q : Exit → Act → World → Prop} {Wb W0 : World} {a0 : Act} {ds : List UInt8} {b : UInt8} (_hlen : ds.length ≤ 1999) (_hds : ds ≠ []) (_h0 : ds[0]? = some b) (_h48 : b ≠ 48)  (hst : St Wb 74 [(0, (eqF (.string ⟨List.toArray (45 :: ds)⟩))), (3, (eqF (.int .i64 0))), (4, (eqF (.bool true))), (5, (eqF (.string ⟨List.toArray (45 :: ds)⟩))), (11, (eqF (.bool false)))] [(2, zeroIF)] a0 W0)
    (fin : ∀ a w, St Wb 74 [(0, (eqF (.string ⟨List.toArray (45 :: ds)⟩))), (3, (eqF (.int .i64 0))), (4, (eqF (.bool true))), (5, (eqF (.string ⟨List.toArray (45 :: ds)⟩))), (11, (eqF (.bool false))), (22, (eqF (.bool true)))] [(2, zeroIF)] a w → Q .normal a w) : (Code.region 5 rrn_o5 false).wp Tryd.prog Q a0 W0 := by
  let E : List PF := [(eqF (.string ⟨List.toArray (45 :: ds)⟩))]
  let EB : List CF := [zeroIF]
  exact region_auto (E := E) (EB := EB) (s := ⟨[(0, (.ref 0)), (3, (.int .i64 0)), (4, (.bool true)), (5, (.ref 0)), (11, (.bool false))], [(2, 0)]⟩)
   {  }
   ⟨[(0, (.ref 0)), (3, (.int .i64 0)), (4, (.bool true)), (5, (.ref 0)), (11, (.bool false)), (22, (.bool true))], [(2, 0)]⟩ hst (by kernel_rfl) fin
set_option maxRecDepth 100000 in
theorem rrn_r6 {Q : Exit → Act → World → Prop} {Wb W0 : World} {a0 : Act} {ds : List UInt8} {b : UInt8} (_hlen : ds.length ≤ 1999) (_hds : ds ≠ []) (_h0 : ds[0]? = some b) (_h48 : b ≠ 48)  (hst : St Wb 74 [(0, (eqF (.string ⟨List.toArray (45 :: ds)⟩))), (3, (eqF (.int .i64 0))), (4, (eqF (.bool true))), (5, (eqF (.string ⟨List.toArray (45 :: ds)⟩))), (11, (eqF (.bool false))), (22, (eqF (.bool true)))] [(2, zeroIF)] a0 W0)
    (fin : ∀ a w, St Wb 74 [(0, (eqF (.string ⟨List.toArray (45 :: ds)⟩))), (3, (eqF (.int .i64 0))), (4, (eqF (.bool true))), (5, (eqF (.string ⟨List.toArray ds⟩))), (11, (eqF (.bool false))), (22, (eqF (.bool true)))] [(2, zeroIF)] a w → Q .normal a w) : (Code.region 6 rrn_o6 false).wp Tryd.prog Q a0 W0 := by
  let E : List PF := [(eqF (.string ⟨List.toArray (45 :: ds)⟩)), (eqF (.string ⟨List.toArray ds⟩))]
  let EB : List CF := [zeroIF]
  exact region_auto (E := E) (EB := EB) (s := ⟨[(0, (.ref 0)), (3, (.int .i64 0)), (4, (.bool true)), (5, (.ref 0)), (11, (.bool false)), (22, (.bool true))], [(2, 0)]⟩)
   { pures := [p2 (.slc 9 true false false) (.ref 0) (.int .i64 1) (.ref 1) fun _ _ _ _ _ hx hy => h_from (bs := (45 :: ds)) (k := 1) (by simp) hx hy] }
   ⟨[(0, (.ref 0)), (3, (.int .i64 0)), (4, (.bool true)), (5, (.ref 1)), (11, (.bool false)), (22, (.bool true))], [(2, 0)]⟩ hst (by kernel_rfl) fin
set_option maxRecDepth 100000 in
theorem rrn_r7 {Q : Exit → Act → World → Prop} {Wb W0 : World} {a0 : Act} {ds : List UInt8} {b : UInt8} (_hlen : ds.length ≤ 1999) (hds : ds ≠ []) (h0 : ds[0]? = some b) (h48 : b ≠ 48)  (hst : St Wb 74 [(0, (eqF (.string ⟨List.toArray (45 :: ds)⟩))), (3, (eqF (.int .i64 0))), (4, (eqF (.bool true))), (5, (eqF (.string ⟨List.toArray ds⟩))), (11, (eqF (.bool false))), (22, (eqF (.bool true)))] [(2, zeroIF)] a0 W0)
    (fin : ∀ a w, St Wb 74 [(0, (eqF (.string ⟨List.toArray (45 :: ds)⟩))), (3, (eqF (.int .i64 0))), (4, (eqF (.bool true))), (5, (eqF (.string ⟨List.toArray ds⟩))), (11, (eqF (.bool false))), (22, (eqF (.bool true))), (39, (eqF (.bool false)))] [(2, zeroIF)] a w → Q .normal a w) : (Code.region 7 rrn_o7 false).wp Tryd.prog Q a0 W0 := by
  let E : List PF := [(eqF (.string ⟨List.toArray ds⟩)), (eqF (.int .u8 (b.toNat : Int))), (eqF (.string ⟨List.toArray (45 :: ds)⟩))]
  let EB : List CF := [zeroIF]
  exact region_auto (E := E) (EB := EB) (s := ⟨[(0, (.ref 2)), (3, (.int .i64 0)), (4, (.bool true)), (5, (.ref 0)), (11, (.bool false)), (22, (.bool true))], [(2, 0)]⟩)
   { pures := [p2 (.bin .eql 9 9) (.ref 0) (.str { data := #[] }) (.bool false) fun _ _ _ _ _ hx hy => h_eqlS (a := ds) (b := []) (by simpa using hds) hx hy,
      p2 (.ixv 9) (.ref 0) (.int .i64 0) (.ref 1) fun _ _ _ _ _ hx hy => h_chr (bs := ds) (k := 0) h0 hx hy,
      p2 (.bin .eql 5 5) (.ref 1) (.int .u8 48) (.bool false) fun _ _ _ _ _ hx hy => h_eqlI (r := false) (chr_ne h48 (by decide)) hx hy] }
   ⟨[(0, (.ref 2)), (3, (.int .i64 0)), (4, (.bool true)), (5, (.ref 0)), (11, (.bool false)), (22, (.bool true)), (39, (.bool false))], [(2, 0)]⟩ hst (by kernel_rfl) fin
set_option maxRecDepth 100000 in
theorem rrn_r9 {Q : Exit → Act → World → Prop} {Wb W0 : World} {a0 : Act} {ds : List UInt8} {b : UInt8} (_hlen : ds.length ≤ 1999) (_hds : ds ≠ []) (h0 : ds[0]? = some b) (_h48 : b ≠ 48)  (hst : St Wb 74 [(0, (eqF (.string ⟨List.toArray (45 :: ds)⟩))), (3, (eqF (.int .i64 0))), (4, (eqF (.bool true))), (5, (eqF (.string ⟨List.toArray ds⟩))), (11, (eqF (.bool false))), (22, (eqF (.bool true))), (39, (eqF (.bool false)))] [(2, zeroIF)] a0 W0)
    (fin : ∀ a w, St Wb 74 [(0, (eqF (.string ⟨List.toArray (45 :: ds)⟩))), (3, (eqF (.int .i64 0))), (4, (eqF (.bool true))), (5, (eqF (.string ⟨List.toArray ds⟩))), (11, (eqF (.bool false))), (22, (eqF (.bool true))), (39, (eqF (.bool false)))] [(2, zeroIF), (6, (boxIF 0)), (7, (boxIF 10))] a w → Q .normal a w) : (Code.region 9 rrn_o9 false).wp Tryd.prog Q a0 W0 := by
  let E : List PF := [(intF 0), (intF 10), (eqF (.string ⟨List.toArray (45 :: ds)⟩)), (eqF (.string ⟨List.toArray ds⟩))]
  let EB : List CF := [zeroIF, (boxIF 0), (boxIF 10)]
  exact region_auto (E := E) (EB := EB) (s := ⟨[(0, (.ref 2)), (3, (.int .i64 0)), (4, (.bool true)), (5, (.ref 3)), (11, (.bool false)), (22, (.bool true)), (39, (.bool false))], [(2, 0)]⟩)
   { pures := [p0 (.bld 27 []) (.ref 0) fun _ _ _ => h_build0],
     calls := [c1 15 (.int .i64 10) (.ref 1) fun w v0 hb h0 => kROf 10 (by omega) (by omega) h0],
     allocs := [⟨27, 0, _, allocI_run, allocI_old⟩],
     stores := [⟨27, 0, 0, (.ref 0), 1, (storeI_zero _)⟩,
      ⟨27, 0, 0, (.ref 1), 2, (storeI_zero _)⟩] }
   ⟨[(0, (.ref 2)), (3, (.int .i64 0)), (4, (.bool true)), (5, (.ref 3)), (11, (.bool false)), (22, (.bool true)), (39, (.bool false))], [(2, 0), (6, 1), (7, 2)]⟩ hst (by kernel_rfl) fin
set_option maxRecDepth 100000 in
theorem rrn_r10 {Q : Exit → Act → World → Prop} {Wb W0 : World} {a0 : Act} {ds : List UInt8} {b : UInt8} (_hlen : ds.length ≤ 1999) (_hds : ds ≠ []) (_h0 : ds[0]? = some b) (_h48 : b ≠ 48)  (hst : St Wb 74 [(0, (eqF (.string ⟨List.toArray (45 :: ds)⟩))), (3, (eqF (.int .i64 0))), (4, (eqF (.bool true))), (5, (eqF (.string ⟨List.toArray ds⟩))), (11, (eqF (.bool false))), (22, (eqF (.bool true))), (39, (eqF (.bool false)))] [(2, zeroIF), (6, (boxIF 0)), (7, (boxIF 10))] a0 W0)
    (fin : ∀ a w, St Wb 74 [(0, (eqF (.string ⟨List.toArray (45 :: ds)⟩))), (3, (eqF (.int .i64 0))), (4, (eqF (.bool true))), (5, (eqF (.string ⟨List.toArray ds⟩))), (8, (eqF (.int .i64 0))), (11, (eqF (.bool false))), (22, (eqF (.bool true))), (39, (eqF (.bool false)))] [(2, zeroIF), (6, (boxIF 0)), (7, (boxIF 10))] a w → Q .normal a w) : (Code.region 10 rrn_o10 false).wp Tryd.prog Q a0 W0 := by
  let E : List PF := [(eqF (.string ⟨List.toArray (45 :: ds)⟩)), (eqF (.string ⟨List.toArray ds⟩))]
  let EB : List CF := [zeroIF, (boxIF 0), (boxIF 10)]
  exact region_auto (E := E) (EB := EB) (s := ⟨[(0, (.ref 0)), (3, (.int .i64 0)), (4, (.bool true)), (5, (.ref 1)), (11, (.bool false)), (22, (.bool true)), (39, (.bool false))], [(2, 0), (6, 1), (7, 2)]⟩)
   {  }
   ⟨[(0, (.ref 0)), (3, (.int .i64 0)), (4, (.bool true)), (5, (.ref 1)), (8, (.int .i64 0)), (11, (.bool false)), (22, (.bool true)), (39, (.bool false))], [(2, 0), (6, 1), (7, 2)]⟩ hst (by kernel_rfl) fin
set_option maxRecDepth 100000 in
theorem rrn_r11 {Q : Exit → Act → World → Prop} {Wb W0 : World} {a0 : Act} {ds : List UInt8} {b : UInt8} (_hlen : ds.length ≤ 1999) (_hds : ds ≠ []) (_h0 : ds[0]? = some b) (_h48 : b ≠ 48) {k v : Nat} (_sv : Sm ((v : Nat) : Int) 224) (_hk2 : k = ds.length) (hst : St Wb 74 [(0, (eqF (.string ⟨List.toArray (45 :: ds)⟩))), (3, (eqF (.int .i64 0))), (4, (eqF (.bool true))), (5, (eqF (.string ⟨List.toArray ds⟩))), (8, (eqF (.int .i64 ((k : Nat) : Int)))), (11, (eqF (.bool false))), (22, (eqF (.bool true))), (39, (eqF (.bool false)))] [(2, zeroIF), (6, (boxIF ((v : Nat) : Int))), (7, (boxIF 10))] a0 W0)
    (fin : ∀ a w, St Wb 74 [(0, (eqF (.string ⟨List.toArray (45 :: ds)⟩))), (3, (eqF (.int .i64 0))), (4, (eqF (.bool true))), (5, (eqF (.string ⟨List.toArray ds⟩))), (8, (eqF (.int .i64 ((k : Nat) : Int)))), (11, (eqF (.bool false))), (22, (eqF (.bool true))), (39, (eqF (.bool false))), (46, (eqF (.bool false)))] [(2, zeroIF), (6, (boxIF ((v : Nat) : Int))), (7, (boxIF 10))] a w → Q .normal a w) : (Code.region 11 rrn_o11 false).wp Tryd.prog Q a0 W0 := by
  let E : List PF := [(eqF (.string ⟨List.toArray ds⟩)), (eqF (.int .i64 (ds.length : Int))), (eqF (.int .i64 ((k : Nat) : Int))), (eqF (.string ⟨List.toArray (45 :: ds)⟩))]
  let EB : List CF := [zeroIF, (boxIF ((v : Nat) : Int)), (boxIF 10)]
  exact region_auto (E := E) (EB := EB) (s := ⟨[(0, (.ref 3)), (3, (.int .i64 0)), (4, (.bool true)), (5, (.ref 0)), (8, (.ref 2)), (11, (.bool false)), (22, (.bool true)), (39, (.bool false))], [(2, 0), (6, 1), (7, 2)]⟩)
   { pures := [p1 (.blt .len [9]) (.ref 0) (.ref 1) fun _ _ _ _ hx => h_lenS hx,
      p2 (.bin .lss 3 3) (.ref 2) (.ref 1) (.bool false) fun _ _ _ _ _ hx hy => h_lss (r := false) (by simp only [decide_eq_false_iff_not]; omega) hx hy] }
   ⟨[(0, (.ref 3)), (3, (.int .i64 0)), (4, (.bool true)), (5, (.ref 0)), (8, (.ref 2)), (11, (.bool false)), (22, (.bool true)), (39, (.bool false)), (46, (.bool false))], [(2, 0), (6, 1), (7, 2)]⟩ hst (by kernel_rfl) fin
set_option maxRecDepth 100000 in
theorem rrn_r16 {Q : Exit → Act → World → Prop} {Wb W0 : World} {a0 : Act} {ds : List UInt8} {b : UInt8} (_hlen : ds.length ≤ 1999) (_hds : ds ≠ []) (h0 : ds[0]? = some b) (_h48 : b ≠ 48) {v : Nat} (sv : Sm ((v : Nat) : Int) 224) (hst : St Wb 74 [(0, (eqF (.string ⟨List.toArray (45 :: ds)⟩))), (3, (eqF (.int .i64 0))), (4, (eqF (.bool true))), (5, (eqF (.string ⟨List.toArray ds⟩))), (8, (eqF (.int .i64 (((ds.length) : Nat) : Int)))), (11, (eqF (.bool false))), (22, (eqF (.bool true))), (39, (eqF (.bool false))), (46, (eqF (.bool false)))] [(2, zeroIF), (6, (boxIF ((v : Nat) : Int))), (7, (boxIF 10))] a0 W0)
    (fin : ∀ a w, St Wb 74 [(0, (eqF (.string ⟨List.toArray (45 :: ds)⟩))), (3, (eqF (.int .i64 0))), (4, (eqF (.bool true))), (5, (eqF (.string ⟨List.toArray ds⟩))), (8, (eqF (.int .i64 (((ds.length) : Nat) : Int)))), (11, (eqF (.bool false))), (22, (eqF (.bool true))), (39, (eqF (.bool false))), (46, (eqF (.bool false)))] [(2, (boxIF (-((v : Nat) : Int)))), (6, (boxIF ((v : Nat) : Int))), (7, (boxIF 10))] a w → Q .normal a w) : (Code.region 16 rrn_o16 false).wp Tryd.prog Q a0 W0 := by
  let E : List PF := [(natF ((v : Nat) : Int).natAbs), (intF (-((v : Nat) : Int))), (eqF (.string ⟨List.toArray (45 :: ds)⟩)), (eqF (.string ⟨List.toArray ds⟩)), (eqF (.int .i64 (((ds.length) : Nat) : Int)))]
  let EB : List CF := [(boxIF ((v : Nat) : Int)), zeroIF, (boxIF (-((v : Nat) : Int))), (boxIF 10)]
  exact region_auto (E := E) (EB := EB) (s := ⟨[(0, (.ref 2)), (3, (.int .i64 0)), (4, (.bool true)), (5, (.ref 3)), (8, (.ref 4)), (11, (.bool false)), (22, (.bool true)), (39, (.bool false)), (46, (.bool false))], [(2, 1), (6, 0), (7, 3)]⟩)
   { calls := [c2 19 (.ref 0) (.bool true) (.ref 1) fun w v0 v1 hb h0 h1 => kRMadeT h0 h1 sv],
     loads := [⟨22, 1, 0, (.ref 0), fun w q h => loadI_mag w q h⟩],
     stores := [⟨27, 0, 1, (.ref 1), 2, (storeI_zero _)⟩],
     flds := [⟨27, 1, 1, fldI1⟩] }
   ⟨[(0, (.ref 2)), (3, (.int .i64 0)), (4, (.bool true)), (5, (.ref 3)), (8, (.ref 4)), (11, (.bool false)), (22, (.bool true)), (39, (.bool false)), (46, (.bool false))], [(2, 2), (6, 0), (7, 3)]⟩ hst (by kernel_rfl) fin
set_option maxRecDepth 100000 in
theorem rrn_r11b {Q : Exit → Act → World → Prop} {Wb W0 : World} {a0 : Act} {ds : List UInt8} {b : UInt8} (_hlen : ds.length ≤ 1999) (_hds : ds ≠ []) (_h0 : ds[0]? = some b) (_h48 : b ≠ 48) {k v : Nat} {c : UInt8} (_sv : Sm ((v : Nat) : Int) 224) (hc : ds[k]? = some c) (_c1 : c.toNat < 48) (hst : St Wb 74 [(0, (eqF (.string ⟨List.toArray (45 :: ds)⟩))), (3, (eqF (.int .i64 0))), (4, (eqF (.bool true))), (5, (eqF (.string ⟨List.toArray ds⟩))), (8, (eqF (.int .i64 ((k : Nat) : Int)))), (11, (eqF (.bool false))), (22, (eqF (.bool true))), (39, (eqF (.bool false)))] [(2, zeroIF), (6, (boxIF ((v : Nat) : Int))), (7, (boxIF 10))] a0 W0)
    (fin : ∀ a w, St Wb 74 [(0, (eqF (.string ⟨List.toArray (45 :: ds)⟩))), (3, (eqF (.int .i64 0))), (4, (eqF (.bool true))), (5, (eqF (.string ⟨List.toArray ds⟩))), (8, (eqF (.int .i64 ((k : Nat) : Int)))), (11, (eqF (.bool false))), (22, (eqF (.bool true))), (39, (eqF (.bool false))), (46, (eqF (.bool true)))] [(2, zeroIF), (6, (boxIF ((v : Nat) : Int))), (7, (boxIF 10))] a w → Q .normal a w) : (Code.region 11 rrn_o11 false).wp Tryd.prog Q a0 W0 := by
  let E : List PF := [(eqF (.string ⟨List.toArray ds⟩)), (eqF (.int .i64 (ds.length : Int))), (eqF (.int .i64 ((k : Nat) : Int))), (eqF (.string ⟨List.toArray (45 :: ds)⟩))]
  let EB : List CF := [zeroIF, (boxIF ((v : Nat) : Int)), (boxIF 10)]
  exact region_auto (E := E) (EB := EB) (s := ⟨[(0, (.ref 3)), (3, (.int .i64 0)), (4, (.bool true)), (5, (.ref 0)), (8, (.ref 2)), (11, (.bool false)), (22, (.bool true)), (39, (.bool false))], [(2, 0), (6, 1), (7, 2)]⟩)
   { pures := [p1 (.blt .len [9]) (.ref 0) (.ref 1) fun _ _ _ _ hx => h_lenS hx,
      p2 (.bin .lss 3 3) (.ref 2) (.ref 1) (.bool true) fun _ _ _ _ _ hx hy => h_lss (r := true) (by simp only [decide_eq_true_eq]; have := get_lt hc; omega) hx hy] }
   ⟨[(0, (.ref 3)), (3, (.int .i64 0)), (4, (.bool true)), (5, (.ref 0)), (8, (.ref 2)), (11, (.bool false)), (22, (.bool true)), (39, (.bool false)), (46, (.bool true))], [(2, 0), (6, 1), (7, 2)]⟩ hst (by kernel_rfl) fin
set_option maxRecDepth 100000 in
theorem rrn_r13 {Q : Exit → Act → World → Prop} {Wb W0 : World} {a0 : Act} {ds : List UInt8} {b : UInt8} (_hlen : ds.length ≤ 1999) (_hds : ds ≠ []) (_h0 : ds[0]? = some b) (_h48 : b ≠ 48) {k v : Nat} {c : UInt8} (_sv : Sm ((v : Nat) : Int) 224) (hc : ds[k]? = some c) (_c1 : c.toNat < 48) (hst : St Wb 74 [(0, (eqF (.string ⟨List.toArray (45 :: ds)⟩))), (3, (eqF (.int .i64 0))), (4, (eqF (.bool true))), (5, (eqF (.string ⟨List.toArray ds⟩))), (8, (eqF (.int .i64 ((k : Nat) : Int)))), (11, (eqF (.bool false))), (22, (eqF (.bool true))), (39, (eqF (.bool false))), (46, (eqF (.bool true)))] [(2, zeroIF), (6, (boxIF ((v : Nat) : Int))), (7, (boxIF 10))] a0 W0)
    (fin : ∀ a w, St Wb 74 [(0, (eqF (.string ⟨List.toArray (45 :: ds)⟩))), (3, (eqF (.int .i64 0))), (4, (eqF (.bool true))), (5, (eqF (.string ⟨List.toArray ds⟩))), (8, (eqF (.int .i64 ((k : Nat) : Int)))), (11, (eqF (.bool false))), (22, (eqF (.bool true))), (39, (eqF (.bool false))), (46, (eqF (.bool true))), (58, (eqF (.bool true)))] [(2, zeroIF), (6, (boxIF ((v : Nat) : Int))), (7, (boxIF 10))] a w → Q .normal a w) : (Code.region 13 rrn_o13 false).wp Tryd.prog Q a0 W0 := by
  let E : List PF := [(eqF (.string ⟨List.toArray ds⟩)), (eqF (.int .i64 ((k : Nat) : Int))), (eqF (.int .u8 (c.toNat : Int))), (eqF (.string ⟨List.toArray (45 :: ds)⟩))]
  let EB : List CF := [zeroIF, (boxIF ((v : Nat) : Int)), (boxIF 10)]
  exact region_auto (E := E) (EB := EB) (s := ⟨[(0, (.ref 3)), (3, (.int .i64 0)), (4, (.bool true)), (5, (.ref 0)), (8, (.ref 1)), (11, (.bool false)), (22, (.bool true)), (39, (.bool false)), (46, (.bool true))], [(2, 0), (6, 1), (7, 2)]⟩)
   { pures := [p2 (.ixv 9) (.ref 0) (.ref 1) (.ref 2) fun _ _ _ _ _ hx hy => h_chr (bs := ds) (k := k) hc hx hy,
      p2 (.bin .lss 5 5) (.ref 2) (.int .u8 48) (.bool true) fun _ _ _ _ _ hx hy => h_lss (r := true) (by simp only [decide_eq_true_eq]; omega) hx hy] }
   ⟨[(0, (.ref 3)), (3, (.int .i64 0)), (4, (.bool true)), (5, (.ref 0)), (8, (.ref 1)), (11, (.bool false)), (22, (.bool true)), (39, (.bool false)), (46, (.bool true)), (58, (.bool true))], [(2, 0), (6, 1), (7, 2)]⟩ hst (by kernel_rfl) fin
set_option maxRecDepth 100000 in
theorem rrn_r14 {Q : Exit → Act → World → Prop} {Wb W0 : World} {a0 : Act} {ds : List UInt8} {b : UInt8} (_hlen : ds.length ≤ 1999) (_hds : ds ≠ []) (_h0 : ds[0]? = some b) (_h48 : b ≠ 48) {k v : Nat} {c : UInt8} (_sv : Sm ((v : Nat) : Int) 224) (_hc : ds[k]? = some c) (_c1 : c.toNat < 48) (hst : St Wb 74 [(0, (eqF (.string ⟨List.toArray (45 :: ds)⟩))), (3, (eqF (.int .i64 0))), (4, (eqF (.bool true))), (5, (eqF (.string ⟨List.toArray ds⟩))), (8, (eqF (.int .i64 ((k : Nat) : Int)))), (11, (eqF (.bool false))), (22, (eqF (.bool true))), (39, (eqF (.bool false))), (46, (eqF (.bool true))), (58, (eqF (.bool true)))] [(2, zeroIF), (6, (boxIF ((v : Nat) : Int))), (7, (boxIF 10))] a0 W0)
    (fin : ∀ a w, St Wb 74 [(0, (eqF (.string ⟨List.toArray (45 :: ds)⟩))), (3, (eqF (.int .i64 4))), (4, (eqF (.bool true))), (5, (eqF (.string ⟨List.toArray ds⟩))), (8, (eqF (.int .i64 ((k : Nat) : Int)))), (11, (eqF (.bool false))), (22, (eqF (.bool true))), (39, (eqF (.bool false))), (46, (eqF (.bool true))), (58, (eqF (.bool true)))] [(2, (boxIF 0)), (6, (boxIF ((v : Nat) : Int))), (7, (boxIF 10))] a w → Q .normal a w) : (Code.region 14 rrn_o14 false).wp Tryd.prog Q a0 W0 := by
  let E : List PF := [(intF 0), (eqF (.string ⟨List.toArray (45 :: ds)⟩)), (eqF (.string ⟨List.toArray ds⟩)), (eqF (.int .i64 ((k : Nat) : Int)))]
  let EB : List CF := [zeroIF, (boxIF 0), (boxIF ((v : Nat) : Int)), (boxIF 10)]
  exact region_auto (E := E) (EB := EB) (s := ⟨[(0, (.ref 1)), (3, (.int .i64 0)), (4, (.bool true)), (5, (.ref 2)), (8, (.ref 3)), (11, (.bool false)), (22, (.bool true)), (39, (.bool false)), (46, (.bool true)), (58, (.bool true))], [(2, 0), (6, 2), (7, 3)]⟩)
   { pures := [p0 (.bld 27 []) (.ref 0) fun _ _ _ => h_build0],
     stores := [⟨27, 0, 0, (.ref 0), 1, (storeI_zero _)⟩] }
   ⟨[(0, (.ref 1)), (3, (.int .i64 4)), (4, (.bool true)), (5, (.ref 2)), (8, (.ref 3)), (11, (.bool false)), (22, (.bool true)), (39, (.bool false)), (46, (.bool true)), (58, (.bool true))], [(2, 1), (6, 2), (7, 3)]⟩ hst (by kernel_rfl) fin
set_option maxRecDepth 100000 in
theorem rrn_r11c {Q : Exit → Act → World → Prop} {Wb W0 : World} {a0 : Act} {ds : List UInt8} {b : UInt8} (_hlen : ds.length ≤ 1999) (_hds : ds ≠ []) (_h0 : ds[0]? = some b) (_h48 : b ≠ 48) {k v : Nat} {c : UInt8} (_sv : Sm ((v : Nat) : Int) 224) (hc : ds[k]? = some c) (_c2 : 57 < c.toNat) (hst : St Wb 74 [(0, (eqF (.string ⟨List.toArray (45 :: ds)⟩))), (3, (eqF (.int .i64 0))), (4, (eqF (.bool true))), (5, (eqF (.string ⟨List.toArray ds⟩))), (8, (eqF (.int .i64 ((k : Nat) : Int)))), (11, (eqF (.bool false))), (22, (eqF (.bool true))), (39, (eqF (.bool false)))] [(2, zeroIF), (6, (boxIF ((v : Nat) : Int))), (7, (boxIF 10))] a0 W0)
    (fin : ∀ a w, St Wb 74 [(0, (eqF (.string ⟨List.toArray (45 :: ds)⟩))), (3, (eqF (.int .i64 0))), (4, (eqF (.bool true))), (5, (eqF (.string ⟨List.toArray ds⟩))), (8, (eqF (.int .i64 ((k : Nat) : Int)))), (11, (eqF (.bool false))), (22, (eqF (.bool true))), (39, (eqF (.bool false))), (46, (eqF (.bool true)))] [(2, zeroIF), (6, (boxIF ((v : Nat) : Int))), (7, (boxIF 10))] a w → Q .normal a w) : (Code.region 11 rrn_o11 false).wp Tryd.prog Q a0 W0 := by
  let E : List PF := [(eqF (.string ⟨List.toArray ds⟩)), (eqF (.int .i64 (ds.length : Int))), (eqF (.int .i64 ((k : Nat) : Int))), (eqF (.string ⟨List.toArray (45 :: ds)⟩))]
  let EB : List CF := [zeroIF, (boxIF ((v : Nat) : Int)), (boxIF 10)]
  exact region_auto (E := E) (EB := EB) (s := ⟨[(0, (.ref 3)), (3, (.int .i64 0)), (4, (.bool true)), (5, (.ref 0)), (8, (.ref 2)), (11, (.bool false)), (22, (.bool true)), (39, (.bool false))], [(2, 0), (6, 1), (7, 2)]⟩)
   { pures := [p1 (.blt .len [9]) (.ref 0) (.ref 1) fun _ _ _ _ hx => h_lenS hx,
      p2 (.bin .lss 3 3) (.ref 2) (.ref 1) (.bool true) fun _ _ _ _ _ hx hy => h_lss (r := true) (by simp only [decide_eq_true_eq]; have := get_lt hc; omega) hx hy] }
   ⟨[(0, (.ref 3)), (3, (.int .i64 0)), (4, (.bool true)), (5, (.ref 0)), (8, (.ref 2)), (11, (.bool false)), (22, (.bool true)), (39, (.bool false)), (46, (.bool true))], [(2, 0), (6, 1), (7, 2)]⟩ hst (by kernel_rfl) fin
set_option maxRecDepth 100000 in
theorem rrn_r13b {Q : Exit → Act → World → Prop} {Wb W0 : World} {a0 : Act} {ds : List UInt8} {b : UInt8} (_hlen : ds.length ≤ 1999) (_hds : ds ≠ []) (_h0 : ds[0]? = some b) (_h48 : b ≠ 48) {k v : Nat} {c : UInt8} (_sv : Sm ((v : Nat) : Int) 224) (hc : ds[k]? = some c) (_c2 : 57 < c.toNat) (hst : St Wb 74 [(0, (eqF (.string ⟨List.toArray (45 :: ds)⟩))), (3, (eqF (.int .i64 0))), (4, (eqF (.bool true))), (5, (eqF (.string ⟨List.toArray ds⟩))), (8, (eqF (.int .i64 ((k : Nat) : Int)))), (11, (eqF (.bool false))), (22, (eqF (.bool true))), (39, (eqF (.bool false))), (46, (eqF (.bool true)))] [(2, zeroIF), (6, (boxIF ((v : Nat) : Int))), (7, (boxIF 10))] a0 W0)
    (fin : ∀ a w, St Wb 74 [(0, (eqF (.string ⟨List.toArray (45 :: ds)⟩))), (3, (eqF (.int .i64 0))), (4, (eqF (.bool true))), (5, (eqF (.string ⟨List.toArray ds⟩))), (8, (eqF (.int .i64 ((k : Nat) : Int)))), (11, (eqF (.bool false))), (22, (eqF (.bool true))), (39, (eqF (.bool false))), (46, (eqF (.bool true))), (58, (eqF (.bool true)))] [(2, zeroIF), (6, (boxIF ((v : Nat) : Int))), (7, (boxIF 10))] a w → Q .normal a w) : (Code.region 13 rrn_o13 false).wp Tryd.prog Q a0 W0 := by
  let E : List PF := [(eqF (.string ⟨List.toArray ds⟩)), (eqF (.int .i64 ((k : Nat) : Int))), (eqF (.int .u8 (c.toNat : Int))), (eqF (.string ⟨List.toArray (45 :: ds)⟩))]
  let EB : List CF := [zeroIF, (boxIF ((v : Nat) : Int)), (boxIF 10)]
  exact region_auto (E := E) (EB := EB) (s := ⟨[(0, (.ref 3)), (3, (.int .i64 0)), (4, (.bool true)), (5, (.ref 0)), (8, (.ref 1)), (11, (.bool false)), (22, (.bool true)), (39, (.bool false)), (46, (.bool true))], [(2, 0), (6, 1), (7, 2)]⟩)
   { pures := [p2 (.ixv 9) (.ref 0) (.ref 1) (.ref 2) fun _ _ _ _ _ hx hy => h_chr (bs := ds) (k := k) hc hx hy,
      p2 (.bin .lss 5 5) (.ref 2) (.int .u8 48) (.bool false) fun _ _ _ _ _ hx hy => h_lss (r := false) (by simp only [decide_eq_false_iff_not]; omega) hx hy,
      p2 (.bin .gtr 5 5) (.ref 2) (.int .u8 57) (.bool true) fun _ _ _ _ _ hx hy => h_gtr (r := true) (by simp only [decide_eq_true_eq]; omega) hx hy] }
   ⟨[(0, (.ref 3)), (3, (.int .i64 0)), (4, (.bool true)), (5, (.ref 0)), (8, (.ref 1)), (11, (.bool false)), (22, (.bool true)), (39, (.bool false)), (46, (.bool true)), (58, (.bool true))], [(2, 0), (6, 1), (7, 2)]⟩ hst (by kernel_rfl) fin
set_option maxRecDepth 100000 in
theorem rrn_r14b {Q : Exit → Act → World → Prop} {Wb W0 : World} {a0 : Act} {ds : List UInt8} {b : UInt8} (_hlen : ds.length ≤ 1999) (_hds : ds ≠ []) (_h0 : ds[0]? = some b) (_h48 : b ≠ 48) {k v : Nat} {c : UInt8} (_sv : Sm ((v : Nat) : Int) 224) (_hc : ds[k]? = some c) (_c2 : 57 < c.toNat) (hst : St Wb 74 [(0, (eqF (.string ⟨List.toArray (45 :: ds)⟩))), (3, (eqF (.int .i64 0))), (4, (eqF (.bool true))), (5, (eqF (.string ⟨List.toArray ds⟩))), (8, (eqF (.int .i64 ((k : Nat) : Int)))), (11, (eqF (.bool false))), (22, (eqF (.bool true))), (39, (eqF (.bool false))), (46, (eqF (.bool true))), (58, (eqF (.bool true)))] [(2, zeroIF), (6, (boxIF ((v : Nat) : Int))), (7, (boxIF 10))] a0 W0)
    (fin : ∀ a w, St Wb 74 [(0, (eqF (.string ⟨List.toArray (45 :: ds)⟩))), (3, (eqF (.int .i64 4))), (4, (eqF (.bool true))), (5, (eqF (.string ⟨List.toArray ds⟩))), (8, (eqF (.int .i64 ((k : Nat) : Int)))), (11, (eqF (.bool false))), (22, (eqF (.bool true))), (39, (eqF (.bool false))), (46, (eqF (.bool true))), (58, (eqF (.bool true)))] [(2, (boxIF 0)), (6, (boxIF ((v : Nat) : Int))), (7, (boxIF 10))] a w → Q .normal a w) : (Code.region 14 rrn_o14 false).wp Tryd.prog Q a0 W0 := by
  let E : List PF := [(intF 0), (eqF (.string ⟨List.toArray (45 :: ds)⟩)), (eqF (.string ⟨List.toArray ds⟩)), (eqF (.int .i64 ((k : Nat) : Int)))]
  let EB : List CF := [zeroIF, (boxIF 0), (boxIF ((v : Nat) : Int)), (boxIF 10)]
  exact region_auto (E := E) (EB := EB) (s := ⟨[(0, (.ref 1)), (3, (.int .i64 0)), (4, (.bool true)), (5, (.ref 2)), (8, (.ref 3)), (11, (.bool false)), (22, (.bool true)), (39, (.bool false)), (46, (.bool true)), (58, (.bool true))], [(2, 0), (6, 2), (7, 3)]⟩)
   { pures := [p0 (.bld 27 []) (.ref 0) fun _ _ _ => h_build0],
     stores := [⟨27, 0, 0, (.ref 0), 1, (storeI_zero _)⟩] }
   ⟨[(0, (.ref 1)), (3, (.int .i64 4)), (4, (.bool true)), (5, (.ref 2)), (8, (.ref 3)), (11, (.bool false)), (22, (.bool true)), (39, (.bool false)), (46, (.bool true)), (58, (.bool true))], [(2, 1), (6, 2), (7, 3)]⟩ hst (by kernel_rfl) fin
set_option maxRecDepth 100000 in
theorem rrn_r11d {Q : Exit → Act → World → Prop} {Wb W0 : World} {a0 : Act} {ds : List UInt8} {b : UInt8} (_hlen : ds.length ≤ 1999) (_hds : ds ≠ []) (_h0 : ds[0]? = some b) (_h48 : b ≠ 48) {k v : Nat} {c : UInt8} (_sv : Sm ((v : Nat) : Int) 224) (hc : ds[k]? = some c) (_c3 : 48 ≤ c.toNat ∧ c.toNat ≤ 57) (hst : St Wb 74 [(0, (eqF (.string ⟨List.toArray (45 :: ds)⟩))), (3, (eqF (.int .i64 0))), (4, (eqF (.bool true))), (5, (eqF (.string ⟨List.toArray ds⟩))), (8, (eqF (.int .i64 ((k : Nat) : Int)))), (11, (eqF (.bool false))), (22, (eqF (.bool true))), (39, (eqF (.bool false)))] [(2, zeroIF), (6, (boxIF ((v : Nat) : Int))), (7, (boxIF 10))] a0 W0)
    (fin : ∀ a w, St Wb 74 [(0, (eqF (.string ⟨List.toArray (45 :: ds)⟩))), (3, (eqF (.int .i64 0))), (4, (eqF (.bool true))), (5, (eqF (.string ⟨List.toArray ds⟩))), (8, (eqF (.int .i64 ((k : Nat) : Int)))), (11, (eqF (.bool false))), (22, (eqF (.bool true))), (39, (eqF (.bool false))), (46, (eqF (.bool true)))] [(2, zeroIF), (6, (boxIF ((v : Nat) : Int))), (7, (boxIF 10))] a w → Q .normal a w) : (Code.region 11 rrn_o11 false).wp Tryd.prog Q a0 W0 := by
  let E : List PF := [(eqF (.string ⟨List.toArray ds⟩)), (eqF (.int .i64 (ds.length : Int))), (eqF (.int .i64 ((k : Nat) : Int))), (eqF (.string ⟨List.toArray (45 :: ds)⟩))]
  let EB : List CF := [zeroIF, (boxIF ((v : Nat) : Int)), (boxIF 10)]
  exact region_auto (E := E) (EB := EB) (s := ⟨[(0, (.ref 3)), (3, (.int .i64 0)), (4, (.bool true)), (5, (.ref 0)), (8, (.ref 2)), (11, (.bool false)), (22, (.bool true)), (39, (.bool false))], [(2, 0), (6, 1), (7, 2)]⟩)
   { pures := [p1 (.blt .len [9]) (.ref 0) (.ref 1) fun _ _ _ _ hx => h_lenS hx,
      p2 (.bin .lss 3 3) (.ref 2) (.ref 1) (.bool true) fun _ _ _ _ _ hx hy => h_lss (r := true) (by simp only [decide_eq_true_eq]; have := get_lt hc; omega) hx hy] }
   ⟨[(0, (.ref 3)), (3, (.int .i64 0)), (4, (.bool true)), (5, (.ref 0)), (8, (.ref 2)), (11, (.bool false)), (22, (.bool true)), (39, (.bool false)), (46, (.bool true))], [(2, 0), (6, 1), (7, 2)]⟩ hst (by kernel_rfl) fin
set_option maxRecDepth 100000 in
theorem rrn_r13c {Q : Exit → Act → World → Prop} {Wb W0 : World} {a0 : Act} {ds : List UInt8} {b : UInt8} (_hlen : ds.length ≤ 1999) (_hds : ds ≠ []) (_h0 : ds[0]? = some b) (_h48 : b ≠ 48) {k v : Nat} {c : UInt8} (_sv : Sm ((v : Nat) : Int) 224) (hc : ds[k]? = some c) (_c3 : 48 ≤ c.toNat ∧ c.toNat ≤ 57) (hst : St Wb 74 [(0, (eqF (.string ⟨List.toArray (45 :: ds)⟩))), (3, (eqF (.int .i64 0))), (4, (eqF (.bool true))), (5, (eqF (.string ⟨List.toArray ds⟩))), (8, (eqF (.int .i64 ((k : Nat) : Int)))), (11, (eqF (.bool false))), (22, (eqF (.bool true))), (39, (eqF (.bool false))), (46, (eqF (.bool true)))] [(2, zeroIF), (6, (boxIF ((v : Nat) : Int))), (7, (boxIF 10))] a0 W0)
    (fin : ∀ a w, St Wb 74 [(0, (eqF (.string ⟨List.toArray (45 :: ds)⟩))), (3, (eqF (.int .i64 0))), (4, (eqF (.bool true))), (5, (eqF (.string ⟨List.toArray ds⟩))), (8, (eqF (.int .i64 ((k : Nat) : Int)))), (11, (eqF (.bool false))), (22, (eqF (.bool true))), (39, (eqF (.bool false))), (46, (eqF (.bool true))), (58, (eqF (.bool false)))] [(2, zeroIF), (6, (boxIF ((v : Nat) : Int))), (7, (boxIF 10))] a w → Q .normal a w) : (Code.region 13 rrn_o13 false).wp Tryd.prog Q a0 W0 := by
  let E : List PF := [(eqF (.string ⟨List.toArray ds⟩)), (eqF (.int .i64 ((k : Nat) : Int))), (eqF (.int .u8 (c.toNat : Int))), (eqF (.string ⟨List.toArray (45 :: ds)⟩))]
  let EB : List CF := [zeroIF, (boxIF ((v : Nat) : Int)), (boxIF 10)]
  exact region_auto (E := E) (EB := EB) (s := ⟨[(0, (.ref 3)), (3, (.int .i64 0)), (4, (.bool true)), (5, (.ref 0)), (8, (.ref 1)), (11, (.bool false)), (22, (.bool true)), (39, (.bool false)), (46, (.bool true))], [(2, 0), (6, 1), (7, 2)]⟩)
   { pures := [p2 (.ixv 9) (.ref 0) (.ref 1) (.ref 2) fun _ _ _ _ _ hx hy => h_chr (bs := ds) (k := k) hc hx hy,
      p2 (.bin .lss 5 5) (.ref 2) (.int .u8 48) (.bool false) fun _ _ _ _ _ hx hy => h_lss (r := false) (by simp only [decide_eq_false_iff_not]; omega) hx hy,
      p2 (.bin .gtr 5 5) (.ref 2) (.int .u8 57) (.bool false) fun _ _ _ _ _ hx hy => h_gtr (r := false) (by simp only [decide_eq_false_iff_not]; omega) hx hy] }
   ⟨[(0, (.ref 3)), (3, (.int .i64 0)), (4, (.bool true)), (5, (.ref 0)), (8, (.ref 1)), (11, (.bool false)), (22, (.bool true)), (39, (.bool false)), (46, (.bool true)), (58, (.bool false))], [(2, 0), (6, 1), (7, 2)]⟩ hst (by kernel_rfl) fin
set_option maxRecDepth 100000 in
theorem rrn_r15 {Q : Exit → Act → World → Prop} {Wb W0 : World} {a0 : Act} {ds : List UInt8} {b : UInt8} (_hlen : ds.length ≤ 1999) (_hds : ds ≠ []) (h0 : ds[0]? = some b) (_h48 : b ≠ 48) {k v : Nat} {c : UInt8} (sv : Sm ((v : Nat) : Int) 224) (hc : ds[k]? = some c) (_c3 : 48 ≤ c.toNat ∧ c.toNat ≤ 57) (hst : St Wb 74 [(0, (eqF (.string ⟨List.toArray (45 :: ds)⟩))), (3, (eqF (.int .i64 0))), (4, (eqF (.bool true))), (5, (eqF (.string ⟨List.toArray ds⟩))), (8, (eqF (.int .i64 ((k : Nat) : Int)))), (11, (eqF (.bool false))), (22, (eqF (.bool true))), (39, (eqF (.bool false))), (46, (eqF (.bool true))), (58, (eqF (.bool false)))] [(2, zeroIF), (6, (boxIF ((v : Nat) : Int))), (7, (boxIF 10))] a0 W0)
    (fin : ∀ a w, St Wb 74 [(0, (eqF (.string ⟨List.toArray (45 :: ds)⟩))), (3, (eqF (.int .i64 0))), (4, (eqF (.bool true))), (5, (eqF (.string ⟨List.toArray ds⟩))), (8, (eqF (.int .i64 ((k : Nat) : Int)))), (11, (eqF (.bool false))), (22, (eqF (.bool true))), (39, (eqF (.bool false))), (46, (eqF (.bool true))), (58, (eqF (.bool false)))] [(2, zeroIF), (6, (boxIF ((((v : Nat) : Int) * 10) + ((c.toNat : Int) - 48)))), (7, (boxIF 10))] a w → Q .normal a w) : (Code.region 15 rrn_o15 true).wp Tryd.prog Q a0 W0 := by
  let E : List PF := [(intF ((v : Nat) : Int)), (intF 10), (intF (((v : Nat) : Int) * 10)), (eqF (.string ⟨List.toArray ds⟩)), (eqF (.int .i64 ((k : Nat) : Int))), (eqF (.int .u8 (c.toNat : Int))), (eqF (.int .i64 (c.toNat : Int))), (eqF (.int .i64 ((c.toNat : Int) - 48))), (intF ((c.toNat : Int) - 48)), (intF ((((v : Nat) : Int) * 10) + ((c.toNat : Int) - 48))), (eqF (.string ⟨List.toArray (45 :: ds)⟩))]
  let EB : List CF := [(boxIF ((v : Nat) : Int)), (boxIF 10), (boxIF ((((v : Nat) : Int) * 10) + ((c.toNat : Int) - 48))), zeroIF]
  exact region_auto (E := E) (EB := EB) (s := ⟨[(0, (.ref 10)), (3, (.int .i64 0)), (4, (.bool true)), (5, (.ref 3)), (8, (.ref 4)), (11, (.bool false)), (22, (.bool true)), (39, (.bool false)), (46, (.bool true)), (58, (.bool false))], [(2, 3), (6, 0), (7, 1)]⟩)
   { pures := [p2 (.ixv 9) (.ref 3) (.ref 4) (.ref 5) fun _ _ _ _ _ hx hy => h_chr (bs := ds) (k := k) hc hx hy,
      p1 (.conv 5 2) (.ref 5) (.ref 6) fun _ _ _ _ hx => h_cv8i hx,
      p2 (.bin .sub 2 2) (.ref 6) (.int .i64 48) (.ref 7) fun _ _ _ _ _ hx hy => h_sub (z := ((c.toNat : Int) - 48)) (by rw [IntKind.wrap_i64]; omega) hx hy],
     calls := [c2 30 (.ref 0) (.ref 1) (.ref 2) fun w v0 v1 hb h0 h1 => kRMul h0 h1 sv (Sm.of 10 (by decide)) (by first | decide | assumption | omega) (by first | decide | assumption | omega),
      c1 15 (.ref 7) (.ref 8) fun w v0 hb h0 => kROf ((c.toNat : Int) - 48) (by omega) (by omega) h0,
      c2 29 (.ref 2) (.ref 8) (.ref 9) fun w v0 v1 hb h0 h1 => kRAdd h0 h1 (sv.mul (Sm.of 10 (by decide))) (sm_chr c) (by first | decide | assumption | omega) (by first | decide | assumption | omega)],
     loads := [⟨27, 0, 0, (.ref 0), fun w q h => loadI_int w q h⟩,
      ⟨27, 0, 1, (.ref 1), fun w q h => loadI_int w q h⟩],
     stores := [⟨27, 0, 0, (.ref 9), 2, (storeI_box _ _)⟩] }
   ⟨[(0, (.ref 10)), (3, (.int .i64 0)), (4, (.bool true)), (5, (.ref 3)), (8, (.ref 4)), (11, (.bool false)), (22, (.bool true)), (39, (.bool false)), (46, (.bool true)), (58, (.bool false))], [(2, 3), (6, 2), (7, 1)]⟩ hst (by kernel_rfl) fin
set_option maxRecDepth 100000 in
theorem rrn_r12 {Q : Exit → Act → World → Prop} {Wb W0 : World} {a0 : Act} {ds : List UInt8} {b : UInt8} (_hlen : ds.length ≤ 1999) (_hds : ds ≠ []) (_h0 : ds[0]? = some b) (_h48 : b ≠ 48) {k v : Nat} {c : UInt8} (_sv : Sm ((v : Nat) : Int) 224) (hc : ds[k]? = some c) (_c3 : 48 ≤ c.toNat ∧ c.toNat ≤ 57) (hst : St Wb 74 [(0, (eqF (.string ⟨List.toArray (45 :: ds)⟩))), (3, (eqF (.int .i64 0))), (4, (eqF (.bool true))), (5, (eqF (.string ⟨List.toArray ds⟩))), (8, (eqF (.int .i64 ((k : Nat) : Int)))), (11, (eqF (.bool false))), (22, (eqF (.bool true))), (39, (eqF (.bool false))), (46, (eqF (.bool true))), (58, (eqF (.bool false)))] [(2, zeroIF), (6, (boxIF ((((v : Nat) : Int) * 10) + ((c.toNat : Int) - 48)))), (7, (boxIF 10))] a0 W0)
    (fin : ∀ a w, St Wb 74 [(0, (eqF (.string ⟨List.toArray (45 :: ds)⟩))), (3, (eqF (.int .i64 0))), (4, (eqF (.bool true))), (5, (eqF (.string ⟨List.toArray ds⟩))), (8, (eqF (.int .i64 ((k + 1 : Nat) : Int)))), (11, (eqF (.bool false))), (22, (eqF (.bool true))), (39, (eqF (.bool false))), (46, (eqF (.bool true))), (58, (eqF (.bool false)))] [(2, zeroIF), (6, (boxIF ((((v : Nat) : Int) * 10) + ((c.toNat : Int) - 48)))), (7, (boxIF 10))] a w → Q .normal a w) : (Code.region 12 rrn_o12 false).wp Tryd.prog Q a0 W0 := by
  let E : List PF := [(eqF (.int .i64 ((k : Nat) : Int))), (eqF (.int .i64 ((k + 1 : Nat) : Int))), (eqF (.string ⟨List.toArray (45 :: ds)⟩)), (eqF (.string ⟨List.toArray ds⟩))]
  let EB : List CF := [zeroIF, (boxIF ((((v : Nat) : Int) * 10) + ((c.toNat : Int) - 48))), (boxIF 10)]
  exact region_auto (E := E) (EB := EB) (s := ⟨[(0, (.ref 2)), (3, (.int .i64 0)), (4, (.bool true)), (5, (.ref 3)), (8, (.ref 0)), (11, (.bool false)), (22, (.bool true)), (39, (.bool false)), (46, (.bool true)), (58, (.bool false))], [(2, 0), (6, 1), (7, 2)]⟩)
   { pures := [p2 (.bin .add 3 3) (.ref 0) (.int .i64 1) (.ref 1) fun _ _ _ _ _ hx hy => h_add (z := ((k + 1 : Nat) : Int)) (by rw [IntKind.wrap_i64]; have := get_lt hc; omega) hx hy] }
   ⟨[(0, (.ref 2)), (3, (.int .i64 0)), (4, (.bool true)), (5, (.ref 3)), (8, (.ref 1)), (11, (.bool false)), (22, (.bool true)), (39, (.bool false)), (46, (.bool true)), (58, (.bool false))], [(2, 0), (6, 1), (7, 2)]⟩ hst (by kernel_rfl) fin
set_option maxRecDepth 100000 in
theorem RRead_N {ds : List UInt8} {b : UInt8} (va : Value) (W : World) (ha : (eqF (.string ⟨List.toArray (45 :: ds)⟩)).p va W) (hlen : ds.length ≤ 1999) (hds : ds ≠ []) (h0 : ds[0]? = some b) (h48 : b ≠ 48) :
    Calls Tryd.prog 8 #[va] W (GivesP (readP (readOf (45 :: ds))) W) := by
  refine calls_stW (S := [(0, (eqF (.string ⟨List.toArray (45 :: ds)⟩)))]) Tryd.func8 (by kernel_rfl) Tryd.ntmps8 (by simp) (fun x hx => ?_) fun a w hst => ?_
  · simp only [List.mem_cons, List.not_mem_nil, or_false] at hx
    subst hx
    exact ⟨_, rfl, ha⟩
  show Code.wp _ rrn_n0 _ a w
  rw [rrn_e0]
  refine wp_seq ?_
  rw [rrn_e1]
  refine rrn_r0 hlen hds h0 h48 hst ?_
  clear hst
  intro a w hst
  show Code.wp _ rrn_n2 _ a w
  rw [rrn_e2]
  refine wp_seq ?_
  rw [rrn_e3]
  refine wp_seq ?_
  rw [rrn_e5]
  refine rrn_r1 hlen hds h0 h48 hst ?_
  clear hst
  intro a w hst
  show Code.wp _ rrn_n6 _ a w
  rw [rrn_e6]
  refine wp_cond_false (st_bool hst 2 rfl) ?_
  show Code.wp _ rrn_n8 _ a w
  rw [rrn_e8]
  refine wp_skip ?_
  show Code.wp _ rrn_n4 _ a w
  rw [rrn_e4]
  refine wp_seq ?_
  rw [rrn_e11]
  refine rrn_r3 hlen hds h0 h48 hst ?_
  clear hst
  intro a w hst
  show Code.wp _ rrn_n12 _ a w
  rw [rrn_e12]
  refine wp_seq ?_
  rw [rrn_e13]
  refine rrn_r4 hlen hds h0 h48 hst ?_
  clear hst
  intro a w hst
  show Code.wp _ rrn_n14 _ a w
  rw [rrn_e14]
  refine wp_seq ?_
  rw [rrn_e15]
  refine wp_seq ?_
  rw [rrn_e17]
  refine rrn_r5 hlen hds h0 h48 hst ?_
  clear hst
  intro a w hst
  show Code.wp _ rrn_n18 _ a w
  rw [rrn_e18]
  refine wp_cond_true (st_bool hst 5 rfl) ?_
  show Code.wp _ rrn_n19 _ a w
  rw [rrn_e19]
  refine rrn_r6 hlen hds h0 h48 hst ?_
  clear hst
  intro a w hst
  show Code.wp _ rrn_n16 _ a w
  rw [rrn_e16]
  refine wp_seq ?_
  rw [rrn_e21]
  refine wp_seq ?_
  rw [rrn_e23]
  refine rrn_r7 hlen hds h0 h48 hst ?_
  clear hst
  intro a w hst
  show Code.wp _ rrn_n24 _ a w
  rw [rrn_e24]
  refine wp_cond_false (st_bool hst 6 rfl) ?_
  show Code.wp _ rrn_n26 _ a w
  rw [rrn_e26]
  refine wp_skip ?_
  show Code.wp _ rrn_n22 _ a w
  rw [rrn_e22]
  refine wp_seq ?_
  rw [rrn_e29]
  refine rrn_r9 hlen hds h0 h48 hst ?_
  clear hst
  intro a w hst
  show Code.wp _ rrn_n30 _ a w
  rw [rrn_e30]
  refine wp_seq ?_
  rw [rrn_e31]
  refine wp_seq ?_
  rw [rrn_e33]
  refine rrn_r10 hlen hds h0 h48 hst ?_
  clear hst
  intro a w hst
  show Code.wp _ rrn_n34 _ a w
  rw [rrn_e34]
  refine wp_block ?_
  show Code.wp _ rrn_n35 _ a w
  rw [rrn_e35]
  refine loop_ghost (fun (x : Nat × Nat) a w => St W 74 [(0, (eqF (.string ⟨List.toArray (45 :: ds)⟩))), (3, (eqF (.int .i64 0))), (4, (eqF (.bool true))), (5, (eqF (.string ⟨List.toArray ds⟩))), (8, (eqF (.int .i64 ((x.1 : Nat) : Int)))), (11, (eqF (.bool false))), (22, (eqF (.bool true))), (39, (eqF (.bool false)))] [(2, zeroIF), (6, (boxIF ((x.2 : Nat) : Int))), (7, (boxIF 10))] a w ∧ x.1 ≤ ds.length ∧ x.2 = dvA 0 (ds.take x.1) ∧ (ds.take x.1).all isD = true) (fun x => ds.length - x.1) ?_ ((0, 0) : Nat × Nat) ⟨hst, Nat.zero_le _, rfl, rfl⟩
  intro ⟨k, v⟩ a w ⟨hst, hk, hv, hall⟩
  have hst : St W 74 [(0, (eqF (.string ⟨List.toArray (45 :: ds)⟩))), (3, (eqF (.int .i64 0))), (4, (eqF (.bool true))), (5, (eqF (.string ⟨List.toArray ds⟩))), (8, (eqF (.int .i64 ((k : Nat) : Int)))), (11, (eqF (.bool false))), (22, (eqF (.bool true))), (39, (eqF (.bool false)))] [(2, zeroIF), (6, (boxIF ((v : Nat) : Int))), (7, (boxIF 10))] a w := hst
  have hk : k ≤ ds.length := hk
  have hv : v = dvA 0 (ds.take k) := hv
  have hall : (ds.take k).all isD = true := hall
  have sv : Sm ((v : Nat) : Int) 224 := sm_dv hv hall (Nat.le_trans hk (Nat.le_trans hlen (by decide)))
  show Code.wp _ rrn_n36 _ a w
  rcases next_chr hk with hk2 | ⟨c, hc⟩
  · rw [rrn_e36]
    refine wp_seq ?_
    rw [rrn_e37]
    refine wp_seq ?_
    rw [rrn_e39]
    refine rrn_r11 hlen hds h0 h48 sv hk2 hst ?_
    clear hst
    intro a w hst
    show Code.wp _ rrn_n40 _ a w
    rw [rrn_e40]
    refine wp_cond_false (st_bool hst 8 rfl) ?_
    show Code.wp _ rrn_n42 _ a w
    rw [rrn_e42]
    refine wp_exit ?_
    subst hk2
    rw [List.take_length] at hv hall
    show Code.wp _ rrn_n32 _ a w
    rw [rrn_e32]
    refine wp_seq ?_
    rw [rrn_e54]
    refine rrn_r16 hlen hds h0 h48 sv hst ?_
    clear hst
    intro a w hst
    show Code.wp _ rrn_n55 _ a w
    rw [rrn_e55]
    refine wp_ret ?_
    rw [read_goodN hds h0 h48 hall hv, readP_some]
    exact ret_boxI_tmp hst rfl 0 rfl 1 rfl
  · rcases (show c.toNat < 48 ∨ 57 < c.toNat ∨ (48 ≤ c.toNat ∧ c.toNat ≤ 57) by omega) with c1 | c2 | c3
    · rw [rrn_e36]
      refine wp_seq ?_
      rw [rrn_e37]
      refine wp_seq ?_
      rw [rrn_e39]
      refine rrn_r11b hlen hds h0 h48 sv hc c1 hst ?_
      clear hst
      intro a w hst
      show Code.wp _ rrn_n40 _ a w
      rw [rrn_e40]
      refine wp_cond_true (st_bool hst 8 rfl) ?_
      show Code.wp _ rrn_n41 _ a w
      rw [rrn_e41]
      refine wp_skip ?_
      show Code.wp _ rrn_n38 _ a w
      rw [rrn_e38]
      refine wp_seq ?_
      rw [rrn_e43]
      refine wp_block ?_
      show Code.wp _ rrn_n45 _ a w
      rw [rrn_e45]
      refine wp_seq ?_
      rw [rrn_e46]
      refine wp_seq ?_
      rw [rrn_e48]
      refine rrn_r13 hlen hds h0 h48 sv hc c1 hst ?_
      clear hst
      intro a w hst
      show Code.wp _ rrn_n49 _ a w
      rw [rrn_e49]
      refine wp_cond_true (st_bool hst 9 rfl) ?_
      show Code.wp _ rrn_n50 _ a w
      rw [rrn_e50]
      refine wp_seq ?_
      rw [rrn_e52]
      refine rrn_r14 hlen hds h0 h48 sv hc c1 hst ?_
      clear hst
      intro a w hst
      show Code.wp _ rrn_n53 _ a w
      rw [rrn_e53]
      refine wp_ret ?_
      rw [read_badN hc (by first | exact .inl c1 | exact .inr c2), readP_none]
      exact ret_boxI_tmp hst rfl 0 rfl 1 rfl
    · rw [rrn_e36]
      refine wp_seq ?_
      rw [rrn_e37]
      refine wp_seq ?_
      rw [rrn_e39]
      refine rrn_r11c hlen hds h0 h48 sv hc c2 hst ?_
      clear hst
      intro a w hst
      show Code.wp _ rrn_n40 _ a w
      rw [rrn_e40]
      refine wp_cond_true (st_bool hst 8 rfl) ?_
      show Code.wp _ rrn_n41 _ a w
      rw [rrn_e41]
      refine wp_skip ?_
      show Code.wp _ rrn_n38 _ a w
      rw [rrn_e38]
      refine wp_seq ?_
      rw [rrn_e43]
      refine wp_block ?_
      show Code.wp _ rrn_n45 _ a w
      rw [rrn_e45]
      refine wp_seq ?_
      rw [rrn_e46]
      refine wp_seq ?_
      rw [rrn_e48]
      refine rrn_r13b hlen hds h0 h48 sv hc c2 hst ?_
      clear hst
      intro a w hst
      show Code.wp _ rrn_n49 _ a w
      rw [rrn_e49]
      refine wp_cond_true (st_bool hst 9 rfl) ?_
      show Code.wp _ rrn_n50 _ a w
      rw [rrn_e50]
      refine wp_seq ?_
      rw [rrn_e52]
      refine rrn_r14b hlen hds h0 h48 sv hc c2 hst ?_
      clear hst
      intro a w hst
      show Code.wp _ rrn_n53 _ a w
      rw [rrn_e53]
      refine wp_ret ?_
      rw [read_badN hc (by first | exact .inl c1 | exact .inr c2), readP_none]
      exact ret_boxI_tmp hst rfl 0 rfl 1 rfl
    · rw [rrn_e36]
      refine wp_seq ?_
      rw [rrn_e37]
      refine wp_seq ?_
      rw [rrn_e39]
      refine rrn_r11d hlen hds h0 h48 sv hc c3 hst ?_
      clear hst
      intro a w hst
      show Code.wp _ rrn_n40 _ a w
      rw [rrn_e40]
      refine wp_cond_true (st_bool hst 8 rfl) ?_
      show Code.wp _ rrn_n41 _ a w
      rw [rrn_e41]
      refine wp_skip ?_
      show Code.wp _ rrn_n38 _ a w
      rw [rrn_e38]
      refine wp_seq ?_
      rw [rrn_e43]
      refine wp_block ?_
      show Code.wp _ rrn_n45 _ a w
      rw [rrn_e45]
      refine wp_seq ?_
      rw [rrn_e46]
      refine wp_seq ?_
      rw [rrn_e48]
      refine rrn_r13c hlen hds h0 h48 sv hc c3 hst ?_
      clear hst
      intro a w hst
      show Code.wp _ rrn_n49 _ a w
      rw [rrn_e49]
      refine wp_cond_false (st_bool hst 9 rfl) ?_
      show Code.wp _ rrn_n51 _ a w
      rw [rrn_e51]
      refine wp_skip ?_
      show Code.wp _ rrn_n47 _ a w
      rw [rrn_e47]
      refine rrn_r15 hlen hds h0 h48 sv hc c3 hst ?_
      clear hst
      intro a w hst
      show Code.wp _ rrn_n44 _ a w
      rw [rrn_e44]
      refine rrn_r12 hlen hds h0 h48 sv hc c3 hst ?_
      clear hst
      intro a w hst
      have e : ((v : Nat) : Int) * 10 + ((c.toNat : Int) - 48) = ((10 * v + dgt c : Nat) : Int) := by unfold dgt; omega
      rw [e] at hst
      have hlt := get_lt hc
      exact ⟨(k + 1, 10 * v + dgt c), ⟨(hst.to ⟨hst.slots.get (k := 0) rfl, hst.slots.get (k := 1) rfl, hst.slots.get (k := 2) rfl, hst.slots.get (k := 3) rfl, hst.slots.get (k := 4) rfl, hst.slots.get (k := 5) rfl, hst.slots.get (k := 6) rfl, hst.slots.get (k := 7) rfl, trivial⟩), hlt, by rw [dv_next hc, ← hv], all_next hc hall (by simp only [isD, Bool.and_eq_true, decide_eq_true_eq]; exact c3)⟩, by show _ - (k + 1) < _ - k; omega⟩

noncomputable def rrp_n0 : Code := bodyOf Tryd.f8
noncomputable def rrp_n1 : Code := cl rrp_n0
noncomputable def rrp_n2 : Code := cr rrp_n0
theorem rrp_e0 : rrp_n0 = .seq rrp_n1 rrp_n2 := by kernel_rfl
noncomputable def rrp_o0 : Array Oper := opsOf rrp_n1
theorem rrp_e1 : rrp_n1 = .region 0 rrp_o0 false := by kernel_rfl
noncomputable def rrp_n3 : Code := cl rrp_n2
noncomputable def rrp_n4 : Code := cr rrp_n2
theorem rrp_e2 : rrp_n2 = .seq rrp_n3 rrp_n4 := by kernel_rfl
noncomputable def rrp_n5 : Code := cl rrp_n3
noncomputable def rrp_n6 : Code := cr rrp_n3
theorem rrp_e3 : rrp_n3 = .seq rrp_n5 rrp_n6 := by kernel_rfl
noncomputable def rrp_o1 : Array Oper := opsOf rrp_n5
theorem rrp_e5 : rrp_n5 = .region 1 rrp_o1 false := by kernel_rfl
noncomputable def rrp_n7 : Code := cl rrp_n6
noncomputable def rrp_n8 : Code := cr rrp_n6
theorem rrp_e6 : rrp_n6 = .cond (.tmp 11) rrp_n7 rrp_n8 := by kernel_rfl
noncomputable def rrp_n9 : Code := cl rrp_n7
noncomputable def rrp_n10 : Code := cr rrp_n7
theorem rrp_e7 : rrp_n7 = .seq rrp_n9 rrp_n10 := by kernel_rfl
noncomputable def rrp_o2 : Array Oper := opsOf rrp_n9
theorem rrp_e9 : rrp_n9 = .region 2 rrp_o2 false := by kernel_rfl
theorem rrp_e10 : rrp_n10 = .ret := by kernel_rfl
theorem rrp_e8 : rrp_n8 = .skip := by kernel_rfl
noncomputable def rrp_n11 : Code := cl rrp_n4
noncomputable def rrp_n12 : Code := cr rrp_n4
theorem rrp_e4 : rrp_n4 = .seq rrp_n11 rrp_n12 := by kernel_rfl
noncomputable def rrp_o3 : Array Oper := opsOf rrp_n11
theorem rrp_e11 : rrp_n11 = .region 3 rrp_o3 false := by kernel_rfl
noncomputable def rrp_n13 : Code := cl rrp_n12
noncomputable def rrp_n14 : Code := cr rrp_n12
theorem rrp_e12 : rrp_n12 = .seq rrp_n13 rrp_n14 := by kernel_rfl
noncomputable def rrp_o4 : Array Oper := opsOf rrp_n13
theorem rrp_e13 : rrp_n13 = .region 4 rrp_o4 false := by kernel_rfl
noncomputable def rrp_n15 : Code := cl rrp_n14
noncomputable def rrp_n16 : Code := cr rrp_n14
theorem rrp_e14 : rrp_n14 = .seq rrp_n15 rrp_n16 := by kernel_rfl
noncomputable def rrp_n17 : Code := cl rrp_n15
noncomputable def rrp_n18 : Code := cr rrp_n15
theorem rrp_e15 : rrp_n15 = .seq rrp_n17 rrp_n18 := by kernel_rfl
noncomputable def rrp_o5 : Array Oper := opsOf rrp_n17
theorem rrp_e17 : rrp_n17 = .region 5 rrp_o5 false := by kernel_rfl
noncomputable def rrp_n19 : Code := cl rrp_n18
noncomputable def rrp_n20 : Code := cr rrp_n18
theorem rrp_e18 : rrp_n18 = .cond (.tmp 22) rrp_n19 rrp_n20 := by kernel_rfl
noncomputable def rrp_o6 : Array Oper := opsOf rrp_n19
theorem rrp_e19 : rrp_n19 = .region 6 rrp_o6 false := by kernel_rfl
theorem rrp_e20 : rrp_n20 = .skip := by kernel_rfl
noncomputable def rrp_n21 : Code := cl rrp_n16
noncomputable def rrp_n22 : Code := cr rrp_n16
theorem rrp_e16 : rrp_n16 = .seq rrp_n21 rrp_n22 := by kernel_rfl
noncomputable def rrp_n23 : Code := cl rrp_n21
noncomputable def rrp_n24 : Code := cr rrp_n21
theorem rrp_e21 : rrp_n21 = .seq rrp_n23 rrp_n24 := by kernel_rfl
noncomputable def rrp_o7 : Array Oper := opsOf rrp_n23
theorem rrp_e23 : rrp_n23 = .region 7 rrp_o7 false := by kernel_rfl
noncomputable def rrp_n25 : Code := cl rrp_n24
noncomputable def rrp_n26 : Code := cr rrp_n24
theorem rrp_e24 : rrp_n24 = .cond (.tmp 39) rrp_n25 rrp_n26 := by kernel_rfl
noncomputable def rrp_n27 : Code := cl rrp_n25
noncomputable def rrp_n28 : Code := cr rrp_n25
theorem rrp_e25 : rrp_n25 = .seq rrp_n27 rrp_n28 := by kernel_rfl
noncomputable def rrp_o8 : Array Oper := opsOf rrp_n27
theorem rrp_e27 : rrp_n27 = .region 8 rrp_o8 false := by kernel_rfl
theorem rrp_e28 : rrp_n28 = .ret := by kernel_rfl
theorem rrp_e26 : rrp_n26 = .skip := by kernel_rfl
noncomputable def rrp_n29 : Code := cl rrp_n22
noncomputable def rrp_n30 : Code := cr rrp_n22
theorem rrp_e22 : rrp_n22 = .seq rrp_n29 rrp_n30 := by kernel_rfl
noncomputable def rrp_o9 : Array Oper := opsOf rrp_n29
theorem rrp_e29 : rrp_n29 = .region 9 rrp_o9 false := by kernel_rfl
noncomputable def rrp_n31 : Code := cl rrp_n30
noncomputable def rrp_n32 : Code := cr rrp_n30
theorem rrp_e30 : rrp_n30 = .seq rrp_n31 rrp_n32 := by kernel_rfl
noncomputable def rrp_n33 : Code := cl rrp_n31
noncomputable def rrp_n34 : Code := cr rrp_n31
theorem rrp_e31 : rrp_n31 = .seq rrp_n33 rrp_n34 := by kernel_rfl
noncomputable def rrp_o10 : Array Oper := opsOf rrp_n33
theorem rrp_e33 : rrp_n33 = .region 10 rrp_o10 false := by kernel_rfl
noncomputable def rrp_n35 : Code := cl rrp_n34
theorem rrp_e34 : rrp_n34 = .block 0 rrp_n35 := by kernel_rfl
noncomputable def rrp_n36 : Code := cl rrp_n35
theorem rrp_e35 : rrp_n35 = .loop rrp_n36 := by kernel_rfl
noncomputable def rrp_n37 : Code := cl rrp_n36
noncomputable def rrp_n38 : Code := cr rrp_n36
theorem rrp_e36 : rrp_n36 = .seq rrp_n37 rrp_n38 := by kernel_rfl
noncomputable def rrp_n39 : Code := cl rrp_n37
noncomputable def rrp_n40 : Code := cr rrp_n37
theorem rrp_e37 : rrp_n37 = .seq rrp_n39 rrp_n40 := by kernel_rfl
noncomputable def rrp_o11 : Array Oper := opsOf rrp_n39
theorem rrp_e39 : rrp_n39 = .region 11 rrp_o11 false := by kernel_rfl
noncomputable def rrp_n41 : Code := cl rrp_n40
noncomputable def rrp_n42 : Code := cr rrp_n40
theorem rrp_e40 : rrp_n40 = .cond (.tmp 46) rrp_n41 rrp_n42 := by kernel_rfl
theorem rrp_e41 : rrp_n41 = .skip := by kernel_rfl
theorem rrp_e42 : rrp_n42 = .exit 0 := by kernel_rfl
noncomputable def rrp_n43 : Code := cl rrp_n38
noncomputable def rrp_n44 : Code := cr rrp_n38
theorem rrp_e38 : rrp_n38 = .seq rrp_n43 rrp_n44 := by kernel_rfl
noncomputable def rrp_n45 : Code := cl rrp_n43
theorem rrp_e43 : rrp_n43 = .block 1 rrp_n45 := by kernel_rfl
noncomputable def rrp_n46 : Code := cl rrp_n45
noncomputable def rrp_n47 : Code := cr rrp_n45
theorem rrp_e45 : rrp_n45 = .seq rrp_n46 rrp_n47 := by kernel_rfl
noncomputable def rrp_n48 : Code := cl rrp_n46
noncomputable def rrp_n49 : Code := cr rrp_n46
theorem rrp_e46 : rrp_n46 = .seq rrp_n48 rrp_n49 := by kernel_rfl
noncomputable def rrp_o13 : Array Oper := opsOf rrp_n48
theorem rrp_e48 : rrp_n48 = .region 13 rrp_o13 false := by kernel_rfl
noncomputable def rrp_n50 : Code := cl rrp_n49
noncomputable def rrp_n51 : Code := cr rrp_n49
theorem rrp_e49 : rrp_n49 = .cond (.tmp 58) rrp_n50 rrp_n51 := by kernel_rfl
noncomputable def rrp_n52 : Code := cl rrp_n50
noncomputable def rrp_n53 : Code := cr rrp_n50
theorem rrp_e50 : rrp_n50 = .seq rrp_n52 rrp_n53 := by kernel_rfl
noncomputable def rrp_o14 : Array Oper := opsOf rrp_n52
theorem rrp_e52 : rrp_n52 = .region 14 rrp_o14 false := by kernel_rfl
theorem rrp_e53 : rrp_n53 = .ret := by kernel_rfl
theorem rrp_e51 : rrp_n51 = .skip := by kernel_rfl
noncomputable def rrp_o15 : Array Oper := opsOf rrp_n47
theorem rrp_e47 : rrp_n47 = .region 15 rrp_o15 true := by kernel_rfl
noncomputable def rrp_o12 : Array Oper := opsOf rrp_n44
theorem rrp_e44 : rrp_n44 = .region 12 rrp_o12 false := by kernel_rfl
noncomputable def rrp_n54 : Code := cl rrp_n32
noncomputable def rrp_n55 : Code := cr rrp_n32
theorem rrp_e32 : rrp_n32 = .seq rrp_n54 rrp_n55 := by kernel_rfl
noncomputable def rrp_o16 : Array Oper := opsOf rrp_n54
theorem rrp_e54 : rrp_n54 = .region 16 rrp_o16 false := by kernel_rfl
theorem rrp_e55 : rrp_n55 = .ret := by kernel_rfl
set_option maxRecDepth 100000 in
theorem rrp_r0 {Q : Exit → Act → World → Prop} {Wb W0 : World} {a0 : Act} {ds : List UInt8} {b : UInt8} (_hlen : ds.length ≤ 2000) (_hds : ds ≠ []) (_h0 : ds[0]? = some b) (_h45 : b ≠ 45) (_h48 : b ≠ 48)  (hst : St Wb 74 [(0, (eqF (.string ⟨List.toArray ds⟩)))] [] a0 W0)
    (fin : ∀ a w, St Wb 74 [(0, (eqF (.string ⟨List.toArray ds⟩))), (3, (eqF (.int .i64 0)))] [(2, zeroIF)] a w → Q .normal a w) : (Code.region 0 rrp_o0 false).wp Tryd.prog Q a0 W0 := by
  let E : List PF := [(eqF (.string ⟨List.toArray ds⟩))]
  let EB : List CF := [zeroIF]
  exact region_auto (E := E) (EB := EB) (s := ⟨[(0, (.ref 0))], []⟩)
   { allocs := [⟨27, 0, _, allocI_run, allocI_old⟩] }
   ⟨[(0, (.ref 0)), (3, (.int .i64 0))], [(2, 0)]⟩ hst (by kernel_rfl) fin
set_option maxRecDepth 100000 in
theorem rrp_r1 {Q : Exit → Act → World → Prop} {Wb W0 : World} {a0 : Act} {ds : List UInt8} {b : UInt8} (_hlen : ds.length ≤ 2000) (_hds : ds ≠ []) (_h0 : ds[0]? = some b) (_h45 : b ≠ 45) (_h48 : b ≠ 48)  (hst : St Wb 74 [(0, (eqF (.string ⟨List.toArray ds⟩))), (3, (eqF (.int .i64 0)))] [(2, zeroIF)] a0 W0)
    (fin : ∀ a w, St Wb 74 [(0, (eqF (.string ⟨List.toArray ds⟩))), (3, (eqF (.int .i64 0))), (11, (eqF (.bool false)))] [(2, zeroIF)] a w → Q .normal a w) : (Code.region 1 rrp_o1 false).wp Tryd.prog Q a0 W0 := by
  let E : List PF := [(eqF (.string ⟨List.toArray ds⟩)), (eqF (.int .i64 (ds.length : Int)))]
  let EB : List CF := [zeroIF]
  exact region_auto (E := E) (EB := EB) (s := ⟨[(0, (.ref 0)), (3, (.int .i64 0))], [(2, 0)]⟩)
   { pures := [p1 (.blt .len [9]) (.ref 0) (.ref 1) fun _ _ _ _ hx => h_lenS hx,
      p2 (.bin .gtr 3 3) (.ref 1) (.int .i64 2000) (.bool false) fun _ _ _ _ _ hx hy => h_gtr (r := false) (by simp only [decide_eq_false_iff_not]; omega) hx hy] }
   ⟨[(0, (.ref 0)), (3, (.int .i64 0)), (11, (.bool false))], [(2, 0)]⟩ hst (by kernel_rfl) fin
set_option maxRecDepth 100000 in
theorem rrp_r3 {Q : Exit → Act → World → Prop} {Wb W0 : World} {a0 : Act} {ds : List UInt8} {b : UInt8} (_hlen : ds.length ≤ 2000) (hds : ds ≠ []) (h0 : ds[0]? = some b) (h45 : b ≠ 45) (_h48 : b ≠ 48)  (hst : St Wb 74 [(0, (eqF (.string ⟨List.toArray ds⟩))), (3, (eqF (.int .i64 0))), (11, (eqF (.bool false)))] [(2, zeroIF)] a0 W0)
    (fin : ∀ a w, St Wb 74 [(0, (eqF (.string ⟨List.toArray ds⟩))), (3, (eqF (.int .i64 0))), (4, (eqF (.bool false))), (11, (eqF (.bool false)))] [(2, zeroIF)] a w → Q .normal a w) : (Code.region 3 rrp_o3 false).wp Tryd.prog Q a0 W0 := by
  let E : List PF := [(eqF (.string ⟨List.toArray ds⟩)), (eqF (.int .i64 (ds.length : Int))), (eqF (.int .u8 (b.toNat : Int)))]
  let EB : List CF := [zeroIF]
  exact region_auto (E := E) (EB := EB) (s := ⟨[(0, (.ref 0)), (3, (.int .i64 0)), (11, (.bool false))], [(2, 0)]⟩)
   { pures := [p1 (.blt .len [9]) (.ref 0) (.ref 1) fun _ _ _ _ hx => h_lenS hx,
      p2 (.bin .gtr 3 3) (.ref 1) (.int .i64 0) (.bool true) fun _ _ _ _ _ hx hy => h_gtr (r := true) (by rw [decide_eq_true_eq]; have := List.length_pos_iff.2 hds; omega) hx hy,
      p2 (.ixv 9) (.ref 0) (.int .i64 0) (.ref 2) fun _ _ _ _ _ hx hy => h_chr (bs := ds) (k := 0) h0 hx hy,
      p2 (.bin .eql 5 5) (.ref 2) (.int .u8 45) (.bool false) fun _ _ _ _ _ hx hy => h_eqlI (r := false) (chr_ne h45 (by decide)) hx hy] }
   ⟨[(0, (.ref 0)), (3, (.int .i64 0)), (4, (.bool false)), (11, (.bool false))], [(2, 0)]⟩ hst (by kernel_rfl) fin
set_option maxRecDepth 100000 in
theorem rrp_r4 {Q : Exit → Act → World → Prop} {Wb W0 : World} {a0 : Act} {ds : List UInt8} {b : UInt8} (_hlen : ds.length ≤ 2000) (_hds : ds ≠ []) (_h0 : ds[0]? = some b) (_h45 : b ≠ 45) (_h48 : b ≠ 48)  (hst : St Wb 74 [(0, (eqF (.string ⟨List.toArray ds⟩))), (3, (eqF (.int .i64 0))), (4, (eqF (.bool false))), (11, (eqF (.bool false)))] [(2, zeroIF)] a0 W0)
    (fin : ∀ a w, St Wb 74 [(0, (eqF (.string ⟨List.toArray ds⟩))), (3, (eqF (.int .i64 0))), (4, (eqF (.bool false))), (5, (eqF (.string ⟨List.toArray ds⟩))), (11, (eqF (.bool false)))] [(2, zeroIF)] a w → Q .normal a w) : (Code.region 4 rrp_o4 false).wp Tryd.prog Q a0 W0 := by
  let E : List PF := [(eqF (.string ⟨List.toArray ds⟩))]
  let EB : List CF := [zeroIF]
  exact region_auto (E := E) (EB := EB) (s := ⟨[(0, (.ref 0)), (3, (.int .i64 0)), (4, (.bool false)), (11, (.bool false))], [(2, 0)]⟩)
   {  }
   ⟨[(0, (.ref 0)), (3, (.int .i64 0)), (4, (.bool false)), (5, (.ref 0)), (11, (.bool false))], [(2, 0)]⟩ hst (by kernel_rfl) fin
set_option maxRecDepth 100000 in
theorem rrp_r5 {Q : Exit → Act → World → Prop} {Wb W0 : World} {a0 : Act} {ds : List UInt8} {b : UInt8} (_hlen : ds.length ≤ 2000) (_hds : ds ≠ []) (_h0 : ds[0]? = some b) (_h45 : b ≠ 45) (_h48 : b ≠ 48)  (hst : St Wb 74 [(0, (eqF (.string ⟨List.toArray ds⟩))), (3, (eqF (.int .i64 0))), (4, (eqF (.bool false))), (5, (eqF (.string ⟨List.toArray ds⟩))), (11, (eqF (.bool false)))] [(2, zeroIF)] a0 W0)
    (fin : ∀ a w, St Wb 74 [(0, (eqF (.string ⟨List.toArray ds⟩))), (3, (eqF (.int .i64 0))), (4, (eqF (.bool false))), (5, (eqF (.string ⟨List.toArray ds⟩))), (11, (eqF (.bool false))), (22, (eqF (.bool false)))] [(2, zeroIF)] a w → Q .normal a w) : (Code.region 5 rrp_o5 false).wp Tryd.prog Q a0 W0 := by
  let E : List PF := [(eqF (.string ⟨List.toArray ds⟩))]
  let EB : List CF := [zeroIF]
  exact region_auto (E := E) (EB := EB) (s := ⟨[(0, (.ref 0)), (3, (.int .i64 0)), (4, (.bool false)), (5, (.ref 0)), (11, (.bool false))], [(2, 0)]⟩)
   {  }
   ⟨[(0, (.ref 0)), (3, (.int .i64 0)), (4, (.bool false)), (5, (.ref 0)), (11, (.bool false)), (22, (.bool false))], [(2, 0)]⟩ hst (by kernel_rfl) fin
set_option maxRecDepth 100000 in
theorem rrp_r7 {Q : Exit → Act → World → Prop} {Wb W0 : World} {a0 : Act} {ds : List UInt8} {b : UInt8} (_hlen : ds.length ≤ 2000) (hds : ds ≠ []) (h0 : ds[0]? = some b) (_h45 : b ≠ 45) (h48 : b ≠ 48)  (hst : St Wb 74 [(0, (eqF (.string ⟨List.toArray ds⟩))), (3, (eqF (.int .i64 0))), (4, (eqF (.bool false))), (5, (eqF (.string ⟨List.toArray ds⟩))), (11, (eqF (.bool false))), (22, (eqF (.bool false)))] [(2, zeroIF)] a0 W0)
    (fin : ∀ a w, St Wb 74 [(0, (eqF (.string ⟨List.toArray ds⟩))), (3, (eqF (.int .i64 0))), (4, (eqF (.bool false))), (5, (eqF (.string ⟨List.toArray ds⟩))), (11, (eqF (.bool false))), (22, (eqF (.bool false))), (39, (eqF (.bool false)))] [(2, zeroIF)] a w → Q .normal a w) : (Code.region 7 rrp_o7 false).wp Tryd.prog Q a0 W0 := by
  let E : List PF := [(eqF (.string ⟨List.toArray ds⟩)), (eqF (.int .u8 (b.toNat : Int)))]
  let EB : List CF := [zeroIF]
  exact region_auto (E := E) (EB := EB) (s := ⟨[(0, (.ref 0)), (3, (.int .i64 0)), (4, (.bool false)), (5, (.ref 0)), (11, (.bool false)), (22, (.bool false))], [(2, 0)]⟩)
   { pures := [p2 (.bin .eql 9 9) (.ref 0) (.str { data := #[] }) (.bool false) fun _ _ _ _ _ hx hy => h_eqlS (a := ds) (b := []) (by simpa using hds) hx hy,
      p2 (.ixv 9) (.ref 0) (.int .i64 0) (.ref 1) fun _ _ _ _ _ hx hy => h_chr (bs := ds) (k := 0) h0 hx hy,
      p2 (.bin .eql 5 5) (.ref 1) (.int .u8 48) (.bool false) fun _ _ _ _ _ hx hy => h_eqlI (r := false) (chr_ne h48 (by decide)) hx hy] }
   ⟨[(0, (.ref 0)), (3, (.int .i64 0)), (4, (.bool false)), (5, (.ref 0)), (11, (.bool false)), (22, (.bool false)), (39, (.bool false))], [(2, 0)]⟩ hst (by kernel_rfl) fin
set_option maxRecDepth 100000 in
theorem rrp_r9 {Q : Exit → Act → World → Prop} {Wb W0 : World} {a0 : Act} {ds : List UInt8} {b : UInt8} (_hlen : ds.length ≤ 2000) (_hds : ds ≠ []) (h0 : ds[0]? = some b) (_h45 : b ≠ 45) (_h48 : b ≠ 48)  (hst : St Wb 74 [(0, (eqF (.string ⟨List.toArray ds⟩))), (3, (eqF (.int .i64 0))), (4, (eqF (.bool false))), (5, (eqF (.string ⟨List.toArray ds⟩))), (11, (eqF (.bool false))), (22, (eqF (.bool false))), (39, (eqF (.bool false)))] [(2, zeroIF)] a0 W0)
    (fin : ∀ a w, St Wb 74 [(0, (eqF (.string ⟨List.toArray ds⟩))), (3, (eqF (.int .i64 0))), (4, (eqF (.bool false))), (5, (eqF (.string ⟨List.toArray ds⟩))), (11, (eqF (.bool false))), (22, (eqF (.bool false))), (39, (eqF (.bool false)))] [(2, zeroIF), (6, (boxIF 0)), (7, (boxIF 10))] a w → Q .normal a w) : (Code.region 9 rrp_o9 false).wp Tryd.prog Q a0 W0 := by
  let E : List PF := [(intF 0), (intF 10), (eqF (.string ⟨List.toArray ds⟩))]
  let EB : List CF := [zeroIF, (boxIF 0), (boxIF 10)]
  exact region_auto (E := E) (EB := EB) (s := ⟨[(0, (.ref 2)), (3, (.int .i64 0)), (4, (.bool false)), (5, (.ref 2)), (11, (.bool false)), (22, (.bool false)), (39, (.bool false))], [(2, 0)]⟩)
   { pures := [p0 (.bld 27 []) (.ref 0) fun _ _ _ => h_build0],
     calls := [c1 15 (.int .i64 10) (.ref 1) fun w v0 hb h0 => kROf 10 (by omega) (by omega) h0],
     allocs := [⟨27, 0, _, allocI_run, allocI_old⟩],
     stores := [⟨27, 0, 0, (.ref 0), 1, (storeI_zero _)⟩,
      ⟨27, 0, 0, (.ref 1), 2, (storeI_zero _)⟩] }
   ⟨[(0, (.ref 2)), (3, (.int .i64 0)), (4, (.bool false)), (5, (.ref 2)), (11, (.bool false)), (22, (.bool false)), (39, (.bool false))], [(2, 0), (6, 1), (7, 2)]⟩ hst (by kernel_rfl) fin
set_option maxRecDepth 100000 in
theorem rrp_r10 {Q : Exit → Act → World → Prop} {Wb W0 : World} {a0 : Act} {ds : List UInt8} {b : UInt8} (_hlen : ds.length ≤ 2000) (_hds : ds ≠ []) (_h0 : ds[0]? = some b) (_h45 : b ≠ 45) (_h48 : b ≠ 48)  (hst : St Wb 74 [(0, (eqF (.string ⟨List.toArray ds⟩))), (3, (eqF (.int .i64 0))), (4, (eqF (.bool false))), (5, (eqF (.string ⟨List.toArray ds⟩))), (11, (eqF (.bool false))), (22, (eqF (.bool false))), (39, (eqF (.bool false)))] [(2, zeroIF), (6, (boxIF 0)), (7, (boxIF 10))] a0 W0)
    (fin : ∀ a w, St Wb 74 [(0, (eqF (.string ⟨List.toArray ds⟩))), (3, (eqF (.int .i64 0))), (4, (eqF (.bool false))), (5, (eqF (.string ⟨List.toArray ds⟩))), (8, (eqF (.int .i64 0))), (11, (eqF (.bool false))), (22, (eqF (.bool false))), (39, (eqF (.bool false)))] [(2, zeroIF), (6, (boxIF 0)), (7, (boxIF 10))] a w → Q .normal a w) : (Code.region 10 rrp_o10 false).wp Tryd.prog Q a0 W0 := by
  let E : List PF := [(eqF (.string ⟨List.toArray ds⟩))]
  let EB : List CF := [zeroIF, (boxIF 0), (boxIF 10)]
  exact region_auto (E := E) (EB := EB) (s := ⟨[(0, (.ref 0)), (3, (.int .i64 0)), (4, (.bool false)), (5, (.ref 0)), (11, (.bool false)), (22, (.bool false)), (39, (.bool false))], [(2, 0), (6, 1), (7, 2)]⟩)
   {  }
   ⟨[(0, (.ref 0)), (3, (.int .i64 0)), (4, (.bool false)), (5, (.ref 0)), (8, (.int .i64 0)), (11, (.bool false)), (22, (.bool false)), (39, (.bool false))], [(2, 0), (6, 1), (7, 2)]⟩ hst (by kernel_rfl) fin
set_option maxRecDepth 100000 in
theorem rrp_r11 {Q : Exit → Act → World → Prop} {Wb W0 : World} {a0 : Act} {ds : List UInt8} {b : UInt8} (_hlen : ds.length ≤ 2000) (_hds : ds ≠ []) (_h0 : ds[0]? = some b) (_h45 : b ≠ 45) (_h48 : b ≠ 48) {k v : Nat} (_sv : Sm ((v : Nat) : Int) 224) (_hk2 : k = ds.length) (hst : St Wb 74 [(0, (eqF (.string ⟨List.toArray ds⟩))), (3, (eqF (.int .i64 0))), (4, (eqF (.bool false))), (5, (eqF (.string ⟨List.toArray ds⟩))), (8, (eqF (.int .i64 ((k : Nat) : Int)))), (11, (eqF (.bool false))), (22, (eqF (.bool false))), (39, (eqF (.bool false)))] [(2, zeroIF), (6, (boxIF ((v : Nat) : Int))), (7, (boxIF 10))] a0 W0)
    (fin : ∀ a w, St Wb 74 [(0, (eqF (.string ⟨List.toArray ds⟩))), (3, (eqF (.int .i64 0))), (4, (eqF (.bool false))), (5, (eqF (.string ⟨List.toArray ds⟩))), (8, (eqF (.int .i64 ((k : Nat) : Int)))), (11, (eqF (.bool false))), (22, (eqF (.bool false))), (39, (eqF (.bool false))), (46, (eqF (.bool false)))] [(2, zeroIF), (6, (boxIF ((v : Nat) : Int))), (7, (boxIF 10))] a w → Q .normal a w) : (Code.region 11 rrp_o11 false).wp Tryd.prog Q a0 W0 := by
  let E : List PF := [(eqF (.string ⟨List.toArray ds⟩)), (eqF (.int .i64 (ds.length : Int))), (eqF (.int .i64 ((k : Nat) : Int)))]
  let EB : List CF := [zeroIF, (boxIF ((v : Nat) : Int)), (boxIF 10)]
  exact region_auto (E := E) (EB := EB) (s := ⟨[(0, (.ref 0)), (3, (.int .i64 0)), (4, (.bool false)), (5, (.ref 0)), (8, (.ref 2)), (11, (.bool false)), (22, (.bool false)), (39, (.bool false))], [(2, 0), (6, 1), (7, 2)]⟩)
   { pures := [p1 (.blt .len [9]) (.ref 0) (.ref 1) fun _ _ _ _ hx => h_lenS hx,
      p2 (.bin .lss 3 3) (.ref 2) (.ref 1) (.bool false) fun _ _ _ _ _ hx hy => h_lss (r := false) (by simp only [decide_eq_false_iff_not]; omega) hx hy] }
   ⟨[(0, (.ref 0)), (3, (.int .i64 0)), (4, (.bool false)), (5, (.ref 0)), (8, (.ref 2)), (11, (.bool false)), (22, (.bool false)), (39, (.bool false)), (46, (.bool false))], [(2, 0), (6, 1), (7, 2)]⟩ hst (by kernel_rfl) fin
set_option maxRecDepth 100000 in
theorem rrp_r16 {Q : Exit → Act → World → Prop} {Wb W0 : World} {a0 : Act} {ds : List UInt8} {b : UInt8} (_hlen : ds.length ≤ 2000) (_hds : ds ≠ []) (h0 : ds[0]? = some b) (_h45 : b ≠ 45) (_h48 : b ≠ 48) {v : Nat} (sv : Sm ((v : Nat) : Int) 224) (hst : St Wb 74 [(0, (eqF (.string ⟨List.toArray ds⟩))), (3, (eqF (.int .i64 0))), (4, (eqF (.bool false))), (5, (eqF (.string ⟨List.toArray ds⟩))), (8, (eqF (.int .i64 (((ds.length) : Nat) : Int)))), (11, (eqF (.bool false))), (22, (eqF (.bool false))), (39, (eqF (.bool false))), (46, (eqF (.bool false)))] [(2, zeroIF), (6, (boxIF ((v : Nat) : Int))), (7, (boxIF 10))] a0 W0)
    (fin : ∀ a w, St Wb 74 [(0, (eqF (.string ⟨List.toArray ds⟩))), (3, (eqF (.int .i64 0))), (4, (eqF (.bool false))), (5, (eqF (.string ⟨List.toArray ds⟩))), (8, (eqF (.int .i64 (((ds.length) : Nat) : Int)))), (11, (eqF (.bool false))), (22, (eqF (.bool false))), (39, (eqF (.bool false))), (46, (eqF (.bool false)))] [(2, (boxIF ((v : Nat) : Int))), (6, (boxIF ((v : Nat) : Int))), (7, (boxIF 10))] a w → Q .normal a w) : (Code.region 16 rrp_o16 false).wp Tryd.prog Q a0 W0 := by
  let E : List PF := [(natF ((v : Nat) : Int).natAbs), (intF ((v : Nat) : Int)), (eqF (.string ⟨List.toArray ds⟩)), (eqF (.int .i64 (((ds.length) : Nat) : Int)))]
  let EB : List CF := [(boxIF ((v : Nat) : Int)), zeroIF, (boxIF 10)]
  exact region_auto (E := E) (EB := EB) (s := ⟨[(0, (.ref 2)), (3, (.int .i64 0)), (4, (.bool false)), (5, (.ref 2)), (8, (.ref 3)), (11, (.bool false)), (22, (.bool false)), (39, (.bool false)), (46, (.bool false))], [(2, 1), (6, 0), (7, 2)]⟩)
   { calls := [c2 19 (.ref 0) (.bool false) (.ref 1) fun w v0 v1 hb h0 h1 => kRMadeU h0 h1 sv],
     loads := [⟨22, 1, 0, (.ref 0), fun w q h => loadI_mag w q h⟩],
     stores := [⟨27, 0, 1, (.ref 1), 0, (storeI_zero _)⟩],
     flds := [⟨27, 1, 1, fldI1⟩] }
   ⟨[(0, (.ref 2)), (3, (.int .i64 0)), (4, (.bool false)), (5, (.ref 2)), (8, (.ref 3)), (11, (.bool false)), (22, (.bool false)), (39, (.bool false)), (46, (.bool false))], [(2, 0), (6, 0), (7, 2)]⟩ hst (by kernel_rfl) fin
set_option maxRecDepth 100000 in
theorem rrp_r11b {Q : Exit → Act → World → Prop} {Wb W0 : World} {a0 : Act} {ds : List UInt8} {b : UInt8} (_hlen : ds.length ≤ 2000) (_hds : ds ≠ []) (_h0 : ds[0]? = some b) (_h45 : b ≠ 45) (_h48 : b ≠ 48) {k v : Nat} {c : UInt8} (_sv : Sm ((v : Nat) : Int) 224) (hc : ds[k]? = some c) (_c1 : c.toNat < 48) (hst : St Wb 74 [(0, (eqF (.string ⟨List.toArray ds⟩))), (3, (eqF (.int .i64 0))), (4, (eqF (.bool false))), (5, (eqF (.string ⟨List.toArray ds⟩))), (8, (eqF (.int .i64 ((k : Nat) : Int)))), (11, (eqF (.bool false))), (22, (eqF (.bool false))), (39, (eqF (.bool false)))] [(2, zeroIF), (6, (boxIF ((v : Nat) : Int))), (7, (boxIF 10))] a0 W0)
    (fin : ∀ a w, St Wb 74 [(0, (eqF (.string ⟨List.toArray ds⟩))), (3, (eqF (.int .i64 0))), (4, (eqF (.bool false))), (5, (eqF (.string ⟨List.toArray ds⟩))), (8, (eqF (.int .i64 ((k : Nat) : Int)))), (11, (eqF (.bool false))), (22, (eqF (.bool false))), (39, (eqF (.bool false))), (46, (eqF (.bool true)))] [(2, zeroIF), (6, (boxIF ((v : Nat) : Int))), (7, (boxIF 10))] a w → Q .normal a w) : (Code.region 11 rrp_o11 false).wp Tryd.prog Q a0 W0 := by
  let E : List PF := [(eqF (.string ⟨List.toArray ds⟩)), (eqF (.int .i64 (ds.length : Int))), (eqF (.int .i64 ((k : Nat) : Int)))]
  let EB : List CF := [zeroIF, (boxIF ((v : Nat) : Int)), (boxIF 10)]
  exact region_auto (E := E) (EB := EB) (s := ⟨[(0, (.ref 0)), (3, (.int .i64 0)), (4, (.bool false)), (5, (.ref 0)), (8, (.ref 2)), (11, (.bool false)), (22, (.bool false)), (39, (.bool false))], [(2, 0), (6, 1), (7, 2)]⟩)
   { pures := [p1 (.blt .len [9]) (.ref 0) (.ref 1) fun _ _ _ _ hx => h_lenS hx,
      p2 (.bin .lss 3 3) (.ref 2) (.ref 1) (.bool true) fun _ _ _ _ _ hx hy => h_lss (r := true) (by simp only [decide_eq_true_eq]; have := get_lt hc; omega) hx hy] }
   ⟨[(0, (.ref 0)), (3, (.int .i64 0)), (4, (.bool false)), (5, (.ref 0)), (8, (.ref 2)), (11, (.bool false)), (22, (.bool false)), (39, (.bool false)), (46, (.bool true))], [(2, 0), (6, 1), (7, 2)]⟩ hst (by kernel_rfl) fin
set_option maxRecDepth 100000 in
theorem rrp_r13 {Q : Exit → Act → World → Prop} {Wb W0 : World} {a0 : Act} {ds : List UInt8} {b : UInt8} (_hlen : ds.length ≤ 2000) (_hds : ds ≠ []) (_h0 : ds[0]? = some b) (_h45 : b ≠ 45) (_h48 : b ≠ 48) {k v : Nat} {c : UInt8} (_sv : Sm ((v : Nat) : Int) 224) (hc : ds[k]? = some c) (_c1 : c.toNat < 48) (hst : St Wb 74 [(0, (eqF (.string ⟨List.toArray ds⟩))), (3, (eqF (.int .i64 0))), (4, (eqF (.bool false))), (5, (eqF (.string ⟨List.toArray ds⟩))), (8, (eqF (.int .i64 ((k : Nat) : Int)))), (11, (eqF (.bool false))), (22, (eqF (.bool false))), (39, (eqF (.bool false))), (46, (eqF (.bool true)))] [(2, zeroIF), (6, (boxIF ((v : Nat) : Int))), (7, (boxIF 10))] a0 W0)
    (fin : ∀ a w, St Wb 74 [(0, (eqF (.string ⟨List.toArray ds⟩))), (3, (eqF (.int .i64 0))), (4, (eqF (.bool false))), (5, (eqF (.string ⟨List.toArray ds⟩))), (8, (eqF (.int .i64 ((k : Nat) : Int)))), (11, (eqF (.bool false))), (22, (eqF (.bool false))), (39, (eqF (.bool false))), (46, (eqF (.bool true))), (58, (eqF (.bool true)))] [(2, zeroIF), (6, (boxIF ((v : Nat) : Int))), (7, (boxIF 10))] a w → Q .normal a w) : (Code.region 13 rrp_o13 false).wp Tryd.prog Q a0 W0 := by
  let E : List PF := [(eqF (.string ⟨List.toArray ds⟩)), (eqF (.int .i64 ((k : Nat) : Int))), (eqF (.int .u8 (c.toNat : Int)))]
  let EB : List CF := [zeroIF, (boxIF ((v : Nat) : Int)), (boxIF 10)]
  exact region_auto (E := E) (EB := EB) (s := ⟨[(0, (.ref 0)), (3, (.int .i64 0)), (4, (.bool false)), (5, (.ref 0)), (8, (.ref 1)), (11, (.bool false)), (22, (.bool false)), (39, (.bool false)), (46, (.bool true))], [(2, 0), (6, 1), (7, 2)]⟩)
   { pures := [p2 (.ixv 9) (.ref 0) (.ref 1) (.ref 2) fun _ _ _ _ _ hx hy => h_chr (bs := ds) (k := k) hc hx hy,
      p2 (.bin .lss 5 5) (.ref 2) (.int .u8 48) (.bool true) fun _ _ _ _ _ hx hy => h_lss (r := true) (by simp only [decide_eq_true_eq]; omega) hx hy] }
   ⟨[(0, (.ref 0)), (3, (.int .i64 0)), (4, (.bool false)), (5, (.ref 0)), (8, (.ref 1)), (11, (.bool false)), (22, (.bool false)), (39, (.bool false)), (46, (.bool true)), (58, (.bool true))], [(2, 0), (6, 1), (7, 2)]⟩ hst (by kernel_rfl) fin
set_option maxRecDepth 100000 in
theorem rrp_r14 {Q : Exit → Act → World → Prop} {Wb W0 : World} {a0 : Act} {ds : List UInt8} {b : UInt8} (_hlen : ds.length ≤ 2000) (_hds : ds ≠ []) (_h0 : ds[0]? = some b) (_h45 : b ≠ 45) (_h48 : b ≠ 48) {k v : Nat} {c : UInt8} (_sv : Sm ((v : Nat) : Int) 224) (_hc : ds[k]? = some c) (_c1 : c.toNat < 48) (hst : St Wb 74 [(0, (eqF (.string ⟨List.toArray ds⟩))), (3, (eqF (.int .i64 0))), (4, (eqF (.bool false))), (5, (eqF (.string ⟨List.toArray ds⟩))), (8, (eqF (.int .i64 ((k : Nat) : Int)))), (11, (eqF (.bool false))), (22, (eqF (.bool false))), (39, (eqF (.bool false))), (46, (eqF (.bool true))), (58, (eqF (.bool true)))] [(2, zeroIF), (6, (boxIF ((v : Nat) : Int))), (7, (boxIF 10))] a0 W0)
    (fin : ∀ a w, St Wb 74 [(0, (eqF (.string ⟨List.toArray ds⟩))), (3, (eqF (.int .i64 4))), (4, (eqF (.bool false))), (5, (eqF (.string ⟨List.toArray ds⟩))), (8, (eqF (.int .i64 ((k : Nat) : Int)))), (11, (eqF (.bool false))), (22, (eqF (.bool false))), (39, (eqF (.bool false))), (46, (eqF (.bool true))), (58, (eqF (.bool true)))] [(2, (boxIF 0)), (6, (boxIF ((v : Nat) : Int))), (7, (boxIF 10))] a w → Q .normal a w) : (Code.region 14 rrp_o14 false).wp Tryd.prog Q a0 W0 := by
  let E : List PF := [(intF 0), (eqF (.string ⟨List.toArray ds⟩)), (eqF (.int .i64 ((k : Nat) : Int)))]
  let EB : List CF := [zeroIF, (boxIF 0), (boxIF ((v : Nat) : Int)), (boxIF 10)]
  exact region_auto (E := E) (EB := EB) (s := ⟨[(0, (.ref 1)), (3, (.int .i64 0)), (4, (.bool false)), (5, (.ref 1)), (8, (.ref 2)), (11, (.bool false)), (22, (.bool false)), (39, (.bool false)), (46, (.bool true)), (58, (.bool true))], [(2, 0), (6, 2), (7, 3)]⟩)
   { pures := [p0 (.bld 27 []) (.ref 0) fun _ _ _ => h_build0],
     stores := [⟨27, 0, 0, (.ref 0), 1, (storeI_zero _)⟩] }
   ⟨[(0, (.ref 1)), (3, (.int .i64 4)), (4, (.bool false)), (5, (.ref 1)), (8, (.ref 2)), (11, (.bool false)), (22, (.bool false)), (39, (.bool false)), (46, (.bool true)), (58, (.bool true))], [(2, 1), (6, 2), (7, 3)]⟩ hst (by kernel_rfl) fin
set_option maxRecDepth 100000 in
theorem rrp_r11c {Q : Exit → Act → World → Prop} {Wb W0 : World} {a0 : Act} {ds : List UInt8} {b : UInt8} (_hlen : ds.length ≤ 2000) (_hds : ds ≠ []) (_h0 : ds[0]? = some b) (_h45 : b ≠ 45) (_h48 : b ≠ 48) {k v : Nat} {c : UInt8} (_sv : Sm ((v : Nat) : Int) 224) (hc : ds[k]? = some c) (_c2 : 57 < c.toNat) (hst : St Wb 74 [(0, (eqF (.string ⟨List.toArray ds⟩))), (3, (eqF (.int .i64 0))), (4, (eqF (.bool false))), (5, (eqF (.string ⟨List.toArray ds⟩))), (8, (eqF (.int .i64 ((k : Nat) : Int)))), (11, (eqF (.bool false))), (22, (eqF (.bool false))), (39, (eqF (.bool false)))] [(2, zeroIF), (6, (boxIF ((v : Nat) : Int))), (7, (boxIF 10))] a0 W0)
    (fin : ∀ a w, St Wb 74 [(0, (eqF (.string ⟨List.toArray ds⟩))), (3, (eqF (.int .i64 0))), (4, (eqF (.bool false))), (5, (eqF (.string ⟨List.toArray ds⟩))), (8, (eqF (.int .i64 ((k : Nat) : Int)))), (11, (eqF (.bool false))), (22, (eqF (.bool false))), (39, (eqF (.bool false))), (46, (eqF (.bool true)))] [(2, zeroIF), (6, (boxIF ((v : Nat) : Int))), (7, (boxIF 10))] a w → Q .normal a w) : (Code.region 11 rrp_o11 false).wp Tryd.prog Q a0 W0 := by
  let E : List PF := [(eqF (.string ⟨List.toArray ds⟩)), (eqF (.int .i64 (ds.length : Int))), (eqF (.int .i64 ((k : Nat) : Int)))]
  let EB : List CF := [zeroIF, (boxIF ((v : Nat) : Int)), (boxIF 10)]
  exact region_auto (E := E) (EB := EB) (s := ⟨[(0, (.ref 0)), (3, (.int .i64 0)), (4, (.bool false)), (5, (.ref 0)), (8, (.ref 2)), (11, (.bool false)), (22, (.bool false)), (39, (.bool false))], [(2, 0), (6, 1), (7, 2)]⟩)
   { pures := [p1 (.blt .len [9]) (.ref 0) (.ref 1) fun _ _ _ _ hx => h_lenS hx,
      p2 (.bin .lss 3 3) (.ref 2) (.ref 1) (.bool true) fun _ _ _ _ _ hx hy => h_lss (r := true) (by simp only [decide_eq_true_eq]; have := get_lt hc; omega) hx hy] }
   ⟨[(0, (.ref 0)), (3, (.int .i64 0)), (4, (.bool false)), (5, (.ref 0)), (8, (.ref 2)), (11, (.bool false)), (22, (.bool false)), (39, (.bool false)), (46, (.bool true))], [(2, 0), (6, 1), (7, 2)]⟩ hst (by kernel_rfl) fin
set_option maxRecDepth 100000 in
theorem rrp_r13b {Q : Exit → Act → World → Prop} {Wb W0 : World} {a0 : Act} {ds : List UInt8} {b : UInt8} (_hlen : ds.length ≤ 2000) (_hds : ds ≠ []) (_h0 : ds[0]? = some b) (_h45 : b ≠ 45) (_h48 : b ≠ 48) {k v : Nat} {c : UInt8} (_sv : Sm ((v : Nat) : Int) 224) (hc : ds[k]? = some c) (_c2 : 57 < c.toNat) (hst : St Wb 74 [(0, (eqF (.string ⟨List.toArray ds⟩))), (3, (eqF (.int .i64 0))), (4, (eqF (.bool false))), (5, (eqF (.string ⟨List.toArray ds⟩))), (8, (eqF (.int .i64 ((k : Nat) : Int)))), (11, (eqF (.bool false))), (22, (eqF (.bool false))), (39, (eqF (.bool false))), (46, (eqF (.bool true)))] [(2, zeroIF), (6, (boxIF ((v : Nat) : Int))), (7, (boxIF 10))] a0 W0)
    (fin : ∀ a w, St Wb 74 [(0, (eqF (.string ⟨List.toArray ds⟩))), (3, (eqF (.int .i64 0))), (4, (eqF (.bool false))), (5, (eqF (.string ⟨List.toArray ds⟩))), (8, (eqF (.int .i64 ((k : Nat) : Int)))), (11, (eqF (.bool false))), (22, (eqF (.bool false))), (39, (eqF (.bool false))), (46, (eqF (.bool true))), (58, (eqF (.bool true)))] [(2, zeroIF), (6, (boxIF ((v : Nat) : Int))), (7, (boxIF 10))] a w → Q .normal a w) : (Code.region 13 rrp_o13 false).wp Tryd.prog Q a0 W0 := by
  let E : List PF := [(eqF (.string ⟨List.toArray ds⟩)), (eqF (.int .i64 ((k : Nat) : Int))), (eqF (.int .u8 (c.toNat : Int)))]
  let EB : List CF := [zeroIF, (boxIF ((v : Nat) : Int)), (boxIF 10)]
  exact region_auto (E := E) (EB := EB) (s := ⟨[(0, (.ref 0)), (3, (.int .i64 0)), (4, (.bool false)), (5, (.ref 0)), (8, (.ref 1)), (11, (.bool false)), (22, (.bool false)), (39, (.bool false)), (46, (.bool true))], [(2, 0), (6, 1), (7, 2)]⟩)
   { pures := [p2 (.ixv 9) (.ref 0) (.ref 1) (.ref 2) fun _ _ _ _ _ hx hy => h_chr (bs := ds) (k := k) hc hx hy,
      p2 (.bin .lss 5 5) (.ref 2) (.int .u8 48) (.bool false) fun _ _ _ _ _ hx hy => h_lss (r := false) (by simp only [decide_eq_false_iff_not]; omega) hx hy,
      p2 (.bin .gtr 5 5) (.ref 2) (.int .u8 57) (.bool true) fun _ _ _ _ _ hx hy => h_gtr (r := true) (by simp only [decide_eq_true_eq]; omega) hx hy] }
   ⟨[(0, (.ref 0)), (3, (.int .i64 0)), (4, (.bool false)), (5, (.ref 0)), (8, (.ref 1)), (11, (.bool false)), (22, (.bool false)), (39, (.bool false)), (46, (.bool true)), (58, (.bool true))], [(2, 0), (6, 1), (7, 2)]⟩ hst (by kernel_rfl) fin
set_option maxRecDepth 100000 in
theorem rrp_r14b {Q : Exit → Act → World → Prop} {Wb W0 : World} {a0 : Act} {ds : List UInt8} {b : UInt8} (_hlen : ds.length ≤ 2000) (_hds : ds ≠ []) (_h0 : ds[0]? = some b) (_h45 : b ≠ 45) (_h48 : b ≠ 48) {k v : Nat} {c : UInt8} (_sv : Sm ((v : Nat) : Int) 224) (_hc : ds[k]? = some c) (_c2 : 57 < c.toNat) (hst : St Wb 74 [(0, (eqF (.string ⟨List.toArray ds⟩))), (3, (eqF (.int .i64 0))), (4, (eqF (.bool false))), (5, (eqF (.string ⟨List.toArray ds⟩))), (8, (eqF (.int .i64 ((k : Nat) : Int)))), (11, (eqF (.bool false))), (22, (eqF (.bool false))), (39, (eqF (.bool false))), (46, (eqF (.bool true))), (58, (eqF (.bool true)))] [(2, zeroIF), (6, (boxIF ((v : Nat) : Int))), (7, (boxIF 10))] a0 W0)
    (fin : ∀ a w, St Wb 74 [(0, (eqF (.string ⟨List.toArray ds⟩))), (3, (eqF (.int .i64 4))), (4, (eqF (.bool false))), (5, (eqF (.string ⟨List.toArray ds⟩))), (8, (eqF (.int .i64 ((k : Nat) : Int)))), (11, (eqF (.bool false))), (22, (eqF (.bool false))), (39, (eqF (.bool false))), (46, (eqF (.bool true))), (58, (eqF (.bool true)))] [(2, (boxIF 0)), (6, (boxIF ((v : Nat) : Int))), (7, (boxIF 10))] a w → Q .normal a w) : (Code.region 14 rrp_o14 false).wp Tryd.prog Q a0 W0 := by
  let E : List PF := [(intF 0), (eqF (.string ⟨List.toArray ds⟩)), (eqF (.int .i64 ((k : Nat) : Int)))]
  let EB : List CF := [zeroIF, (boxIF 0), (boxIF ((v : Nat) : Int)), (boxIF 10)]
  exact region_auto (E := E) (EB := EB) (s := ⟨[(0, (.ref 1)), (3, (.int .i64 0)), (4, (.bool false)), (5, (.ref 1)), (8, (.ref 2)), (11, (.bool false)), (22, (.bool false)), (39, (.bool false)), (46, (.bool true)), (58, (.bool true))], [(2, 0), (6, 2), (7, 3)]⟩)
   { pures := [p0 (.bld 27 []) (.ref 0) fun _ _ _ => h_build0],
     stores := [⟨27, 0, 0, (.ref 0), 1, (storeI_zero _)⟩] }
   ⟨[(0, (.ref 1)), (3, (.int .i64 4)), (4, (.bool false)), (5, (.ref 1)), (8, (.ref 2)), (11, (.bool false)), (22, (.bool false)), (39, (.bool false)), (46, (.bool true)), (58, (.bool true))], [(2, 1), (6, 2), (7, 3)]⟩ hst (by kernel_rfl) fin
set_option maxRecDepth 100000 in
theorem rrp_r11d {Q : Exit → Act → World → Prop} {Wb W0 : World} {a0 : Act} {ds : List UInt8} {b : UInt8} (_hlen : ds.length ≤ 2000) (_hds : ds ≠ []) (_h0 : ds[0]? = some b) (_h45 : b ≠ 45) (_h48 : b ≠ 48) {k v : Nat} {c : UInt8} (_sv : Sm ((v : Nat) : Int) 224) (hc : ds[k]? = some c) (_c3 : 48 ≤ c.toNat ∧ c.toNat ≤ 57) (hst : St Wb 74 [(0, (eqF (.string ⟨List.toArray ds⟩))), (3, (eqF (.int .i64 0))), (4, (eqF (.bool false))), (5, (eqF (.string ⟨List.toArray ds⟩))), (8, (eqF (.int .i64 ((k : Nat) : Int)))), (11, (eqF (.bool false))), (22, (eqF (.bool false))), (39, (eqF (.bool false)))] [(2, zeroIF), (6, (boxIF ((v : Nat) : Int))), (7, (boxIF 10))] a0 W0)
    (fin : ∀ a w, St Wb 74 [(0, (eqF (.string ⟨List.toArray ds⟩))), (3, (eqF (.int .i64 0))), (4, (eqF (.bool false))), (5, (eqF (.string ⟨List.toArray ds⟩))), (8, (eqF (.int .i64 ((k : Nat) : Int)))), (11, (eqF (.bool false))), (22, (eqF (.bool false))), (39, (eqF (.bool false))), (46, (eqF (.bool true)))] [(2, zeroIF), (6, (boxIF ((v : Nat) : Int))), (7, (boxIF 10))] a w → Q .normal a w) : (Code.region 11 rrp_o11 false).wp Tryd.prog Q a0 W0 := by
  let E : List PF := [(eqF (.string ⟨List.toArray ds⟩)), (eqF (.int .i64 (ds.length : Int))), (eqF (.int .i64 ((k : Nat) : Int)))]
  let EB : List CF := [zeroIF, (boxIF ((v : Nat) : Int)), (boxIF 10)]
  exact region_auto (E := E) (EB := EB) (s := ⟨[(0, (.ref 0)), (3, (.int .i64 0)), (4, (.bool false)), (5, (.ref 0)), (8, (.ref 2)), (11, (.bool false)), (22, (.bool false)), (39, (.bool false))], [(2, 0), (6, 1), (7, 2)]⟩)
   { pures := [p1 (.blt .len [9]) (.ref 0) (.ref 1) fun _ _ _ _ hx => h_lenS hx,
      p2 (.bin .lss 3 3) (.ref 2) (.ref 1) (.bool true) fun _ _ _ _ _ hx hy => h_lss (r := true) (by simp only [decide_eq_true_eq]; have := get_lt hc; omega) hx hy] }
   ⟨[(0, (.ref 0)), (3, (.int .i64 0)), (4, (.bool false)), (5, (.ref 0)), (8, (.ref 2)), (11, (.bool false)), (22, (.bool false)), (39, (.bool false)), (46, (.bool true))], [(2, 0), (6, 1), (7, 2)]⟩ hst (by kernel_rfl) fin
set_option maxRecDepth 100000 in
theorem rrp_r13c {Q : Exit → Act → World → Prop} {Wb W0 : World} {a0 : Act} {ds : List UInt8} {b : UInt8} (_hlen : ds.length ≤ 2000) (_hds : ds ≠ []) (_h0 : ds[0]? = some b) (_h45 : b ≠ 45) (_h48 : b ≠ 48) {k v : Nat} {c : UInt8} (_sv : Sm ((v : Nat) : Int) 224) (hc : ds[k]? = some c) (_c3 : 48 ≤ c.toNat ∧ c.toNat ≤ 57) (hst : St Wb 74 [(0, (eqF (.string ⟨List.toArray ds⟩))), (3, (eqF (.int .i64 0))), (4, (eqF (.bool false))), (5, (eqF (.string ⟨List.toArray ds⟩))), (8, (eqF (.int .i64 ((k : Nat) : Int)))), (11, (eqF (.bool false))), (22, (eqF (.bool false))), (39, (eqF (.bool false))), (46, (eqF (.bool true)))] [(2, zeroIF), (6, (boxIF ((v : Nat) : Int))), (7, (boxIF 10))] a0 W0)
    (fin : ∀ a w, St Wb 74 [(0, (eqF (.string ⟨List.toArray ds⟩))), (3, (eqF (.int .i64 0))), (4, (eqF (.bool false))), (5, (eqF (.string ⟨List.toArray ds⟩))), (8, (eqF (.int .i64 ((k : Nat) : Int)))), (11, (eqF (.bool false))), (22, (eqF (.bool false))), (39, (eqF (.bool false))), (46, (eqF (.bool true))), (58, (eqF (.bool false)))] [(2, zeroIF), (6, (boxIF ((v : Nat) : Int))), (7, (boxIF 10))] a w → Q .normal a w) : (Code.region 13 rrp_o13 false).wp Tryd.prog Q a0 W0 := by
  let E : List PF := [(eqF (.string ⟨List.toArray ds⟩)), (eqF (.int .i64 ((k : Nat) : Int))), (eqF (.int .u8 (c.toNat : Int)))]
  let EB : List CF := [zeroIF, (boxIF ((v : Nat) : Int)), (boxIF 10)]
  exact region_auto (E := E) (EB := EB) (s := ⟨[(0, (.ref 0)), (3, (.int .i64 0)), (4, (.bool false)), (5, (.ref 0)), (8, (.ref 1)), (11, (.bool false)), (22, (.bool false)), (39, (.bool false)), (46, (.bool true))], [(2, 0), (6, 1), (7, 2)]⟩)
   { pures := [p2 (.ixv 9) (.ref 0) (.ref 1) (.ref 2) fun _ _ _ _ _ hx hy => h_chr (bs := ds) (k := k) hc hx hy,
      p2 (.bin .lss 5 5) (.ref 2) (.int .u8 48) (.bool false) fun _ _ _ _ _ hx hy => h_lss (r := false) (by simp only [decide_eq_false_iff_not]; omega) hx hy,
      p2 (.bin .gtr 5 5) (.ref 2) (.int .u8 57) (.bool false) fun _ _ _ _ _ hx hy => h_gtr (r := false) (by simp only [decide_eq_false_iff_not]; omega) hx hy] }
   ⟨[(0, (.ref 0)), (3, (.int .i64 0)), (4, (.bool false)), (5, (.ref 0)), (8, (.ref 1)), (11, (.bool false)), (22, (.bool false)), (39, (.bool false)), (46, (.bool true)), (58, (.bool false))], [(2, 0), (6, 1), (7, 2)]⟩ hst (by kernel_rfl) fin
set_option maxRecDepth 100000 in
theorem rrp_r15 {Q : Exit → Act → World → Prop} {Wb W0 : World} {a0 : Act} {ds : List UInt8} {b : UInt8} (_hlen : ds.length ≤ 2000) (_hds : ds ≠ []) (h0 : ds[0]? = some b) (_h45 : b ≠ 45) (_h48 : b ≠ 48) {k v : Nat} {c : UInt8} (sv : Sm ((v : Nat) : Int) 224) (hc : ds[k]? = some c) (_c3 : 48 ≤ c.toNat ∧ c.toNat ≤ 57) (hst : St Wb 74 [(0, (eqF (.string ⟨List.toArray ds⟩))), (3, (eqF (.int .i64 0))), (4, (eqF (.bool false))), (5, (eqF (.string ⟨List.toArray ds⟩))), (8, (eqF (.int .i64 ((k : Nat) : Int)))), (11, (eqF (.bool false))), (22, (eqF (.bool false))), (39, (eqF (.bool false))), (46, (eqF (.bool true))), (58, (eqF (.bool false)))] [(2, zeroIF), (6, (boxIF ((v : Nat) : Int))), (7, (boxIF 10))] a0 W0)
    (fin : ∀ a w, St Wb 74 [(0, (eqF (.string ⟨List.toArray ds⟩))), (3, (eqF (.int .i64 0))), (4, (eqF (.bool false))), (5, (eqF (.string ⟨List.toArray ds⟩))), (8, (eqF (.int .i64 ((k : Nat) : Int)))), (11, (eqF (.bool false))), (22, (eqF (.bool false))), (39, (eqF (.bool false))), (46, (eqF (.bool true))), (58, (eqF (.bool false)))] [(2, zeroIF), (6, (boxIF ((((v : Nat) : Int) * 10) + ((c.toNat : Int) - 48)))), (7, (boxIF 10))] a w → Q .normal a w) : (Code.region 15 rrp_o15 true).wp Tryd.prog Q a0 W0 := by
  let E : List PF := [(intF ((v : Nat) : Int)), (intF 10), (intF (((v : Nat) : Int) * 10)), (eqF (.string ⟨List.toArray ds⟩)), (eqF (.int .i64 ((k : Nat) : Int))), (eqF (.int .u8 (c.toNat : Int))), (eqF (.int .i64 (c.toNat : Int))), (eqF (.int .i64 ((c.toNat : Int) - 48))), (intF ((c.toNat : Int) - 48)), (intF ((((v : Nat) : Int) * 10) + ((c.toNat : Int) - 48)))]
  let EB : List CF := [(boxIF ((v : Nat) : Int)), (boxIF 10), (boxIF ((((v : Nat) : Int) * 10) + ((c.toNat : Int) - 48))), zeroIF]
  exact region_auto (E := E) (EB := EB) (s := ⟨[(0, (.ref 3)), (3, (.int .i64 0)), (4, (.bool false)), (5, (.ref 3)), (8, (.ref 4)), (11, (.bool false)), (22, (.bool false)), (39, (.bool false)), (46, (.bool true)), (58, (.bool false))], [(2, 3), (6, 0), (7, 1)]⟩)
   { pures := [p2 (.ixv 9) (.ref 3) (.ref 4) (.ref 5) fun _ _ _ _ _ hx hy => h_chr (bs := ds) (k := k) hc hx hy,
      p1 (.conv 5 2) (.ref 5) (.ref 6) fun _ _ _ _ hx => h_cv8i hx,
      p2 (.bin .sub 2 2) (.ref 6) (.int .i64 48) (.ref 7) fun _ _ _ _ _ hx hy => h_sub (z := ((c.toNat : Int) - 48)) (by rw [IntKind.wrap_i64]; omega) hx hy],
     calls := [c2 30 (.ref 0) (.ref 1) (.ref 2) fun w v0 v1 hb h0 h1 => kRMul h0 h1 sv (Sm.of 10 (by decide)) (by first | decide | assumption | omega) (by first | decide | assumption | omega),
      c1 15 (.ref 7) (.ref 8) fun w v0 hb h0 => kROf ((c.toNat : Int) - 48) (by omega) (by omega) h0,
      c2 29 (.ref 2) (.ref 8) (.ref 9) fun w v0 v1 hb h0 h1 => kRAdd h0 h1 (sv.mul (Sm.of 10 (by decide))) (sm_chr c) (by first | decide | assumption | omega) (by first | decide | assumption | omega)],
     loads := [⟨27, 0, 0, (.ref 0), fun w q h => loadI_int w q h⟩,
      ⟨27, 0, 1, (.ref 1), fun w q h => loadI_int w q h⟩],
     stores := [⟨27, 0, 0, (.ref 9), 2, (storeI_box _ _)⟩] }
   ⟨[(0, (.ref 3)), (3, (.int .i64 0)), (4, (.bool false)), (5, (.ref 3)), (8, (.ref 4)), (11, (.bool false)), (22, (.bool false)), (39, (.bool false)), (46, (.bool true)), (58, (.bool false))], [(2, 3), (6, 2), (7, 1)]⟩ hst (by kernel_rfl) fin
set_option maxRecDepth 100000 in
theorem rrp_r12 {Q : Exit → Act → World → Prop} {Wb W0 : World} {a0 : Act} {ds : List UInt8} {b : UInt8} (_hlen : ds.length ≤ 2000) (_hds : ds ≠ []) (_h0 : ds[0]? = some b) (_h45 : b ≠ 45) (_h48 : b ≠ 48) {k v : Nat} {c : UInt8} (_sv : Sm ((v : Nat) : Int) 224) (hc : ds[k]? = some c) (_c3 : 48 ≤ c.toNat ∧ c.toNat ≤ 57) (hst : St Wb 74 [(0, (eqF (.string ⟨List.toArray ds⟩))), (3, (eqF (.int .i64 0))), (4, (eqF (.bool false))), (5, (eqF (.string ⟨List.toArray ds⟩))), (8, (eqF (.int .i64 ((k : Nat) : Int)))), (11, (eqF (.bool false))), (22, (eqF (.bool false))), (39, (eqF (.bool false))), (46, (eqF (.bool true))), (58, (eqF (.bool false)))] [(2, zeroIF), (6, (boxIF ((((v : Nat) : Int) * 10) + ((c.toNat : Int) - 48)))), (7, (boxIF 10))] a0 W0)
    (fin : ∀ a w, St Wb 74 [(0, (eqF (.string ⟨List.toArray ds⟩))), (3, (eqF (.int .i64 0))), (4, (eqF (.bool false))), (5, (eqF (.string ⟨List.toArray ds⟩))), (8, (eqF (.int .i64 ((k + 1 : Nat) : Int)))), (11, (eqF (.bool false))), (22, (eqF (.bool false))), (39, (eqF (.bool false))), (46, (eqF (.bool true))), (58, (eqF (.bool false)))] [(2, zeroIF), (6, (boxIF ((((v : Nat) : Int) * 10) + ((c.toNat : Int) - 48)))), (7, (boxIF 10))] a w → Q .normal a w) : (Code.region 12 rrp_o12 false).wp Tryd.prog Q a0 W0 := by
  let E : List PF := [(eqF (.int .i64 ((k : Nat) : Int))), (eqF (.int .i64 ((k + 1 : Nat) : Int))), (eqF (.string ⟨List.toArray ds⟩))]
  let EB : List CF := [zeroIF, (boxIF ((((v : Nat) : Int) * 10) + ((c.toNat : Int) - 48))), (boxIF 10)]
  exact region_auto (E := E) (EB := EB) (s := ⟨[(0, (.ref 2)), (3, (.int .i64 0)), (4, (.bool false)), (5, (.ref 2)), (8, (.ref 0)), (11, (.bool false)), (22, (.bool false)), (39, (.bool false)), (46, (.bool true)), (58, (.bool false))], [(2, 0), (6, 1), (7, 2)]⟩)
   { pures := [p2 (.bin .add 3 3) (.ref 0) (.int .i64 1) (.ref 1) fun _ _ _ _ _ hx hy => h_add (z := ((k + 1 : Nat) : Int)) (by rw [IntKind.wrap_i64]; have := get_lt hc; omega) hx hy] }
   ⟨[(0, (.ref 2)), (3, (.int .i64 0)), (4, (.bool false)), (5, (.ref 2)), (8, (.ref 1)), (11, (.bool false)), (22, (.bool false)), (39, (.bool false)), (46, (.bool true)), (58, (.bool false))], [(2, 0), (6, 1), (7, 2)]⟩ hst (by kernel_rfl) fin
set_option maxRecDepth 100000 in
theorem RRead_P {ds : List UInt8} {b : UInt8} (va : Value) (W : World) (ha : (eqF (.string ⟨List.toArray ds⟩)).p va W) (hlen : ds.length ≤ 2000) (hds : ds ≠ []) (h0 : ds[0]? = some b) (h45 : b ≠ 45) (h48 : b ≠ 48) (h48o : b ≠ 48 ∨ ds.length ≤ 1) :
    Calls Tryd.prog 8 #[va] W (GivesP (readP (readOf ds)) W) := by
  refine calls_stW (S := [(0, (eqF (.string ⟨List.toArray ds⟩)))]) Tryd.func8 (by kernel_rfl) Tryd.ntmps8 (by simp) (fun x hx => ?_) fun a w hst => ?_
  · simp only [List.mem_cons, List.not_mem_nil, or_false] at hx
    subst hx
    exact ⟨_, rfl, ha⟩
  show Code.wp _ rrp_n0 _ a w
  rw [rrp_e0]
  refine wp_seq ?_
  rw [rrp_e1]
  refine rrp_r0 hlen hds h0 h45 h48 hst ?_
  clear hst
  intro a w hst
  show Code.wp _ rrp_n2 _ a w
  rw [rrp_e2]
  refine wp_seq ?_
  rw [rrp_e3]
  refine wp_seq ?_
  rw [rrp_e5]
  refine rrp_r1 hlen hds h0 h45 h48 hst ?_
  clear hst
  intro a w hst
  show Code.wp _ rrp_n6 _ a w
  rw [rrp_e6]
  refine wp_cond_false (st_bool hst 2 rfl) ?_
  show Code.wp _ rrp_n8 _ a w
  rw [rrp_e8]
  refine wp_skip ?_
  show Code.wp _ rrp_n4 _ a w
  rw [rrp_e4]
  refine wp_seq ?_
  rw [rrp_e11]
  refine rrp_r3 hlen hds h0 h45 h48 hst ?_
  clear hst
  intro a w hst
  show Code.wp _ rrp_n12 _ a w
  rw [rrp_e12]
  refine wp_seq ?_
  rw [rrp_e13]
  refine rrp_r4 hlen hds h0 h45 h48 hst ?_
  clear hst
  intro a w hst
  show Code.wp _ rrp_n14 _ a w
  rw [rrp_e14]
  refine wp_seq ?_
  rw [rrp_e15]
  refine wp_seq ?_
  rw [rrp_e17]
  refine rrp_r5 hlen hds h0 h45 h48 hst ?_
  clear hst
  intro a w hst
  show Code.wp _ rrp_n18 _ a w
  rw [rrp_e18]
  refine wp_cond_false (st_bool hst 5 rfl) ?_
  show Code.wp _ rrp_n20 _ a w
  rw [rrp_e20]
  refine wp_skip ?_
  show Code.wp _ rrp_n16 _ a w
  rw [rrp_e16]
  refine wp_seq ?_
  rw [rrp_e21]
  refine wp_seq ?_
  rw [rrp_e23]
  refine rrp_r7 hlen hds h0 h45 h48 hst ?_
  clear hst
  intro a w hst
  show Code.wp _ rrp_n24 _ a w
  rw [rrp_e24]
  refine wp_cond_false (st_bool hst 6 rfl) ?_
  show Code.wp _ rrp_n26 _ a w
  rw [rrp_e26]
  refine wp_skip ?_
  show Code.wp _ rrp_n22 _ a w
  rw [rrp_e22]
  refine wp_seq ?_
  rw [rrp_e29]
  refine rrp_r9 hlen hds h0 h45 h48 hst ?_
  clear hst
  intro a w hst
  show Code.wp _ rrp_n30 _ a w
  rw [rrp_e30]
  refine wp_seq ?_
  rw [rrp_e31]
  refine wp_seq ?_
  rw [rrp_e33]
  refine rrp_r10 hlen hds h0 h45 h48 hst ?_
  clear hst
  intro a w hst
  show Code.wp _ rrp_n34 _ a w
  rw [rrp_e34]
  refine wp_block ?_
  show Code.wp _ rrp_n35 _ a w
  rw [rrp_e35]
  refine loop_ghost (fun (x : Nat × Nat) a w => St W 74 [(0, (eqF (.string ⟨List.toArray ds⟩))), (3, (eqF (.int .i64 0))), (4, (eqF (.bool false))), (5, (eqF (.string ⟨List.toArray ds⟩))), (8, (eqF (.int .i64 ((x.1 : Nat) : Int)))), (11, (eqF (.bool false))), (22, (eqF (.bool false))), (39, (eqF (.bool false)))] [(2, zeroIF), (6, (boxIF ((x.2 : Nat) : Int))), (7, (boxIF 10))] a w ∧ x.1 ≤ ds.length ∧ x.2 = dvA 0 (ds.take x.1) ∧ (ds.take x.1).all isD = true) (fun x => ds.length - x.1) ?_ ((0, 0) : Nat × Nat) ⟨hst, Nat.zero_le _, rfl, rfl⟩
  intro ⟨k, v⟩ a w ⟨hst, hk, hv, hall⟩
  have hst : St W 74 [(0, (eqF (.string ⟨List.toArray ds⟩))), (3, (eqF (.int .i64 0))), (4, (eqF (.bool false))), (5, (eqF (.string ⟨List.toArray ds⟩))), (8, (eqF (.int .i64 ((k : Nat) : Int)))), (11, (eqF (.bool false))), (22, (eqF (.bool false))), (39, (eqF (.bool false)))] [(2, zeroIF), (6, (boxIF ((v : Nat) : Int))), (7, (boxIF 10))] a w := hst
  have hk : k ≤ ds.length := hk
  have hv : v = dvA 0 (ds.take k) := hv
  have hall : (ds.take k).all isD = true := hall
  have sv : Sm ((v : Nat) : Int) 224 := sm_dv hv hall (Nat.le_trans hk (Nat.le_trans hlen (by decide)))
  show Code.wp _ rrp_n36 _ a w
  rcases next_chr hk with hk2 | ⟨c, hc⟩
  · rw [rrp_e36]
    refine wp_seq ?_
    rw [rrp_e37]
    refine wp_seq ?_
    rw [rrp_e39]
    refine rrp_r11 hlen hds h0 h45 h48 sv hk2 hst ?_
    clear hst
    intro a w hst
    show Code.wp _ rrp_n40 _ a w
    rw [rrp_e40]
    refine wp_cond_false (st_bool hst 8 rfl) ?_
    show Code.wp _ rrp_n42 _ a w
    rw [rrp_e42]
    refine wp_exit ?_
    subst hk2
    rw [List.take_length] at hv hall
    show Code.wp _ rrp_n32 _ a w
    rw [rrp_e32]
    refine wp_seq ?_
    rw [rrp_e54]
    refine rrp_r16 hlen hds h0 h45 h48 sv hst ?_
    clear hst
    intro a w hst
    show Code.wp _ rrp_n55 _ a w
    rw [rrp_e55]
    refine wp_ret ?_
    rw [read_goodP hds h0 h45 h48o hall hv, readP_some]
    exact ret_boxI_tmp hst rfl 0 rfl 1 rfl
  · rcases (show c.toNat < 48 ∨ 57 < c.toNat ∨ (48 ≤ c.toNat ∧ c.toNat ≤ 57) by omega) with c1 | c2 | c3
    · rw [rrp_e36]
      refine wp_seq ?_
      rw [rrp_e37]
      refine wp_seq ?_
      rw [rrp_e39]
      refine rrp_r11b hlen hds h0 h45 h48 sv hc c1 hst ?_
      clear hst
      intro a w hst
      show Code.wp _ rrp_n40 _ a w
      rw [rrp_e40]
      refine wp_cond_true (st_bool hst 8 rfl) ?_
      show Code.wp _ rrp_n41 _ a w
      rw [rrp_e41]
      refine wp_skip ?_
      show Code.wp _ rrp_n38 _ a w
      rw [rrp_e38]
      refine wp_seq ?_
      rw [rrp_e43]
      refine wp_block ?_
      show Code.wp _ rrp_n45 _ a w
      rw [rrp_e45]
      refine wp_seq ?_
      rw [rrp_e46]
      refine wp_seq ?_
      rw [rrp_e48]
      refine rrp_r13 hlen hds h0 h45 h48 sv hc c1 hst ?_
      clear hst
      intro a w hst
      show Code.wp _ rrp_n49 _ a w
      rw [rrp_e49]
      refine wp_cond_true (st_bool hst 9 rfl) ?_
      show Code.wp _ rrp_n50 _ a w
      rw [rrp_e50]
      refine wp_seq ?_
      rw [rrp_e52]
      refine rrp_r14 hlen hds h0 h45 h48 sv hc c1 hst ?_
      clear hst
      intro a w hst
      show Code.wp _ rrp_n53 _ a w
      rw [rrp_e53]
      refine wp_ret ?_
      rw [read_badP hds h0 h45 hc (by first | exact .inl c1 | exact .inr c2), readP_none]
      exact ret_boxI_tmp hst rfl 0 rfl 1 rfl
    · rw [rrp_e36]
      refine wp_seq ?_
      rw [rrp_e37]
      refine wp_seq ?_
      rw [rrp_e39]
      refine rrp_r11c hlen hds h0 h45 h48 sv hc c2 hst ?_
      clear hst
      intro a w hst
      show Code.wp _ rrp_n40 _ a w
      rw [rrp_e40]
      refine wp_cond_true (st_bool hst 8 rfl) ?_
      show Code.wp _ rrp_n41 _ a w
      rw [rrp_e41]
      refine wp_skip ?_
      show Code.wp _ rrp_n38 _ a w
      rw [rrp_e38]
      refine wp_seq ?_
      rw [rrp_e43]
      refine wp_block ?_
      show Code.wp _ rrp_n45 _ a w
      rw [rrp_e45]
      refine wp_seq ?_
      rw [rrp_e46]
      refine wp_seq ?_
      rw [rrp_e48]
      refine rrp_r13b hlen hds h0 h45 h48 sv hc c2 hst ?_
      clear hst
      intro a w hst
      show Code.wp _ rrp_n49 _ a w
      rw [rrp_e49]
      refine wp_cond_true (st_bool hst 9 rfl) ?_
      show Code.wp _ rrp_n50 _ a w
      rw [rrp_e50]
      refine wp_seq ?_
      rw [rrp_e52]
      refine rrp_r14b hlen hds h0 h45 h48 sv hc c2 hst ?_
      clear hst
      intro a w hst
      show Code.wp _ rrp_n53 _ a w
      rw [rrp_e53]
      refine wp_ret ?_
      rw [read_badP hds h0 h45 hc (by first | exact .inl c1 | exact .inr c2), readP_none]
      exact ret_boxI_tmp hst rfl 0 rfl 1 rfl
    · rw [rrp_e36]
      refine wp_seq ?_
      rw [rrp_e37]
      refine wp_seq ?_
      rw [rrp_e39]
      refine rrp_r11d hlen hds h0 h45 h48 sv hc c3 hst ?_
      clear hst
      intro a w hst
      show Code.wp _ rrp_n40 _ a w
      rw [rrp_e40]
      refine wp_cond_true (st_bool hst 8 rfl) ?_
      show Code.wp _ rrp_n41 _ a w
      rw [rrp_e41]
      refine wp_skip ?_
      show Code.wp _ rrp_n38 _ a w
      rw [rrp_e38]
      refine wp_seq ?_
      rw [rrp_e43]
      refine wp_block ?_
      show Code.wp _ rrp_n45 _ a w
      rw [rrp_e45]
      refine wp_seq ?_
      rw [rrp_e46]
      refine wp_seq ?_
      rw [rrp_e48]
      refine rrp_r13c hlen hds h0 h45 h48 sv hc c3 hst ?_
      clear hst
      intro a w hst
      show Code.wp _ rrp_n49 _ a w
      rw [rrp_e49]
      refine wp_cond_false (st_bool hst 9 rfl) ?_
      show Code.wp _ rrp_n51 _ a w
      rw [rrp_e51]
      refine wp_skip ?_
      show Code.wp _ rrp_n47 _ a w
      rw [rrp_e47]
      refine rrp_r15 hlen hds h0 h45 h48 sv hc c3 hst ?_
      clear hst
      intro a w hst
      show Code.wp _ rrp_n44 _ a w
      rw [rrp_e44]
      refine rrp_r12 hlen hds h0 h45 h48 sv hc c3 hst ?_
      clear hst
      intro a w hst
      have e : ((v : Nat) : Int) * 10 + ((c.toNat : Int) - 48) = ((10 * v + dgt c : Nat) : Int) := by unfold dgt; omega
      rw [e] at hst
      have hlt := get_lt hc
      exact ⟨(k + 1, 10 * v + dgt c), ⟨(hst.to ⟨hst.slots.get (k := 0) rfl, hst.slots.get (k := 1) rfl, hst.slots.get (k := 2) rfl, hst.slots.get (k := 3) rfl, hst.slots.get (k := 4) rfl, hst.slots.get (k := 5) rfl, hst.slots.get (k := 6) rfl, hst.slots.get (k := 7) rfl, trivial⟩), hlt, by rw [dv_next hc, ← hv], all_next hc hall (by simp only [isD, Bool.and_eq_true, decide_eq_true_eq]; exact c3)⟩, by show _ - (k + 1) < _ - k; omega⟩

noncomputable def rrq_n0 : Code := bodyOf Tryd.f8
noncomputable def rrq_n1 : Code := cl rrq_n0
noncomputable def rrq_n2 : Code := cr rrq_n0
theorem rrq_e0 : rrq_n0 = .seq rrq_n1 rrq_n2 := by kernel_rfl
noncomputable def rrq_o0 : Array Oper := opsOf rrq_n1
theorem rrq_e1 : rrq_n1 = .region 0 rrq_o0 false := by kernel_rfl
noncomputable def rrq_n3 : Code := cl rrq_n2
noncomputable def rrq_n4 : Code := cr rrq_n2
theorem rrq_e2 : rrq_n2 = .seq rrq_n3 rrq_n4 := by kernel_rfl
noncomputable def rrq_n5 : Code := cl rrq_n3
noncomputable def rrq_n6 : Code := cr rrq_n3
theorem rrq_e3 : rrq_n3 = .seq rrq_n5 rrq_n6 := by kernel_rfl
noncomputable def rrq_o1 : Array Oper := opsOf rrq_n5
theorem rrq_e5 : rrq_n5 = .region 1 rrq_o1 false := by kernel_rfl
noncomputable def rrq_n7 : Code := cl rrq_n6
noncomputable def rrq_n8 : Code := cr rrq_n6
theorem rrq_e6 : rrq_n6 = .cond (.tmp 11) rrq_n7 rrq_n8 := by kernel_rfl
noncomputable def rrq_n9 : Code := cl rrq_n7
noncomputable def rrq_n10 : Code := cr rrq_n7
theorem rrq_e7 : rrq_n7 = .seq rrq_n9 rrq_n10 := by kernel_rfl
noncomputable def rrq_o2 : Array Oper := opsOf rrq_n9
theorem rrq_e9 : rrq_n9 = .region 2 rrq_o2 false := by kernel_rfl
theorem rrq_e10 : rrq_n10 = .ret := by kernel_rfl
theorem rrq_e8 : rrq_n8 = .skip := by kernel_rfl
noncomputable def rrq_n11 : Code := cl rrq_n4
noncomputable def rrq_n12 : Code := cr rrq_n4
theorem rrq_e4 : rrq_n4 = .seq rrq_n11 rrq_n12 := by kernel_rfl
noncomputable def rrq_o3 : Array Oper := opsOf rrq_n11
theorem rrq_e11 : rrq_n11 = .region 3 rrq_o3 false := by kernel_rfl
noncomputable def rrq_n13 : Code := cl rrq_n12
noncomputable def rrq_n14 : Code := cr rrq_n12
theorem rrq_e12 : rrq_n12 = .seq rrq_n13 rrq_n14 := by kernel_rfl
noncomputable def rrq_o4 : Array Oper := opsOf rrq_n13
theorem rrq_e13 : rrq_n13 = .region 4 rrq_o4 false := by kernel_rfl
noncomputable def rrq_n15 : Code := cl rrq_n14
noncomputable def rrq_n16 : Code := cr rrq_n14
theorem rrq_e14 : rrq_n14 = .seq rrq_n15 rrq_n16 := by kernel_rfl
noncomputable def rrq_n17 : Code := cl rrq_n15
noncomputable def rrq_n18 : Code := cr rrq_n15
theorem rrq_e15 : rrq_n15 = .seq rrq_n17 rrq_n18 := by kernel_rfl
noncomputable def rrq_o5 : Array Oper := opsOf rrq_n17
theorem rrq_e17 : rrq_n17 = .region 5 rrq_o5 false := by kernel_rfl
noncomputable def rrq_n19 : Code := cl rrq_n18
noncomputable def rrq_n20 : Code := cr rrq_n18
theorem rrq_e18 : rrq_n18 = .cond (.tmp 22) rrq_n19 rrq_n20 := by kernel_rfl
noncomputable def rrq_o6 : Array Oper := opsOf rrq_n19
theorem rrq_e19 : rrq_n19 = .region 6 rrq_o6 false := by kernel_rfl
theorem rrq_e20 : rrq_n20 = .skip := by kernel_rfl
noncomputable def rrq_n21 : Code := cl rrq_n16
noncomputable def rrq_n22 : Code := cr rrq_n16
theorem rrq_e16 : rrq_n16 = .seq rrq_n21 rrq_n22 := by kernel_rfl
noncomputable def rrq_n23 : Code := cl rrq_n21
noncomputable def rrq_n24 : Code := cr rrq_n21
theorem rrq_e21 : rrq_n21 = .seq rrq_n23 rrq_n24 := by kernel_rfl
noncomputable def rrq_o7 : Array Oper := opsOf rrq_n23
theorem rrq_e23 : rrq_n23 = .region 7 rrq_o7 false := by kernel_rfl
noncomputable def rrq_n25 : Code := cl rrq_n24
noncomputable def rrq_n26 : Code := cr rrq_n24
theorem rrq_e24 : rrq_n24 = .cond (.tmp 39) rrq_n25 rrq_n26 := by kernel_rfl
noncomputable def rrq_n27 : Code := cl rrq_n25
noncomputable def rrq_n28 : Code := cr rrq_n25
theorem rrq_e25 : rrq_n25 = .seq rrq_n27 rrq_n28 := by kernel_rfl
noncomputable def rrq_o8 : Array Oper := opsOf rrq_n27
theorem rrq_e27 : rrq_n27 = .region 8 rrq_o8 false := by kernel_rfl
theorem rrq_e28 : rrq_n28 = .ret := by kernel_rfl
theorem rrq_e26 : rrq_n26 = .skip := by kernel_rfl
noncomputable def rrq_n29 : Code := cl rrq_n22
noncomputable def rrq_n30 : Code := cr rrq_n22
theorem rrq_e22 : rrq_n22 = .seq rrq_n29 rrq_n30 := by kernel_rfl
noncomputable def rrq_o9 : Array Oper := opsOf rrq_n29
theorem rrq_e29 : rrq_n29 = .region 9 rrq_o9 false := by kernel_rfl
noncomputable def rrq_n31 : Code := cl rrq_n30
noncomputable def rrq_n32 : Code := cr rrq_n30
theorem rrq_e30 : rrq_n30 = .seq rrq_n31 rrq_n32 := by kernel_rfl
noncomputable def rrq_n33 : Code := cl rrq_n31
noncomputable def rrq_n34 : Code := cr rrq_n31
theorem rrq_e31 : rrq_n31 = .seq rrq_n33 rrq_n34 := by kernel_rfl
noncomputable def rrq_o10 : Array Oper := opsOf rrq_n33
theorem rrq_e33 : rrq_n33 = .region 10 rrq_o10 false := by kernel_rfl
noncomputable def rrq_n35 : Code := cl rrq_n34
theorem rrq_e34 : rrq_n34 = .block 0 rrq_n35 := by kernel_rfl
noncomputable def rrq_n36 : Code := cl rrq_n35
theorem rrq_e35 : rrq_n35 = .loop rrq_n36 := by kernel_rfl
noncomputable def rrq_n37 : Code := cl rrq_n36
noncomputable def rrq_n38 : Code := cr rrq_n36
theorem rrq_e36 : rrq_n36 = .seq rrq_n37 rrq_n38 := by kernel_rfl
noncomputable def rrq_n39 : Code := cl rrq_n37
noncomputable def rrq_n40 : Code := cr rrq_n37
theorem rrq_e37 : rrq_n37 = .seq rrq_n39 rrq_n40 := by kernel_rfl
noncomputable def rrq_o11 : Array Oper := opsOf rrq_n39
theorem rrq_e39 : rrq_n39 = .region 11 rrq_o11 false := by kernel_rfl
noncomputable def rrq_n41 : Code := cl rrq_n40
noncomputable def rrq_n42 : Code := cr rrq_n40
theorem rrq_e40 : rrq_n40 = .cond (.tmp 46) rrq_n41 rrq_n42 := by kernel_rfl
theorem rrq_e41 : rrq_n41 = .skip := by kernel_rfl
theorem rrq_e42 : rrq_n42 = .exit 0 := by kernel_rfl
noncomputable def rrq_n43 : Code := cl rrq_n38
noncomputable def rrq_n44 : Code := cr rrq_n38
theorem rrq_e38 : rrq_n38 = .seq rrq_n43 rrq_n44 := by kernel_rfl
noncomputable def rrq_n45 : Code := cl rrq_n43
theorem rrq_e43 : rrq_n43 = .block 1 rrq_n45 := by kernel_rfl
noncomputable def rrq_n46 : Code := cl rrq_n45
noncomputable def rrq_n47 : Code := cr rrq_n45
theorem rrq_e45 : rrq_n45 = .seq rrq_n46 rrq_n47 := by kernel_rfl
noncomputable def rrq_n48 : Code := cl rrq_n46
noncomputable def rrq_n49 : Code := cr rrq_n46
theorem rrq_e46 : rrq_n46 = .seq rrq_n48 rrq_n49 := by kernel_rfl
noncomputable def rrq_o13 : Array Oper := opsOf rrq_n48
theorem rrq_e48 : rrq_n48 = .region 13 rrq_o13 false := by kernel_rfl
noncomputable def rrq_n50 : Code := cl rrq_n49
noncomputable def rrq_n51 : Code := cr rrq_n49
theorem rrq_e49 : rrq_n49 = .cond (.tmp 58) rrq_n50 rrq_n51 := by kernel_rfl
noncomputable def rrq_n52 : Code := cl rrq_n50
noncomputable def rrq_n53 : Code := cr rrq_n50
theorem rrq_e50 : rrq_n50 = .seq rrq_n52 rrq_n53 := by kernel_rfl
noncomputable def rrq_o14 : Array Oper := opsOf rrq_n52
theorem rrq_e52 : rrq_n52 = .region 14 rrq_o14 false := by kernel_rfl
theorem rrq_e53 : rrq_n53 = .ret := by kernel_rfl
theorem rrq_e51 : rrq_n51 = .skip := by kernel_rfl
noncomputable def rrq_o15 : Array Oper := opsOf rrq_n47
theorem rrq_e47 : rrq_n47 = .region 15 rrq_o15 true := by kernel_rfl
noncomputable def rrq_o12 : Array Oper := opsOf rrq_n44
theorem rrq_e44 : rrq_n44 = .region 12 rrq_o12 false := by kernel_rfl
noncomputable def rrq_n54 : Code := cl rrq_n32
noncomputable def rrq_n55 : Code := cr rrq_n32
theorem rrq_e32 : rrq_n32 = .seq rrq_n54 rrq_n55 := by kernel_rfl
noncomputable def rrq_o16 : Array Oper := opsOf rrq_n54
theorem rrq_e54 : rrq_n54 = .region 16 rrq_o16 false := by kernel_rfl
theorem rrq_e55 : rrq_n55 = .ret := by kernel_rfl
set_option maxRecDepth 100000 in
theorem rrq_r0 {Q : Exit → Act → World → Prop} {Wb W0 : World} {a0 : Act} {ds : List UInt8} {b : UInt8} (_hlen : ds.length ≤ 2000) (_hds : ds ≠ []) (_h0 : ds[0]? = some b) (_h45 : b ≠ 45) (_h48 : b = 48) (_h1 : ds.length ≤ 1)  (hst : St Wb 74 [(0, (eqF (.string ⟨List.toArray ds⟩)))] [] a0 W0)
    (fin : ∀ a w, St Wb 74 [(0, (eqF (.string ⟨List.toArray ds⟩))), (3, (eqF (.int .i64 0)))] [(2, zeroIF)] a w → Q .normal a w) : (Code.region 0 rrq_o0 false).wp Tryd.prog Q a0 W0 := by
  let E : List PF := [(eqF (.string ⟨List.toArray ds⟩))]
  let EB : List CF := [zeroIF]
  exact region_auto (E := E) (EB := EB) (s := ⟨[(0, (.ref 0))], []⟩)
   { allocs := [⟨27, 0, _, allocI_run, allocI_old⟩] }
   ⟨[(0, (.ref 0)), (3, (.int .i64 0))], [(2, 0)]⟩ hst (by kernel_rfl) fin
set_option maxRecDepth 100000 in
theorem rrq_r1 {Q : Exit → Act → World → Prop} {Wb W0 : World} {a0 : Act} {ds : List UInt8} {b : UInt8} (_hlen : ds.length ≤ 2000) (_hds : ds ≠ []) (_h0 : ds[0]? = some b) (_h45 : b ≠ 45) (_h48 : b = 48) (_h1 : ds.length ≤ 1)  (hst : St Wb 74 [(0, (eqF (.string ⟨List.toArray ds⟩))), (3, (eqF (.int .i64 0)))] [(2, zeroIF)] a0 W0)
    (fin : ∀ a w, St Wb 74 [(0, (eqF (.string ⟨List.toArray ds⟩))), (3, (eqF (.int .i64 0))), (11, (eqF (.bool false)))] [(2, zeroIF)] a w → Q .normal a w) : (Code.region 1 rrq_o1 false).wp Tryd.prog Q a0 W0 := by
  let E : List PF := [(eqF (.string ⟨List.toArray ds⟩)), (eqF (.int .i64 (ds.length : Int)))]
  let EB : List CF := [zeroIF]
  exact region_auto (E := E) (EB := EB) (s := ⟨[(0, (.ref 0)), (3, (.int .i64 0))], [(2, 0)]⟩)
   { pures := [p1 (.blt .len [9]) (.ref 0) (.ref 1) fun _ _ _ _ hx => h_lenS hx,
      p2 (.bin .gtr 3 3) (.ref 1) (.int .i64 2000) (.bool false) fun _ _ _ _ _ hx hy => h_gtr (r := false) (by simp only [decide_eq_false_iff_not]; omega) hx hy] }
   ⟨[(0, (.ref 0)), (3, (.int .i64 0)), (11, (.bool false))], [(2, 0)]⟩ hst (by kernel_rfl) fin
set_option maxRecDepth 100000 in
theorem rrq_r3 {Q : Exit → Act → World → Prop} {Wb W0 : World} {a0 : Act} {ds : List UInt8} {b : UInt8} (_hlen : ds.length ≤ 2000) (hds : ds ≠ []) (h0 : ds[0]? = some b) (h45 : b ≠ 45) (_h48 : b = 48) (_h1 : ds.length ≤ 1)  (hst : St Wb 74 [(0, (eqF (.string ⟨List.toArray ds⟩))), (3, (eqF (.int .i64 0))), (11, (eqF (.bool false)))] [(2, zeroIF)] a0 W0)
    (fin : ∀ a w, St Wb 74 [(0, (eqF (.string ⟨List.toArray ds⟩))), (3, (eqF (.int .i64 0))), (4, (eqF (.bool false))), (11, (eqF (.bool false)))] [(2, zeroIF)] a w → Q .normal a w) : (Code.region 3 rrq_o3 false).wp Tryd.prog Q a0 W0 := by
  let E : List PF := [(eqF (.string ⟨List.toArray ds⟩)), (eqF (.int .i64 (ds.length : Int))), (eqF (.int .u8 (b.toNat : Int)))]
  let EB : List CF := [zeroIF]
  exact region_auto (E := E) (EB := EB) (s := ⟨[(0, (.ref 0)), (3, (.int .i64 0)), (11, (.bool false))], [(2, 0)]⟩)
   { pures := [p1 (.blt .len [9]) (.ref 0) (.ref 1) fun _ _ _ _ hx => h_lenS hx,
      p2 (.bin .gtr 3 3) (.ref 1) (.int .i64 0) (.bool true) fun _ _ _ _ _ hx hy => h_gtr (r := true) (by rw [decide_eq_true_eq]; have := List.length_pos_iff.2 hds; omega) hx hy,
      p2 (.ixv 9) (.ref 0) (.int .i64 0) (.ref 2) fun _ _ _ _ _ hx hy => h_chr (bs := ds) (k := 0) h0 hx hy,
      p2 (.bin .eql 5 5) (.ref 2) (.int .u8 45) (.bool false) fun _ _ _ _ _ hx hy => h_eqlI (r := false) (chr_ne h45 (by decide)) hx hy] }
   ⟨[(0, (.ref 0)), (3, (.int .i64 0)), (4, (.bool false)), (11, (.bool false))], [(2, 0)]⟩ hst (by kernel_rfl) fin
set_option maxRecDepth 100000 in
theorem rrq_r4 {Q : Exit → Act → World → Prop} {Wb W0 : World} {a0 : Act} {ds : List UInt8} {b : UInt8} (_hlen : ds.length ≤ 2000) (_hds : ds ≠ []) (_h0 : ds[0]? = some b) (_h45 : b ≠ 45) (_h48 : b = 48) (_h1 : ds.length ≤ 1)  (hst : St Wb 74 [(0, (eqF (.string ⟨List.toArray ds⟩))), (3, (eqF (.int .i64 0))), (4, (eqF (.bool false))), (11, (eqF (.bool false)))] [(2, zeroIF)] a0 W0)
    (fin : ∀ a w, St Wb 74 [(0, (eqF (.string ⟨List.toArray ds⟩))), (3, (eqF (.int .i64 0))), (4, (eqF (.bool false))), (5, (eqF (.string ⟨List.toArray ds⟩))), (11, (eqF (.bool false)))] [(2, zeroIF)] a w → Q .normal a w) : (Code.region 4 rrq_o4 false).wp Tryd.prog Q a0 W0 := by
  let E : List PF := [(eqF (.string ⟨List.toArray ds⟩))]
  let EB : List CF := [zeroIF]
  exact region_auto (E := E) (EB := EB) (s := ⟨[(0, (.ref 0)), (3, (.int .i64 0)), (4, (.bool false)), (11, (.bool false))], [(2, 0)]⟩)
   {  }
   ⟨[(0, (.ref 0)), (3, (.int .i64 0)), (4, (.bool false)), (5, (.ref 0)), (11, (.bool false))], [(2, 0)]⟩ hst (by kernel_rfl) fin
set_option maxRecDepth 100000 in
theorem rrq_r5 {Q : Exit → Act → World → Prop} {Wb W0 : World} {a0 : Act} {ds : List UInt8} {b : UInt8} (_hlen : ds.length ≤ 2000) (_hds : ds ≠ []) (_h0 : ds[0]? = some b) (_h45 : b ≠ 45) (_h48 : b = 48) (_h1 : ds.length ≤ 1)  (hst : St Wb 74 [(0, (eqF (.string ⟨List.toArray ds⟩))), (3, (eqF (.int .i64 0))), (4, (eqF (.bool false))), (5, (eqF (.string ⟨List.toArray ds⟩))), (11, (eqF (.bool false)))] [(2, zeroIF)] a0 W0)
    (fin : ∀ a w, St Wb 74 [(0, (eqF (.string ⟨List.toArray ds⟩))), (3, (eqF (.int .i64 0))), (4, (eqF (.bool false))), (5, (eqF (.string ⟨List.toArray ds⟩))), (11, (eqF (.bool false))), (22, (eqF (.bool false)))] [(2, zeroIF)] a w → Q .normal a w) : (Code.region 5 rrq_o5 false).wp Tryd.prog Q a0 W0 := by
  let E : List PF := [(eqF (.string ⟨List.toArray ds⟩))]
  let EB : List CF := [zeroIF]
  exact region_auto (E := E) (EB := EB) (s := ⟨[(0, (.ref 0)), (3, (.int .i64 0)), (4, (.bool false)), (5, (.ref 0)), (11, (.bool false))], [(2, 0)]⟩)
   {  }
   ⟨[(0, (.ref 0)), (3, (.int .i64 0)), (4, (.bool false)), (5, (.ref 0)), (11, (.bool false)), (22, (.bool false))], [(2, 0)]⟩ hst (by kernel_rfl) fin
set_option maxRecDepth 100000 in
theorem rrq_r7 {Q : Exit → Act → World → Prop} {Wb W0 : World} {a0 : Act} {ds : List UInt8} {b : UInt8} (_hlen : ds.length ≤ 2000) (hds : ds ≠ []) (h0 : ds[0]? = some b) (_h45 : b ≠ 45) (h48 : b = 48) (_h1 : ds.length ≤ 1)  (hst : St Wb 74 [(0, (eqF (.string ⟨List.toArray ds⟩))), (3, (eqF (.int .i64 0))), (4, (eqF (.bool false))), (5, (eqF (.string ⟨List.toArray ds⟩))), (11, (eqF (.bool false))), (22, (eqF (.bool false)))] [(2, zeroIF)] a0 W0)
    (fin : ∀ a w, St Wb 74 [(0, (eqF (.string ⟨List.toArray ds⟩))), (3, (eqF (.int .i64 0))), (4, (eqF (.bool false))), (5, (eqF (.string ⟨List.toArray ds⟩))), (11, (eqF (.bool false))), (22, (eqF (.bool false))), (39, (eqF (.bool false)))] [(2, zeroIF)] a w → Q .normal a w) : (Code.region 7 rrq_o7 false).wp Tryd.prog Q a0 W0 := by
  let E : List PF := [(eqF (.string ⟨List.toArray ds⟩)), (eqF (.int .u8 (b.toNat : Int))), (eqF (.int .i64 (ds.length : Int)))]
  let EB : List CF := [zeroIF]
  exact region_auto (E := E) (EB := EB) (s := ⟨[(0, (.ref 0)), (3, (.int .i64 0)), (4, (.bool false)), (5, (.ref 0)), (11, (.bool false)), (22, (.bool false))], [(2, 0)]⟩)
   { pures := [p2 (.bin .eql 9 9) (.ref 0) (.str { data := #[] }) (.bool false) fun _ _ _ _ _ hx hy => h_eqlS (a := ds) (b := []) (by simpa using hds) hx hy,
      p2 (.ixv 9) (.ref 0) (.int .i64 0) (.ref 1) fun _ _ _ _ _ hx hy => h_chr (bs := ds) (k := 0) h0 hx hy,
      p2 (.bin .eql 5 5) (.ref 1) (.int .u8 48) (.bool true) fun _ _ _ _ _ hx hy => h_eqlI (r := true) (by rw [h48]; rfl) hx hy,
      p1 (.blt .len [9]) (.ref 0) (.ref 2) fun _ _ _ _ hx => h_lenS hx,
      p2 (.bin .gtr 3 3) (.ref 2) (.int .i64 1) (.bool false) fun _ _ _ _ _ hx hy => h_gtr (r := false) (by simp only [decide_eq_false_iff_not]; omega) hx hy] }
   ⟨[(0, (.ref 0)), (3, (.int .i64 0)), (4, (.bool false)), (5, (.ref 0)), (11, (.bool false)), (22, (.bool false)), (39, (.bool false))], [(2, 0)]⟩ hst (by kernel_rfl) fin
set_option maxRecDepth 100000 in
theorem rrq_r9 {Q : Exit → Act → World → Prop} {Wb W0 : World} {a0 : Act} {ds : List UInt8} {b : UInt8} (_hlen : ds.length ≤ 2000) (_hds : ds ≠ []) (h0 : ds[0]? = some b) (_h45 : b ≠ 45) (_h48 : b = 48) (_h1 : ds.length ≤ 1)  (hst : St Wb 74 [(0, (eqF (.string ⟨List.toArray ds⟩))), (3, (eqF (.int .i64 0))), (4, (eqF (.bool false))), (5, (eqF (.string ⟨List.toArray ds⟩))), (11, (eqF (.bool false))), (22, (eqF (.bool false))), (39, (eqF (.bool false)))] [(2, zeroIF)] a0 W0)
    (fin : ∀ a w, St Wb 74 [(0, (eqF (.string ⟨List.toArray ds⟩))), (3, (eqF (.int .i64 0))), (4, (eqF (.bool false))), (5, (eqF (.string ⟨List.toArray ds⟩))), (11, (eqF (.bool false))), (22, (eqF (.bool false))), (39, (eqF (.bool false)))] [(2, zeroIF), (6, (boxIF 0)), (7, (boxIF 10))] a w → Q .normal a w) : (Code.region 9 rrq_o9 false).wp Tryd.prog Q a0 W0 := by
  let E : List PF := [(intF 0), (intF 10), (eqF (.string ⟨List.toArray ds⟩))]
  let EB : List CF := [zeroIF, (boxIF 0), (boxIF 10)]
  exact region_auto (E := E) (EB := EB) (s := ⟨[(0, (.ref 2)), (3, (.int .i64 0)), (4, (.bool false)), (5, (.ref 2)), (11, (.bool false)), (22, (.bool false)), (39, (.bool false))], [(2, 0)]⟩)
   { pures := [p0 (.bld 27 []) (.ref 0) fun _ _ _ => h_build0],
     calls := [c1 15 (.int .i64 10) (.ref 1) fun w v0 hb h0 => kROf 10 (by omega) (by omega) h0],
     allocs := [⟨27, 0, _, allocI_run, allocI_old⟩],
     stores := [⟨27, 0, 0, (.ref 0), 1, (storeI_zero _)⟩,
      ⟨27, 0, 0, (.ref 1), 2, (storeI_zero _)⟩] }
   ⟨[(0, (.ref 2)), (3, (.int .i64 0)), (4, (.bool false)), (5, (.ref 2)), (11, (.bool false)), (22, (.bool false)), (39, (.bool false))], [(2, 0), (6, 1), (7, 2)]⟩ hst (by kernel_rfl) fin
set_option maxRecDepth 100000 in
theorem rrq_r10 {Q : Exit → Act → World → Prop} {Wb W0 : World} {a0 : Act} {ds : List UInt8} {b : UInt8} (_hlen : ds.length ≤ 2000) (_hds : ds ≠ []) (_h0 : ds[0]? = some b) (_h45 : b ≠ 45) (_h48 : b = 48) (_h1 : ds.length ≤ 1)  (hst : St Wb 74 [(0, (eqF (.string ⟨List.toArray ds⟩))), (3, (eqF (.int .i64 0))), (4, (eqF (.bool false))), (5, (eqF (.string ⟨List.toArray ds⟩))), (11, (eqF (.bool false))), (22, (eqF (.bool false))), (39, (eqF (.bool false)))] [(2, zeroIF), (6, (boxIF 0)), (7, (boxIF 10))] a0 W0)
    (fin : ∀ a w, St Wb 74 [(0, (eqF (.string ⟨List.toArray ds⟩))), (3, (eqF (.int .i64 0))), (4, (eqF (.bool false))), (5, (eqF (.string ⟨List.toArray ds⟩))), (8, (eqF (.int .i64 0))), (11, (eqF (.bool false))), (22, (eqF (.bool false))), (39, (eqF (.bool false)))] [(2, zeroIF), (6, (boxIF 0)), (7, (boxIF 10))] a w → Q .normal a w) : (Code.region 10 rrq_o10 false).wp Tryd.prog Q a0 W0 := by
  let E : List PF := [(eqF (.string ⟨List.toArray ds⟩))]
  let EB : List CF := [zeroIF, (boxIF 0), (boxIF 10)]
  exact region_auto (E := E) (EB := EB) (s := ⟨[(0, (.ref 0)), (3, (.int .i64 0)), (4, (.bool false)), (5, (.ref 0)), (11, (.bool false)), (22, (.bool false)), (39, (.bool false))], [(2, 0), (6, 1), (7, 2)]⟩)
   {  }
   ⟨[(0, (.ref 0)), (3, (.int .i64 0)), (4, (.bool false)), (5, (.ref 0)), (8, (.int .i64 0)), (11, (.bool false)), (22, (.bool false)), (39, (.bool false))], [(2, 0), (6, 1), (7, 2)]⟩ hst (by kernel_rfl) fin
set_option maxRecDepth 100000 in
theorem rrq_r11 {Q : Exit → Act → World → Prop} {Wb W0 : World} {a0 : Act} {ds : List UInt8} {b : UInt8} (_hlen : ds.length ≤ 2000) (_hds : ds ≠ []) (_h0 : ds[0]? = some b) (_h45 : b ≠ 45) (_h48 : b = 48) (_h1 : ds.length ≤ 1) {k v : Nat} (_sv : Sm ((v : Nat) : Int) 224) (_hk2 : k = ds.length) (hst : St Wb 74 [(0, (eqF (.string ⟨List.toArray ds⟩))), (3, (eqF (.int .i64 0))), (4, (eqF (.bool false))), (5, (eqF (.string ⟨List.toArray ds⟩))), (8, (eqF (.int .i64 ((k : Nat) : Int)))), (11, (eqF (.bool false))), (22, (eqF (.bool false))), (39, (eqF (.bool false)))] [(2, zeroIF), (6, (boxIF ((v : Nat) : Int))), (7, (boxIF 10))] a0 W0)
    (fin : ∀ a w, St Wb 74 [(0, (eqF (.string ⟨List.toArray ds⟩))), (3, (eqF (.int .i64 0))), (4, (eqF (.bool false))), (5, (eqF (.string ⟨List.toArray ds⟩))), (8, (eqF (.int .i64 ((k : Nat) : Int)))), (11, (eqF (.bool false))), (22, (eqF (.bool false))), (39, (eqF (.bool false))), (46, (eqF (.bool false)))] [(2, zeroIF), (6, (boxIF ((v : Nat) : Int))), (7, (boxIF 10))] a w → Q .normal a w) : (Code.region 11 rrq_o11 false).wp Tryd.prog Q a0 W0 := by
  let E : List PF := [(eqF (.string ⟨List.toArray ds⟩)), (eqF (.int .i64 (ds.length : Int))), (eqF (.int .i64 ((k : Nat) : Int)))]
  let EB : List CF := [zeroIF, (boxIF ((v : Nat) : Int)), (boxIF 10)]
  exact region_auto (E := E) (EB := EB) (s := ⟨[(0, (.ref 0)), (3, (.int .i64 0)), (4, (.bool false)), (5, (.ref 0)), (8, (.ref 2)), (11, (.bool false)), (22, (.bool false)), (39, (.bool false))], [(2, 0), (6, 1), (7, 2)]⟩)
   { pures := [p1 (.blt .len [9]) (.ref 0) (.ref 1) fun _ _ _ _ hx => h_lenS hx,
      p2 (.bin .lss 3 3) (.ref 2) (.ref 1) (.bool false) fun _ _ _ _ _ hx hy => h_lss (r := false) (by simp only [decide_eq_false_iff_not]; omega) hx hy] }
   ⟨[(0, (.ref 0)), (3, (.int .i64 0)), (4, (.bool false)), (5, (.ref 0)), (8, (.ref 2)), (11, (.bool false)), (22, (.bool false)), (39, (.bool false)), (46, (.bool false))], [(2, 0), (6, 1), (7, 2)]⟩ hst (by kernel_rfl) fin
set_option maxRecDepth 100000 in
theorem rrq_r16 {Q : Exit → Act → World → Prop} {Wb W0 : World} {a0 : Act} {ds : List UInt8} {b : UInt8} (_hlen : ds.length ≤ 2000) (_hds : ds ≠ []) (h0 : ds[0]? = some b) (_h45 : b ≠ 45) (_h48 : b = 48) (h1 : ds.length ≤ 1) {v : Nat} (sv : Sm ((v : Nat) : Int) 224) (hst : St Wb 74 [(0, (eqF (.string ⟨List.toArray ds⟩))), (3, (eqF (.int .i64 0))), (4, (eqF (.bool false))), (5, (eqF (.string ⟨List.toArray ds⟩))), (8, (eqF (.int .i64 (((ds.length) : Nat) : Int)))), (11, (eqF (.bool false))), (22, (eqF (.bool false))), (39, (eqF (.bool false))), (46, (eqF (.bool false)))] [(2, zeroIF), (6, (boxIF ((v : Nat) : Int))), (7, (boxIF 10))] a0 W0)
    (fin : ∀ a w, St Wb 74 [(0, (eqF (.string ⟨List.toArray ds⟩))), (3, (eqF (.int .i64 0))), (4, (eqF (.bool false))), (5, (eqF (.string ⟨List.toArray ds⟩))), (8, (eqF (.int .i64 (((ds.length) : Nat) : Int)))), (11, (eqF (.bool false))), (22, (eqF (.bool false))), (39, (eqF (.bool false))), (46, (eqF (.bool false)))] [(2, (boxIF ((v : Nat) : Int))), (6, (boxIF ((v : Nat) : Int))), (7, (boxIF 10))] a w → Q .normal a w) : (Code.region 16 rrq_o16 false).wp Tryd.prog Q a0 W0 := by
  let E : List PF := [(natF ((v : Nat) : Int).natAbs), (intF ((v : Nat) : Int)), (eqF (.string ⟨List.toArray ds⟩)), (eqF (.int .i64 (((ds.length) : Nat) : Int)))]
  let EB : List CF := [(boxIF ((v : Nat) : Int)), zeroIF, (boxIF 10)]
  exact region_auto (E := E) (EB := EB) (s := ⟨[(0, (.ref 2)), (3, (.int .i64 0)), (4, (.bool false)), (5, (.ref 2)), (8, (.ref 3)), (11, (.bool false)), (22, (.bool false)), (39, (.bool false)), (46, (.bool false))], [(2, 1), (6, 0), (7, 2)]⟩)
   { calls := [c2 19 (.ref 0) (.bool false) (.ref 1) fun w v0 v1 hb h0 h1 => kRMadeU h0 h1 sv],
     loads := [⟨22, 1, 0, (.ref 0), fun w q h => loadI_mag w q h⟩],
     stores := [⟨27, 0, 1, (.ref 1), 0, (storeI_zero _)⟩],
     flds := [⟨27, 1, 1, fldI1⟩] }
   ⟨[(0, (.ref 2)), (3, (.int .i64 0)), (4, (.bool false)), (5, (.ref 2)), (8, (.ref 3)), (11, (.bool false)), (22, (.bool false)), (39, (.bool false)), (46, (.bool false))], [(2, 0), (6, 0), (7, 2)]⟩ hst (by kernel_rfl) fin
set_option maxRecDepth 100000 in
theorem rrq_r11b {Q : Exit → Act → World → Prop} {Wb W0 : World} {a0 : Act} {ds : List UInt8} {b : UInt8} (_hlen : ds.length ≤ 2000) (_hds : ds ≠ []) (_h0 : ds[0]? = some b) (_h45 : b ≠ 45) (_h48 : b = 48) (_h1 : ds.length ≤ 1) {k v : Nat} {c : UInt8} (_sv : Sm ((v : Nat) : Int) 224) (hc : ds[k]? = some c) (_c1 : c.toNat < 48) (hst : St Wb 74 [(0, (eqF (.string ⟨List.toArray ds⟩))), (3, (eqF (.int .i64 0))), (4, (eqF (.bool false))), (5, (eqF (.string ⟨List.toArray ds⟩))), (8, (eqF (.int .i64 ((k : Nat) : Int)))), (11, (eqF (.bool false))), (22, (eqF (.bool false))), (39, (eqF (.bool false)))] [(2, zeroIF), (6, (boxIF ((v : Nat) : Int))), (7, (boxIF 10))] a0 W0)
    (fin : ∀ a w, St Wb 74 [(0, (eqF (.string ⟨List.toArray ds⟩))), (3, (eqF (.int .i64 0))), (4, (eqF (.bool false))), (5, (eqF (.string ⟨List.toArray ds⟩))), (8, (eqF (.int .i64 ((k : Nat) : Int)))), (11, (eqF (.bool false))), (22, (eqF (.bool false))), (39, (eqF (.bool false))), (46, (eqF (.bool true)))] [(2, zeroIF), (6, (boxIF ((v : Nat) : Int))), (7, (boxIF 10))] a w → Q .normal a w) : (Code.region 11 rrq_o11 false).wp Tryd.prog Q a0 W0 := by
  let E : List PF := [(eqF (.string ⟨List.toArray ds⟩)), (eqF (.int .i64 (ds.length : Int))), (eqF (.int .i64 ((k : Nat) : Int)))]
  let EB : List CF := [zeroIF, (boxIF ((v : Nat) : Int)), (boxIF 10)]
  exact region_auto (E := E) (EB := EB) (s := ⟨[(0, (.ref 0)), (3, (.int .i64 0)), (4, (.bool false)), (5, (.ref 0)), (8, (.ref 2)), (11, (.bool false)), (22, (.bool false)), (39, (.bool false))], [(2, 0), (6, 1), (7, 2)]⟩)
   { pures := [p1 (.blt .len [9]) (.ref 0) (.ref 1) fun _ _ _ _ hx => h_lenS hx,
      p2 (.bin .lss 3 3) (.ref 2) (.ref 1) (.bool true) fun _ _ _ _ _ hx hy => h_lss (r := true) (by simp only [decide_eq_true_eq]; have := get_lt hc; omega) hx hy] }
   ⟨[(0, (.ref 0)), (3, (.int .i64 0)), (4, (.bool false)), (5, (.ref 0)), (8, (.ref 2)), (11, (.bool false)), (22, (.bool false)), (39, (.bool false)), (46, (.bool true))], [(2, 0), (6, 1), (7, 2)]⟩ hst (by kernel_rfl) fin
set_option maxRecDepth 100000 in
theorem rrq_r13 {Q : Exit → Act → World → Prop} {Wb W0 : World} {a0 : Act} {ds : List UInt8} {b : UInt8} (_hlen : ds.length ≤ 2000) (_hds : ds ≠ []) (_h0 : ds[0]? = some b) (_h45 : b ≠ 45) (_h48 : b = 48) (_h1 : ds.length ≤ 1) {k v : Nat} {c : UInt8} (_sv : Sm ((v : Nat) : Int) 224) (hc : ds[k]? = some c) (_c1 : c.toNat < 48) (hst : St Wb 74 [(0, (eqF (.string ⟨List.toArray ds⟩))), (3, (eqF (.int .i64 0))), (4, (eqF (.bool false))), (5, (eqF (.string ⟨List.toArray ds⟩))), (8, (eqF (.int .i64 ((k : Nat) : Int)))), (11, (eqF (.bool false))), (22, (eqF (.bool false))), (39, (eqF (.bool false))), (46, (eqF (.bool true)))] [(2, zeroIF), (6, (boxIF ((v : Nat) : Int))), (7, (boxIF 10))] a0 W0)
    (fin : ∀ a w, St Wb 74 [(0, (eqF (.string ⟨List.toArray ds⟩))), (3, (eqF (.int .i64 0))), (4, (eqF (.bool false))), (5, (eqF (.string ⟨List.toArray ds⟩))), (8, (eqF (.int .i64 ((k : Nat) : Int)))), (11, (eqF (.bool false))), (22, (eqF (.bool false))), (39, (eqF (.bool false))), (46, (eqF (.bool true))), (58, (eqF (.bool true)))] [(2, zeroIF), (6, (boxIF ((v : Nat) : Int))), (7, (boxIF 10))] a w → Q .normal a w) : (Code.region 13 rrq_o13 false).wp Tryd.prog Q a0 W0 := by
  let E : List PF := [(eqF (.string ⟨List.toArray ds⟩)), (eqF (.int .i64 ((k : Nat) : Int))), (eqF (.int .u8 (c.toNat : Int)))]
  let EB : List CF := [zeroIF, (boxIF ((v : Nat) : Int)), (boxIF 10)]
  exact region_auto (E := E) (EB := EB) (s := ⟨[(0, (.ref 0)), (3, (.int .i64 0)), (4, (.bool false)), (5, (.ref 0)), (8, (.ref 1)), (11, (.bool false)), (22, (.bool false)), (39, (.bool false)), (46, (.bool true))], [(2, 0), (6, 1), (7, 2)]⟩)
   { pures := [p2 (.ixv 9) (.ref 0) (.ref 1) (.ref 2) fun _ _ _ _ _ hx hy => h_chr (bs := ds) (k := k) hc hx hy,
      p2 (.bin .lss 5 5) (.ref 2) (.int .u8 48) (.bool true) fun _ _ _ _ _ hx hy => h_lss (r := true) (by simp only [decide_eq_true_eq]; omega) hx hy] }
   ⟨[(0, (.ref 0)), (3, (.int .i64 0)), (4, (.bool false)), (5, (.ref 0)), (8, (.ref 1)), (11, (.bool false)), (22, (.bool false)), (39, (.bool false)), (46, (.bool true)), (58, (.bool true))], [(2, 0), (6, 1), (7, 2)]⟩ hst (by kernel_rfl) fin
set_option maxRecDepth 100000 in
theorem rrq_r14 {Q : Exit → Act → World → Prop} {Wb W0 : World} {a0 : Act} {ds : List UInt8} {b : UInt8} (_hlen : ds.length ≤ 2000) (_hds : ds ≠ []) (_h0 : ds[0]? = some b) (_h45 : b ≠ 45) (_h48 : b = 48) (_h1 : ds.length ≤ 1) {k v : Nat} {c : UInt8} (_sv : Sm ((v : Nat) : Int) 224) (_hc : ds[k]? = some c) (_c1 : c.toNat < 48) (hst : St Wb 74 [(0, (eqF (.string ⟨List.toArray ds⟩))), (3, (eqF (.int .i64 0))), (4, (eqF (.bool false))), (5, (eqF (.string ⟨List.toArray ds⟩))), (8, (eqF (.int .i64 ((k : Nat) : Int)))), (11, (eqF (.bool false))), (22, (eqF (.bool false))), (39, (eqF (.bool false))), (46, (eqF (.bool true))), (58, (eqF (.bool true)))] [(2, zeroIF), (6, (boxIF ((v : Nat) : Int))), (7, (boxIF 10))] a0 W0)
    (fin : ∀ a w, St Wb 74 [(0, (eqF (.string ⟨List.toArray ds⟩))), (3, (eqF (.int .i64 4))), (4, (eqF (.bool false))), (5, (eqF (.string ⟨List.toArray ds⟩))), (8, (eqF (.int .i64 ((k : Nat) : Int)))), (11, (eqF (.bool false))), (22, (eqF (.bool false))), (39, (eqF (.bool false))), (46, (eqF (.bool true))), (58, (eqF (.bool true)))] [(2, (boxIF 0)), (6, (boxIF ((v : Nat) : Int))), (7, (boxIF 10))] a w → Q .normal a w) : (Code.region 14 rrq_o14 false).wp Tryd.prog Q a0 W0 := by
  let E : List PF := [(intF 0), (eqF (.string ⟨List.toArray ds⟩)), (eqF (.int .i64 ((k : Nat) : Int)))]
  let EB : List CF := [zeroIF, (boxIF 0), (boxIF ((v : Nat) : Int)), (boxIF 10)]
  exact region_auto (E := E) (EB := EB) (s := ⟨[(0, (.ref 1)), (3, (.int .i64 0)), (4, (.bool false)), (5, (.ref 1)), (8, (.ref 2)), (11, (.bool false)), (22, (.bool false)), (39, (.bool false)), (46, (.bool true)), (58, (.bool true))], [(2, 0), (6, 2), (7, 3)]⟩)
   { pures := [p0 (.bld 27 []) (.ref 0) fun _ _ _ => h_build0],
     stores := [⟨27, 0, 0, (.ref 0), 1, (storeI_zero _)⟩] }
   ⟨[(0, (.ref 1)), (3, (.int .i64 4)), (4, (.bool false)), (5, (.ref 1)), (8, (.ref 2)), (11, (.bool false)), (22, (.bool false)), (39, (.bool false)), (46, (.bool true)), (58, (.bool true))], [(2, 1), (6, 2), (7, 3)]⟩ hst (by kernel_rfl) fin
set_option maxRecDepth 100000 in
theorem rrq_r11c {Q : Exit → Act → World → Prop} {Wb W0 : World} {a0 : Act} {ds : List UInt8} {b : UInt8} (_hlen : ds.length ≤ 2000) (_hds : ds ≠ []) (_h0 : ds[0]? = some b) (_h45 : b ≠ 45) (_h48 : b = 48) (_h1 : ds.length ≤ 1) {k v : Nat} {c : UInt8} (_sv : Sm ((v : Nat) : Int) 224) (hc : ds[k]? = some c) (_c2 : 57 < c.toNat) (hst : St Wb 74 [(0, (eqF (.string ⟨List.toArray ds⟩))), (3, (eqF (.int .i64 0))), (4, (eqF (.bool false))), (5, (eqF (.string ⟨List.toArray ds⟩))), (8, (eqF (.int .i64 ((k : Nat) : Int)))), (11, (eqF (.bool false))), (22, (eqF (.bool false))), (39, (eqF (.bool false)))] [(2, zeroIF), (6, (boxIF ((v : Nat) : Int))), (7, (boxIF 10))] a0 W0)
    (fin : ∀ a w, St Wb 74 [(0, (eqF (.string ⟨List.toArray ds⟩))), (3, (eqF (.int .i64 0))), (4, (eqF (.bool false))), (5, (eqF (.string ⟨List.toArray ds⟩))), (8, (eqF (.int .i64 ((k : Nat) : Int)))), (11, (eqF (.bool false))), (22, (eqF (.bool false))), (39, (eqF (.bool false))), (46, (eqF (.bool true)))] [(2, zeroIF), (6, (boxIF ((v : Nat) : Int))), (7, (boxIF 10))] a w → Q .normal a w) : (Code.region 11 rrq_o11 false).wp Tryd.prog Q a0 W0 := by
  let E : List PF := [(eqF (.string ⟨List.toArray ds⟩)), (eqF (.int .i64 (ds.length : Int))), (eqF (.int .i64 ((k : Nat) : Int)))]
  let EB : List CF := [zeroIF, (boxIF ((v : Nat) : Int)), (boxIF 10)]
  exact region_auto (E := E) (EB := EB) (s := ⟨[(0, (.ref 0)), (3, (.int .i64 0)), (4, (.bool false)), (5, (.ref 0)), (8, (.ref 2)), (11, (.bool false)), (22, (.bool false)), (39, (.bool false))], [(2, 0), (6, 1), (7, 2)]⟩)
   { pures := [p1 (.blt .len [9]) (.ref 0) (.ref 1) fun _ _ _ _ hx => h_lenS hx,
      p2 (.bin .lss 3 3) (.ref 2) (.ref 1) (.bool true) fun _ _ _ _ _ hx hy => h_lss (r := true) (by simp only [decide_eq_true_eq]; have := get_lt hc; omega) hx hy] }
   ⟨[(0, (.ref 0)), (3, (.int .i64 0)), (4, (.bool false)), (5, (.ref 0)), (8, (.ref 2)), (11, (.bool false)), (22, (.bool false)), (39, (.bool false)), (46, (.bool true))], [(2, 0), (6, 1), (7, 2)]⟩ hst (by kernel_rfl) fin
set_option maxRecDepth 100000 in
theorem rrq_r13b {Q : Exit → Act → World → Prop} {Wb W0 : World} {a0 : Act} {ds : List UInt8} {b : UInt8} (_hlen : ds.length ≤ 2000) (_hds : ds ≠ []) (_h0 : ds[0]? = some b) (_h45 : b ≠ 45) (_h48 : b = 48) (_h1 : ds.length ≤ 1) {k v : Nat} {c : UInt8} (_sv : Sm ((v : Nat) : Int) 224) (hc : ds[k]? = some c) (_c2 : 57 < c.toNat) (hst : St Wb 74 [(0, (eqF (.string ⟨List.toArray ds⟩))), (3, (eqF (.int .i64 0))), (4, (eqF (.bool false))), (5, (eqF (.string ⟨List.toArray ds⟩))), (8, (eqF (.int .i64 ((k : Nat) : Int)))), (11, (eqF (.bool false))), (22, (eqF (.bool false))), (39, (eqF (.bool false))), (46, (eqF (.bool true)))] [(2, zeroIF), (6, (boxIF ((v : Nat) : Int))), (7, (boxIF 10))] a0 W0)
    (fin : ∀ a w, St Wb 74 [(0, (eqF (.string ⟨List.toArray ds⟩))), (3, (eqF (.int .i64 0))), (4, (eqF (.bool false))), (5, (eqF (.string ⟨List.toArray ds⟩))), (8, (eqF (.int .i64 ((k : Nat) : Int)))), (11, (eqF (.bool false))), (22, (eqF (.bool false))), (39, (eqF (.bool false))), (46, (eqF (.bool true))), (58, (eqF (.bool true)))] [(2, zeroIF), (6, (boxIF ((v : Nat) : Int))), (7, (boxIF 10))] a w → Q .normal a w) : (Code.region 13 rrq_o13 false).wp Tryd.prog Q a0 W0 := by
  let E : List PF := [(eqF (.string ⟨List.toArray ds⟩)), (eqF (.int .i64 ((k : Nat) : Int))), (eqF (.int .u8 (c.toNat : Int)))]
  let EB : List CF := [zeroIF, (boxIF ((v : Nat) : Int)), (boxIF 10)]
  exact region_auto (E := E) (EB := EB) (s := ⟨[(0, (.ref 0)), (3, (.int .i64 0)), (4, (.bool false)), (5, (.ref 0)), (8, (.ref 1)), (11, (.bool false)), (22, (.bool false)), (39, (.bool false)), (46, (.bool true))], [(2, 0), (6, 1), (7, 2)]⟩)
   { pures := [p2 (.ixv 9) (.ref 0) (.ref 1) (.ref 2) fun _ _ _ _ _ hx hy => h_chr (bs := ds) (k := k) hc hx hy,
      p2 (.bin .lss 5 5) (.ref 2) (.int .u8 48) (.bool false) fun _ _ _ _ _ hx hy => h_lss (r := false) (by simp only [decide_eq_false_iff_not]; omega) hx hy,
      p2 (.bin .gtr 5 5) (.ref 2) (.int .u8 57) (.bool true) fun _ _ _ _ _ hx hy => h_gtr (r := true) (by simp only [decide_eq_true_eq]; omega) hx hy] }
   ⟨[(0, (.ref 0)), (3, (.int .i64 0)), (4, (.bool false)), (5, (.ref 0)), (8, (.ref 1)), (11, (.bool false)), (22, (.bool false)), (39, (.bool false)), (46, (.bool true)), (58, (.bool true))], [(2, 0), (6, 1), (7, 2)]⟩ hst (by kernel_rfl) fin
set_option maxRecDepth 100000 in
theorem rrq_r14b {Q : Exit → Act → World → Prop} {Wb W0 : World} {a0 : Act} {ds : List UInt8} {b : UInt8} (_hlen : ds.length ≤ 2000) (_hds : ds ≠ []) (_h0 : ds[0]? = some b) (_h45 : b ≠ 45) (_h48 : b = 48) (_h1 : ds.length ≤ 1) {k v : Nat} {c : UInt8} (_sv : Sm ((v : Nat) : Int) 224) (_hc : ds[k]? = some c) (_c2 : 57 < c.toNat) (hst : St Wb 74 [(0, (eqF (.string ⟨List.toArray ds⟩))), (3, (eqF (.int .i64 0))), (4, (eqF (.bool false))), (5, (eqF (.string ⟨List.toArray ds⟩))), (8, (eqF (.int .i64 ((k : Nat) : Int)))), (11, (eqF (.bool false))), (22, (eqF (.bool false))), (39, (eqF (.bool false))), (46, (eqF (.bool true))), (58, (eqF (.bool true)))] [(2, zeroIF), (6, (boxIF ((v : Nat) : Int))), (7, (boxIF 10))] a0 W0)
    (fin : ∀ a w, St Wb 74 [(0, (eqF (.string ⟨List.toArray ds⟩))), (3, (eqF (.int .i64 4))), (4, (eqF (.bool false))), (5, (eqF (.string ⟨List.toArray ds⟩))), (8, (eqF (.int .i64 ((k : Nat) : Int)))), (11, (eqF (.bool false))), (22, (eqF (.bool false))), (39, (eqF (.bool false))), (46, (eqF (.bool true))), (58, (eqF (.bool true)))] [(2, (boxIF 0)), (6, (boxIF ((v : Nat) : Int))), (7, (boxIF 10))] a w → Q .normal a w) : (Code.region 14 rrq_o14 false).wp Tryd.prog Q a0 W0 := by
  let E : List PF := [(intF 0), (eqF (.string ⟨List.toArray ds⟩)), (eqF (.int .i64 ((k : Nat) : Int)))]
  let EB : List CF := [zeroIF, (boxIF 0), (boxIF ((v : Nat) : Int)), (boxIF 10)]
  exact region_auto (E := E) (EB := EB) (s := ⟨[(0, (.ref 1)), (3, (.int .i64 0)), (4, (.bool false)), (5, (.ref 1)), (8, (.ref 2)), (11, (.bool false)), (22, (.bool false)), (39, (.bool false)), (46, (.bool true)), (58, (.bool true))], [(2, 0), (6, 2), (7, 3)]⟩)
   { pures := [p0 (.bld 27 []) (.ref 0) fun _ _ _ => h_build0],
     stores := [⟨27, 0, 0, (.ref 0), 1, (storeI_zero _)⟩] }
   ⟨[(0, (.ref 1)), (3, (.int .i64 4)), (4, (.bool false)), (5, (.ref 1)), (8, (.ref 2)), (11, (.bool false)), (22, (.bool false)), (39, (.bool false)), (46, (.bool true)), (58, (.bool true))], [(2, 1), (6, 2), (7, 3)]⟩ hst (by kernel_rfl) fin
set_option maxRecDepth 100000 in
theorem rrq_r11d {Q : Exit → Act → World → Prop} {Wb W0 : World} {a0 : Act} {ds : List UInt8} {b : UInt8} (_hlen : ds.length ≤ 2000) (_hds : ds ≠ []) (_h0 : ds[0]? = some b) (_h45 : b ≠ 45) (_h48 : b = 48) (_h1 : ds.length ≤ 1) {k v : Nat} {c : UInt8} (_sv : Sm ((v : Nat) : Int) 224) (hc : ds[k]? = some c) (_c3 : 48 ≤ c.toNat ∧ c.toNat ≤ 57) (hst : St Wb 74 [(0, (eqF (.string ⟨List.toArray ds⟩))), (3, (eqF (.int .i64 0))), (4, (eqF (.bool false))), (5, (eqF (.string ⟨List.toArray ds⟩))), (8, (eqF (.int .i64 ((k : Nat) : Int)))), (11, (eqF (.bool false))), (22, (eqF (.bool false))), (39, (eqF (.bool false)))] [(2, zeroIF), (6, (boxIF ((v : Nat) : Int))), (7, (boxIF 10))] a0 W0)
    (fin : ∀ a w, St Wb 74 [(0, (eqF (.string ⟨List.toArray ds⟩))), (3, (eqF (.int .i64 0))), (4, (eqF (.bool false))), (5, (eqF (.string ⟨List.toArray ds⟩))), (8, (eqF (.int .i64 ((k : Nat) : Int)))), (11, (eqF (.bool false))), (22, (eqF (.bool false))), (39, (eqF (.bool false))), (46, (eqF (.bool true)))] [(2, zeroIF), (6, (boxIF ((v : Nat) : Int))), (7, (boxIF 10))] a w → Q .normal a w) : (Code.region 11 rrq_o11 false).wp Tryd.prog Q a0 W0 := by
  let E : List PF := [(eqF (.string ⟨List.toArray ds⟩)), (eqF (.int .i64 (ds.length : Int))), (eqF (.int .i64 ((k : Nat) : Int)))]
  let EB : List CF := [zeroIF, (boxIF ((v : Nat) : Int)), (boxIF 10)]
  exact region_auto (E := E) (EB := EB) (s := ⟨[(0, (.ref 0)), (3, (.int .i64 0)), (4, (.bool false)), (5, (.ref 0)), (8, (.ref 2)), (11, (.bool false)), (22, (.bool false)), (39, (.bool false))], [(2, 0), (6, 1), (7, 2)]⟩)
   { pures := [p1 (.blt .len [9]) (.ref 0) (.ref 1) fun _ _ _ _ hx => h_lenS hx,
      p2 (.bin .lss 3 3) (.ref 2) (.ref 1) (.bool true) fun _ _ _ _ _ hx hy => h_lss (r := true) (by simp only [decide_eq_true_eq]; have := get_lt hc; omega) hx hy] }
   ⟨[(0, (.ref 0)), (3, (.int .i64 0)), (4, (.bool false)), (5, (.ref 0)), (8, (.ref 2)), (11, (.bool false)), (22, (.bool false)), (39, (.bool false)), (46, (.bool true))], [(2, 0), (6, 1), (7, 2)]⟩ hst (by kernel_rfl) fin
set_option maxRecDepth 100000 in
theorem rrq_r13c {Q : Exit → Act → World → Prop} {Wb W0 : World} {a0 : Act} {ds : List UInt8} {b : UInt8} (_hlen : ds.length ≤ 2000) (_hds : ds ≠ []) (_h0 : ds[0]? = some b) (_h45 : b ≠ 45) (_h48 : b = 48) (_h1 : ds.length ≤ 1) {k v : Nat} {c : UInt8} (_sv : Sm ((v : Nat) : Int) 224) (hc : ds[k]? = some c) (_c3 : 48 ≤ c.toNat ∧ c.toNat ≤ 57) (hst : St Wb 74 [(0, (eqF (.string ⟨List.toArray ds⟩))), (3, (eqF (.int .i64 0))), (4, (eqF (.bool false))), (5, (eqF (.string ⟨List.toArray ds⟩))), (8, (eqF (.int .i64 ((k : Nat) : Int)))), (11, (eqF (.bool false))), (22, (eqF (.bool false))), (39, (eqF (.bool false))), (46, (eqF (.bool true)))] [(2, zeroIF), (6, (boxIF ((v : Nat) : Int))), (7, (boxIF 10))] a0 W0)
    (fin : ∀ a w, St Wb 74 [(0, (eqF (.string ⟨List.toArray ds⟩))), (3, (eqF (.int .i64 0))), (4, (eqF (.bool false))), (5, (eqF (.string ⟨List.toArray ds⟩))), (8, (eqF (.int .i64 ((k : Nat) : Int)))), (11, (eqF (.bool false))), (22, (eqF (.bool false))), (39, (eqF (.bool false))), (46, (eqF (.bool true))), (58, (eqF (.bool false)))] [(2, zeroIF), (6, (boxIF ((v : Nat) : Int))), (7, (boxIF 10))] a w → Q .normal a w) : (Code.region 13 rrq_o13 false).wp Tryd.prog Q a0 W0 := by
  let E : List PF := [(eqF (.string ⟨List.toArray ds⟩)), (eqF (.int .i64 ((k : Nat) : Int))), (eqF (.int .u8 (c.toNat : Int)))]
  let EB : List CF := [zeroIF, (boxIF ((v : Nat) : Int)), (boxIF 10)]
  exact region_auto (E := E) (EB := EB) (s := ⟨[(0, (.ref 0)), (3, (.int .i64 0)), (4, (.bool false)), (5, (.ref 0)), (8, (.ref 1)), (11, (.bool false)), (22, (.bool false)), (39, (.bool false)), (46, (.bool true))], [(2, 0), (6, 1), (7, 2)]⟩)
   { pures := [p2 (.ixv 9) (.ref 0) (.ref 1) (.ref 2) fun _ _ _ _ _ hx hy => h_chr (bs := ds) (k := k) hc hx hy,
      p2 (.bin .lss 5 5) (.ref 2) (.int .u8 48) (.bool false) fun _ _ _ _ _ hx hy => h_lss (r := false) (by simp only [decide_eq_false_iff_not]; omega) hx hy,
      p2 (.bin .gtr 5 5) (.ref 2) (.int .u8 57) (.bool false) fun _ _ _ _ _ hx hy => h_gtr (r := false) (by simp only [decide_eq_false_iff_not]; omega) hx hy] }
   ⟨[(0, (.ref 0)), (3, (.int .i64 0)), (4, (.bool false)), (5, (.ref 0)), (8, (.ref 1)), (11, (.bool false)), (22, (.bool false)), (39, (.bool false)), (46, (.bool true)), (58, (.bool false))], [(2, 0), (6, 1), (7, 2)]⟩ hst (by kernel_rfl) fin
set_option maxRecDepth 100000 in
theorem rrq_r15 {Q : Exit → Act → World → Prop} {Wb W0 : World} {a0 : Act} {ds : List UInt8} {b : UInt8} (_hlen : ds.length ≤ 2000) (_hds : ds ≠ []) (h0 : ds[0]? = some b) (_h45 : b ≠ 45) (_h48 : b = 48) (h1 : ds.length ≤ 1) {k v : Nat} {c : UInt8} (sv : Sm ((v : Nat) : Int) 224) (hc : ds[k]? = some c) (_c3 : 48 ≤ c.toNat ∧ c.toNat ≤ 57) (hst : St Wb 74 [(0, (eqF (.string ⟨List.toArray ds⟩))), (3, (eqF (.int .i64 0))), (4, (eqF (.bool false))), (5, (eqF (.string ⟨List.toArray ds⟩))), (8, (eqF (.int .i64 ((k : Nat) : Int)))), (11, (eqF (.bool false))), (22, (eqF (.bool false))), (39, (eqF (.bool false))), (46, (eqF (.bool true))), (58, (eqF (.bool false)))] [(2, zeroIF), (6, (boxIF ((v : Nat) : Int))), (7, (boxIF 10))] a0 W0)
    (fin : ∀ a w, St Wb 74 [(0, (eqF (.string ⟨List.toArray ds⟩))), (3, (eqF (.int .i64 0))), (4, (eqF (.bool false))), (5, (eqF (.string ⟨List.toArray ds⟩))), (8, (eqF (.int .i64 ((k : Nat) : Int)))), (11, (eqF (.bool false))), (22, (eqF (.bool false))), (39, (eqF (.bool false))), (46, (eqF (.bool true))), (58, (eqF (.bool false)))] [(2, zeroIF), (6, (boxIF ((((v : Nat) : Int) * 10) + ((c.toNat : Int) - 48)))), (7, (boxIF 10))] a w → Q .normal a w) : (Code.region 15 rrq_o15 true).wp Tryd.prog Q a0 W0 := by
  let E : List PF := [(intF ((v : Nat) : Int)), (intF 10), (intF (((v : Nat) : Int) * 10)), (eqF (.string ⟨List.toArray ds⟩)), (eqF (.int .i64 ((k : Nat) : Int))), (eqF (.int .u8 (c.toNat : Int))), (eqF (.int .i64 (c.toNat : Int))), (eqF (.int .i64 ((c.toNat : Int) - 48))), (intF ((c.toNat : Int) - 48)), (intF ((((v : Nat) : Int) * 10) + ((c.toNat : Int) - 48)))]
  let EB : List CF := [(boxIF ((v : Nat) : Int)), (boxIF 10), (boxIF ((((v : Nat) : Int) * 10) + ((c.toNat : Int) - 48))), zeroIF]
  exact region_auto (E := E) (EB := EB) (s := ⟨[(0, (.ref 3)), (3, (.int .i64 0)), (4, (.bool false)), (5, (.ref 3)), (8, (.ref 4)), (11, (.bool false)), (22, (.bool false)), (39, (.bool false)), (46, (.bool true)), (58, (.bool false))], [(2, 3), (6, 0), (7, 1)]⟩)
   { pures := [p2 (.ixv 9) (.ref 3) (.ref 4) (.ref 5) fun _ _ _ _ _ hx hy => h_chr (bs := ds) (k := k) hc hx hy,
      p1 (.conv 5 2) (.ref 5) (.ref 6) fun _ _ _ _ hx => h_cv8i hx,
      p2 (.bin .sub 2 2) (.ref 6) (.int .i64 48) (.ref 7) fun _ _ _ _ _ hx hy => h_sub (z := ((c.toNat : Int) - 48)) (by rw [IntKind.wrap_i64]; omega) hx hy],
     calls := [c2 30 (.ref 0) (.ref 1) (.ref 2) fun w v0 v1 hb h0 h1 => kRMul h0 h1 sv (Sm.of 10 (by decide)) (by first | decide | assumption | omega) (by first | decide | assumption | omega),
      c1 15 (.ref 7) (.ref 8) fun w v0 hb h0 => kROf ((c.toNat : Int) - 48) (by omega) (by omega) h0,
      c2 29 (.ref 2) (.ref 8) (.ref 9) fun w v0 v1 hb h0 h1 => kRAdd h0 h1 (sv.mul (Sm.of 10 (by decide))) (sm_chr c) (by first | decide | assumption | omega) (by first | decide | assumption | omega)],
     loads := [⟨27, 0, 0, (.ref 0), fun w q h => loadI_int w q h⟩,
      ⟨27, 0, 1, (.ref 1), fun w q h => loadI_int w q h⟩],
     stores := [⟨27, 0, 0, (.ref 9), 2, (storeI_box _ _)⟩] }
   ⟨[(0, (.ref 3)), (3, (.int .i64 0)), (4, (.bool false)), (5, (.ref 3)), (8, (.ref 4)), (11, (.bool false)), (22, (.bool false)), (39, (.bool false)), (46, (.bool true)), (58, (.bool false))], [(2, 3), (6, 2), (7, 1)]⟩ hst (by kernel_rfl) fin
set_option maxRecDepth 100000 in
theorem rrq_r12 {Q : Exit → Act → World → Prop} {Wb W0 : World} {a0 : Act} {ds : List UInt8} {b : UInt8} (_hlen : ds.length ≤ 2000) (_hds : ds ≠ []) (_h0 : ds[0]? = some b) (_h45 : b ≠ 45) (_h48 : b = 48) (_h1 : ds.length ≤ 1) {k v : Nat} {c : UInt8} (_sv : Sm ((v : Nat) : Int) 224) (hc : ds[k]? = some c) (_c3 : 48 ≤ c.toNat ∧ c.toNat ≤ 57) (hst : St Wb 74 [(0, (eqF (.string ⟨List.toArray ds⟩))), (3, (eqF (.int .i64 0))), (4, (eqF (.bool false))), (5, (eqF (.string ⟨List.toArray ds⟩))), (8, (eqF (.int .i64 ((k : Nat) : Int)))), (11, (eqF (.bool false))), (22, (eqF (.bool false))), (39, (eqF (.bool false))), (46, (eqF (.bool true))), (58, (eqF (.bool false)))] [(2, zeroIF), (6, (boxIF ((((v : Nat) : Int) * 10) + ((c.toNat : Int) - 48)))), (7, (boxIF 10))] a0 W0)
    (fin : ∀ a w, St Wb 74 [(0, (eqF (.string ⟨List.toArray ds⟩))), (3, (eqF (.int .i64 0))), (4, (eqF (.bool false))), (5, (eqF (.string ⟨List.toArray ds⟩))), (8, (eqF (.int .i64 ((k + 1 : Nat) : Int)))), (11, (eqF (.bool false))), (22, (eqF (.bool false))), (39, (eqF (.bool false))), (46, (eqF (.bool true))), (58, (eqF (.bool false)))] [(2, zeroIF), (6, (boxIF ((((v : Nat) : Int) * 10) + ((c.toNat : Int) - 48)))), (7, (boxIF 10))] a w → Q .normal a w) : (Code.region 12 rrq_o12 false).wp Tryd.prog Q a0 W0 := by
  let E : List PF := [(eqF (.int .i64 ((k : Nat) : Int))), (eqF (.int .i64 ((k + 1 : Nat) : Int))), (eqF (.string ⟨List.toArray ds⟩))]
  let EB : List CF := [zeroIF, (boxIF ((((v : Nat) : Int) * 10) + ((c.toNat : Int) - 48))), (boxIF 10)]
  exact region_auto (E := E) (EB := EB) (s := ⟨[(0, (.ref 2)), (3, (.int .i64 0)), (4, (.bool false)), (5, (.ref 2)), (8, (.ref 0)), (11, (.bool false)), (22, (.bool false)), (39, (.bool false)), (46, (.bool true)), (58, (.bool false))], [(2, 0), (6, 1), (7, 2)]⟩)
   { pures := [p2 (.bin .add 3 3) (.ref 0) (.int .i64 1) (.ref 1) fun _ _ _ _ _ hx hy => h_add (z := ((k + 1 : Nat) : Int)) (by rw [IntKind.wrap_i64]; have := get_lt hc; omega) hx hy] }
   ⟨[(0, (.ref 2)), (3, (.int .i64 0)), (4, (.bool false)), (5, (.ref 2)), (8, (.ref 1)), (11, (.bool false)), (22, (.bool false)), (39, (.bool false)), (46, (.bool true)), (58, (.bool false))], [(2, 0), (6, 1), (7, 2)]⟩ hst (by kernel_rfl) fin
set_option maxRecDepth 100000 in
theorem RRead_Q {ds : List UInt8} {b : UInt8} (va : Value) (W : World) (ha : (eqF (.string ⟨List.toArray ds⟩)).p va W) (hlen : ds.length ≤ 2000) (hds : ds ≠ []) (h0 : ds[0]? = some b) (h45 : b ≠ 45) (h48 : b = 48) (h1 : ds.length ≤ 1) (h48o : b ≠ 48 ∨ ds.length ≤ 1) :
    Calls Tryd.prog 8 #[va] W (GivesP (readP (readOf ds)) W) := by
  refine calls_stW (S := [(0, (eqF (.string ⟨List.toArray ds⟩)))]) Tryd.func8 (by kernel_rfl) Tryd.ntmps8 (by simp) (fun x hx => ?_) fun a w hst => ?_
  · simp only [List.mem_cons, List.not_mem_nil, or_false] at hx
    subst hx
    exact ⟨_, rfl, ha⟩
  show Code.wp _ rrq_n0 _ a w
  rw [rrq_e0]
  refine wp_seq ?_
  rw [rrq_e1]
  refine rrq_r0 hlen hds h0 h45 h48 h1 hst ?_
  clear hst
  intro a w hst
  show Code.wp _ rrq_n2 _ a w
  rw [rrq_e2]
  refine wp_seq ?_
  rw [rrq_e3]
  refine wp_seq ?_
  rw [rrq_e5]
  refine rrq_r1 hlen hds h0 h45 h48 h1 hst ?_
  clear hst
  intro a w hst
  show Code.wp _ rrq_n6 _ a w
  rw [rrq_e6]
  refine wp_cond_false (st_bool hst 2 rfl) ?_
  show Code.wp _ rrq_n8 _ a w
  rw [rrq_e8]
  refine wp_skip ?_
  show Code.wp _ rrq_n4 _ a w
  rw [rrq_e4]
  refine wp_seq ?_
  rw [rrq_e11]
  refine rrq_r3 hlen hds h0 h45 h48 h1 hst ?_
  clear hst
  intro a w hst
  show Code.wp _ rrq_n12 _ a w
  rw [rrq_e12]
  refine wp_seq ?_
  rw [rrq_e13]
  refine rrq_r4 hlen hds h0 h45 h48 h1 hst ?_
  clear hst
  intro a w hst
  show Code.wp _ rrq_n14 _ a w
  rw [rrq_e14]
  refine wp_seq ?_
  rw [rrq_e15]
  refine wp_seq ?_
  rw [rrq_e17]
  refine rrq_r5 hlen hds h0 h45 h48 h1 hst ?_
  clear hst
  intro a w hst
  show Code.wp _ rrq_n18 _ a w
  rw [rrq_e18]
  refine wp_cond_false (st_bool hst 5 rfl) ?_
  show Code.wp _ rrq_n20 _ a w
  rw [rrq_e20]
  refine wp_skip ?_
  show Code.wp _ rrq_n16 _ a w
  rw [rrq_e16]
  refine wp_seq ?_
  rw [rrq_e21]
  refine wp_seq ?_
  rw [rrq_e23]
  refine rrq_r7 hlen hds h0 h45 h48 h1 hst ?_
  clear hst
  intro a w hst
  show Code.wp _ rrq_n24 _ a w
  rw [rrq_e24]
  refine wp_cond_false (st_bool hst 6 rfl) ?_
  show Code.wp _ rrq_n26 _ a w
  rw [rrq_e26]
  refine wp_skip ?_
  show Code.wp _ rrq_n22 _ a w
  rw [rrq_e22]
  refine wp_seq ?_
  rw [rrq_e29]
  refine rrq_r9 hlen hds h0 h45 h48 h1 hst ?_
  clear hst
  intro a w hst
  show Code.wp _ rrq_n30 _ a w
  rw [rrq_e30]
  refine wp_seq ?_
  rw [rrq_e31]
  refine wp_seq ?_
  rw [rrq_e33]
  refine rrq_r10 hlen hds h0 h45 h48 h1 hst ?_
  clear hst
  intro a w hst
  show Code.wp _ rrq_n34 _ a w
  rw [rrq_e34]
  refine wp_block ?_
  show Code.wp _ rrq_n35 _ a w
  rw [rrq_e35]
  refine loop_ghost (fun (x : Nat × Nat) a w => St W 74 [(0, (eqF (.string ⟨List.toArray ds⟩))), (3, (eqF (.int .i64 0))), (4, (eqF (.bool false))), (5, (eqF (.string ⟨List.toArray ds⟩))), (8, (eqF (.int .i64 ((x.1 : Nat) : Int)))), (11, (eqF (.bool false))), (22, (eqF (.bool false))), (39, (eqF (.bool false)))] [(2, zeroIF), (6, (boxIF ((x.2 : Nat) : Int))), (7, (boxIF 10))] a w ∧ x.1 ≤ ds.length ∧ x.2 = dvA 0 (ds.take x.1) ∧ (ds.take x.1).all isD = true) (fun x => ds.length - x.1) ?_ ((0, 0) : Nat × Nat) ⟨hst, Nat.zero_le _, rfl, rfl⟩
  intro ⟨k, v⟩ a w ⟨hst, hk, hv, hall⟩
  have hst : St W 74 [(0, (eqF (.string ⟨List.toArray ds⟩))), (3, (eqF (.int .i64 0))), (4, (eqF (.bool false))), (5, (eqF (.string ⟨List.toArray ds⟩))), (8, (eqF (.int .i64 ((k : Nat) : Int)))), (11, (eqF (.bool false))), (22, (eqF (.bool false))), (39, (eqF (.bool false)))] [(2, zeroIF), (6, (boxIF ((v : Nat) : Int))), (7, (boxIF 10))] a w := hst
  have hk : k ≤ ds.length := hk
  have hv : v = dvA 0 (ds.take k) := hv
  have hall : (ds.take k).all isD = true := hall
  have sv : Sm ((v : Nat) : Int) 224 := sm_dv hv hall (Nat.le_trans hk (Nat.le_trans hlen (by decide)))
  show Code.wp _ rrq_n36 _ a w
  rcases next_chr hk with hk2 | ⟨c, hc⟩
  · rw [rrq_e36]
    refine wp_seq ?_
    rw [rrq_e37]
    refine wp_seq ?_
    rw [rrq_e39]
    refine rrq_r11 hlen hds h0 h45 h48 h1 sv hk2 hst ?_
    clear hst
    intro a w hst
    show Code.wp _ rrq_n40 _ a w
    rw [rrq_e40]
    refine wp_cond_false (st_bool hst 8 rfl) ?_
    show Code.wp _ rrq_n42 _ a w
    rw [rrq_e42]
    refine wp_exit ?_
    subst hk2
    rw [List.take_length] at hv hall
    show Code.wp _ rrq_n32 _ a w
    rw [rrq_e32]
    refine wp_seq ?_
    rw [rrq_e54]
    refine rrq_r16 hlen hds h0 h45 h48 h1 sv hst ?_
    clear hst
    intro a w hst
    show Code.wp _ rrq_n55 _ a w
    rw [rrq_e55]
    refine wp_ret ?_
    rw [read_goodP hds h0 h45 h48o hall hv, readP_some]
    exact ret_boxI_tmp hst rfl 0 rfl 1 rfl
  · rcases (show c.toNat < 48 ∨ 57 < c.toNat ∨ (48 ≤ c.toNat ∧ c.toNat ≤ 57) by omega) with c1 | c2 | c3
    · rw [rrq_e36]
      refine wp_seq ?_
      rw [rrq_e37]
      refine wp_seq ?_
      rw [rrq_e39]
      refine rrq_r11b hlen hds h0 h45 h48 h1 sv hc c1 hst ?_
      clear hst
      intro a w hst
      show Code.wp _ rrq_n40 _ a w
      rw [rrq_e40]
      refine wp_cond_true (st_bool hst 8 rfl) ?_
      show Code.wp _ rrq_n41 _ a w
      rw [rrq_e41]
      refine wp_skip ?_
      show Code.wp _ rrq_n38 _ a w
      rw [rrq_e38]
      refine wp_seq ?_
      rw [rrq_e43]
      refine wp_block ?_
      show Code.wp _ rrq_n45 _ a w
      rw [rrq_e45]
      refine wp_seq ?_
      rw [rrq_e46]
      refine wp_seq ?_
      rw [rrq_e48]
      refine rrq_r13 hlen hds h0 h45 h48 h1 sv hc c1 hst ?_
      clear hst
      intro a w hst
      show Code.wp _ rrq_n49 _ a w
      rw [rrq_e49]
      refine wp_cond_true (st_bool hst 9 rfl) ?_
      show Code.wp _ rrq_n50 _ a w
      rw [rrq_e50]
      refine wp_seq ?_
      rw [rrq_e52]
      refine rrq_r14 hlen hds h0 h45 h48 h1 sv hc c1 hst ?_
      clear hst
      intro a w hst
      show Code.wp _ rrq_n53 _ a w
      rw [rrq_e53]
      refine wp_ret ?_
      rw [read_badP hds h0 h45 hc (by first | exact .inl c1 | exact .inr c2), readP_none]
      exact ret_boxI_tmp hst rfl 0 rfl 1 rfl
    · rw [rrq_e36]
      refine wp_seq ?_
      rw [rrq_e37]
      refine wp_seq ?_
      rw [rrq_e39]
      refine rrq_r11c hlen hds h0 h45 h48 h1 sv hc c2 hst ?_
      clear hst
      intro a w hst
      show Code.wp _ rrq_n40 _ a w
      rw [rrq_e40]
      refine wp_cond_true (st_bool hst 8 rfl) ?_
      show Code.wp _ rrq_n41 _ a w
      rw [rrq_e41]
      refine wp_skip ?_
      show Code.wp _ rrq_n38 _ a w
      rw [rrq_e38]
      refine wp_seq ?_
      rw [rrq_e43]
      refine wp_block ?_
      show Code.wp _ rrq_n45 _ a w
      rw [rrq_e45]
      refine wp_seq ?_
      rw [rrq_e46]
      refine wp_seq ?_
      rw [rrq_e48]
      refine rrq_r13b hlen hds h0 h45 h48 h1 sv hc c2 hst ?_
      clear hst
      intro a w hst
      show Code.wp _ rrq_n49 _ a w
      rw [rrq_e49]
      refine wp_cond_true (st_bool hst 9 rfl) ?_
      show Code.wp _ rrq_n50 _ a w
      rw [rrq_e50]
      refine wp_seq ?_
      rw [rrq_e52]
      refine rrq_r14b hlen hds h0 h45 h48 h1 sv hc c2 hst ?_
      clear hst
      intro a w hst
      show Code.wp _ rrq_n53 _ a w
      rw [rrq_e53]
      refine wp_ret ?_
      rw [read_badP hds h0 h45 hc (by first | exact .inl c1 | exact .inr c2), readP_none]
      exact ret_boxI_tmp hst rfl 0 rfl 1 rfl
    · rw [rrq_e36]
      refine wp_seq ?_
      rw [rrq_e37]
      refine wp_seq ?_
      rw [rrq_e39]
      refine rrq_r11d hlen hds h0 h45 h48 h1 sv hc c3 hst ?_
      clear hst
      intro a w hst
      show Code.wp _ rrq_n40 _ a w
      rw [rrq_e40]
      refine wp_cond_true (st_bool hst 8 rfl) ?_
      show Code.wp _ rrq_n41 _ a w
      rw [rrq_e41]
      refine wp_skip ?_
      show Code.wp _ rrq_n38 _ a w
      rw [rrq_e38]
      refine wp_seq ?_
      rw [rrq_e43]
      refine wp_block ?_
      show Code.wp _ rrq_n45 _ a w
      rw [rrq_e45]
      refine wp_seq ?_
      rw [rrq_e46]
      refine wp_seq ?_
      rw [rrq_e48]
      refine rrq_r13c hlen hds h0 h45 h48 h1 sv hc c3 hst ?_
      clear hst
      intro a w hst
      show Code.wp _ rrq_n49 _ a w
      rw [rrq_e49]
      refine wp_cond_false (st_bool hst 9 rfl) ?_
      show Code.wp _ rrq_n51 _ a w
      rw [rrq_e51]
      refine wp_skip ?_
      show Code.wp _ rrq_n47 _ a w
      rw [rrq_e47]
      refine rrq_r15 hlen hds h0 h45 h48 h1 sv hc c3 hst ?_
      clear hst
      intro a w hst
      show Code.wp _ rrq_n44 _ a w
      rw [rrq_e44]
      refine rrq_r12 hlen hds h0 h45 h48 h1 sv hc c3 hst ?_
      clear hst
      intro a w hst
      have e : ((v : Nat) : Int) * 10 + ((c.toNat : Int) - 48) = ((10 * v + dgt c : Nat) : Int) := by unfold dgt; omega
      rw [e] at hst
      have hlt := get_lt hc
      exact ⟨(k + 1, 10 * v + dgt c), ⟨(hst.to ⟨hst.slots.get (k := 0) rfl, hst.slots.get (k := 1) rfl, hst.slots.get (k := 2) rfl, hst.slots.get (k := 3) rfl, hst.slots.get (k := 4) rfl, hst.slots.get (k := 5) rfl, hst.slots.get (k := 6) rfl, hst.slots.get (k := 7) rfl, trivial⟩), hlt, by rw [dv_next hc, ← hv], all_next hc hall (by simp only [isD, Bool.and_eq_true, decide_eq_true_eq]; exact c3)⟩, by show _ - (k + 1) < _ - k; omega⟩
/-- Read at any text that is not too long. -/
theorem RRead_any {bs : List UInt8} (va : Value) (W : World) (ha : (eqF (.string ⟨List.toArray bs⟩)).p va W) (hl : bs.length ≤ 2000) : Calls Tryd.prog 8 #[va] W (GivesP (readP (readOf bs)) W) := by
  cases bs with
  | nil => exact RRead_E va W ha
  | cons b r =>
    by_cases h45 : b = 45
    · subst h45
      rw [List.length_cons] at hl
      cases r with
      | nil => exact RRead_N1 va W ha (by simp) rfl
      | cons c s =>
        by_cases h48 : c = 48
        · subst h48
          rw [show readOf (45 :: 48 :: s) = none from read_48 s, readP_none]
          exact RRead_N2 va W ha (by omega) (by simp) rfl
        · exact RRead_N va W ha (by omega) (by simp) rfl h48
    · by_cases h48 : b = 48
      · rcases Nat.lt_or_ge 1 (b :: r).length with h1 | h1
        · rw [show readOf (b :: r) = none from read_lead h48 h1, readP_none]
          exact RRead_P0 va W ha hl (by simp) rfl h45 h48 h1
        · exact RRead_Q va W ha hl (by simp) rfl h45 h48 h1 (.inr h1)
      · exact RRead_P va W ha hl (by simp) rfl h45 h48 (.inl h48)
end Go.Proofs.YtdofolejfdfocaaDoor
