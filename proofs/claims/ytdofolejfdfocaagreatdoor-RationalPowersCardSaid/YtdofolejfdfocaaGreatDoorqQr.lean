/- Texts in the engine: what the operations on strings give, and the contracts of the functions that read and write integers. -/
import Derived.Test.YtdofolejfdfocaaGreatDoorqCut
import Derived.Test.YtdofolejfdfocaaGreatDoorqTx
import Derived.Test.YtdofolejfdfocaaGreatDoorqQd
import Derived.Test.YtdofolejfdfocaaGreatDoorqCon
namespace Go.Proofs.YtdofolejfdfocaaGreatDoor
open Go.RowKit Go.Lib

theorem pow_nine {l K : Nat} (h : l ≤ 9 * K) : 10 ^ l ≤ 4294967296 ^ K := by
  have h1 : 10 ^ l ≤ 10 ^ (9 * K) := Nat.pow_le_pow_right (by decide) h
  refine Nat.le_trans h1 ?_
  rw [Nat.pow_mul]
  exact Nat.pow_le_pow_left (by decide) _
section
variable {ρ : Operand → Value} {w : World} {x y : Operand} {a b : List UInt8}
theorem h_lenS (hx : (eqF (.string ⟨a.toArray⟩)).p (ρ x) w) : Yld (.call { callee := .builtin .len, args := #[x], argTypes := #[9] }) ρ w (eqF (.int .i64 (a.length : Int))) := by
  have hx : ρ x = .string ⟨a.toArray⟩ := hx
  have hs := bytes_size a
  exact yld_mk fun o ho => by unfold execOp; rw [ho]; simp [go_sem, hx, hs]
theorem h_addS (hl : a.length + b.length ≤ 1000000) (hx : (eqF (.string ⟨a.toArray⟩)).p (ρ x) w) (hy : (eqF (.string ⟨b.toArray⟩)).p (ρ y) w) : Yld (.binOp .add 9 x y 9) ρ w (eqF (.string ⟨(a ++ b).toArray⟩)) := by
  have hx : ρ x = .string ⟨a.toArray⟩ := hx
  have hy : ρ y = .string ⟨b.toArray⟩ := hy
  have e : (ByteArray.mk a.toArray) ++ (ByteArray.mk b.toArray) = ⟨(a ++ b).toArray⟩ := by
    apply ByteArray.ext
    simp [ByteArray.data_append]
  exact yld_mk fun o ho => by unfold execOp; rw [ho]; simp [go_sem, hx, hy, e]; omega
theorem h_eqlS {r : Bool} (hr : decide (a = b) = r) (hx : (eqF (.string ⟨a.toArray⟩)).p (ρ x) w) (hy : (eqF (.string ⟨b.toArray⟩)).p (ρ y) w) : Yld (.binOp .eql 9 x y 9) ρ w (eqF (.bool r)) := by
  have hx : ρ x = .string ⟨a.toArray⟩ := hx
  have hy : ρ y = .string ⟨b.toArray⟩ := hy
  have e : (a == b) = r := by rw [← hr, Bool.eq_iff_iff]; simp
  exact yld_mk fun o ho => by unfold execOp; rw [ho]; simp [go_sem, hx, hy, e]
end
theorem read_sm {l : List UInt8} {z : Int} (h : readOf l = some z) (hl : l.length ≤ 2000) : Sm z 250 := by
  have e := text_readOf h
  have hd : z.natAbs < 10 ^ l.length := by
    have h1 : decDigits z.natAbs = l ∨ 45 :: decDigits z.natAbs = l := by
      rw [e]; unfold textZ
      split
      · exact .inr rfl
      · exact .inl rfl
    have h2 := dv_lt (decDigits z.natAbs) (dec_isD _)
    rw [dv_dec] at h2
    refine Nat.lt_of_lt_of_le h2 (Nat.pow_le_pow_right (by decide) ?_)
    rcases h1 with h1 | h1
    · rw [h1]; exact Nat.le_refl _
    · rw [← h1]; simp
  exact Nat.lt_of_lt_of_le hd (pow_nine (by omega))
section
variable {w : World} {va : Value} {l : List UInt8} {z : Int}
theorem gives_read {z ec : Int} {w : World} {e : Ending} {w' : World} (h : GivesRead z ec w e w') : GivesP (tup2F (intF z) (eqF (.int .i64 ec))) w e w' := by
  obtain ⟨v, h1, h2, h3⟩ := h
  exact ⟨_, h1, ⟨_, _, rfl, h2, rfl⟩, h3⟩
theorem kReadS (h : readOf l = some z) (hl : l.length ≤ 2000) (hv : (eqF (.string ⟨l.toArray⟩)).p va w) : Calls Tryz.prog 63 #[va] w (GivesP (tup2F (intF z) (eqF (.int .i64 0))) w) := by
  have hv : va = .string ⟨l.toArray⟩ := hv
  rw [hv]
  have := Read_any l hl w
  rw [h] at this
  exact this.mono fun _ _ => gives_read
theorem kReadN (h : readOf l = none) (hl : l.length ≤ 2000) (hv : (eqF (.string ⟨l.toArray⟩)).p va w) : Calls Tryz.prog 63 #[va] w (GivesP (tup2F (intF 0) (eqF (.int .i64 4))) w) := by
  have hv : va = .string ⟨l.toArray⟩ := hv
  rw [hv]
  have := Read_any l hl w
  rw [h] at this
  exact this.mono fun _ _ => gives_read
theorem kCutN (h : Lib.indexByte l 47 = -1) {vb : Value} (hv : (eqF (.string ⟨l.toArray⟩)).p va w) (hb : (eqF (.string ⟨#[47]⟩)).p vb w) : Calls Tryz.prog 62 #[va, vb] w (GivesP (tup3F (eqF (.string ⟨l.toArray⟩)) (eqF (.string ⟨#[]⟩)) (eqF (.bool false))) w) := by
  have hv : va = .string ⟨l.toArray⟩ := hv
  have hb : vb = .string ⟨#[47]⟩ := hb
  rw [hv, hb]
  exact Cut_none l h w
theorem kCutS {k : Nat} (h : Lib.indexByte l 47 = (k : Int)) (hl : l.length ≤ 2000) {vb : Value} (hv : (eqF (.string ⟨l.toArray⟩)).p va w) (hb : (eqF (.string ⟨#[47]⟩)).p vb w) : Calls Tryz.prog 62 #[va, vb] w (GivesP (tup3F (eqF (.string ⟨(l.take k).toArray⟩)) (eqF (.string ⟨(l.drop (k + 1)).toArray⟩)) (eqF (.bool true))) w) := by
  have hv : va = .string ⟨l.toArray⟩ := hv
  have hb : vb = .string ⟨#[47]⟩ := hb
  rw [hv, hb]
  exact Cut_some l k h (by omega) w
theorem take_len {k : Nat} (hl : l.length ≤ 2000) : (l.take k).length ≤ 2000 := by rw [List.length_take]; omega
theorem drop_len {k : Nat} (hl : l.length ≤ 2000) : (l.drop k).length ≤ 2000 := by rw [List.length_drop]; omega
end
end Go.Proofs.YtdofolejfdfocaaGreatDoor
namespace Go.Proofs.YtdofolejfdfocaaGreatDoor
open Go.RowKit

theorem sign_le {q : Int} (h : q ≤ 0) : Int.sign q ≤ 0 := by
  rcases Int.lt_or_eq_of_le h with h | h
  · rw [Int.sign_eq_neg_one_of_neg h]; decide
  · rw [h]; decide
set_option maxRecDepth 100000 in
theorem RdQ_Ad {bs : List UInt8} (va : Value) (W : World) (hva : (eqF (.string ⟨List.toArray bs⟩)).p va W) (k : Nat) (_p : Int) (q : Int) (hl : bs.length ≤ 2000) (hk : Lib.indexByte bs 47 = (k : Int)) (r1 : readOf (bs.take k) = none) : Calls Tryz.prog 34 #[va] W (GivesP (tup2F (pairF 0 0) (eqF (.int .i64 4))) W) := by
  let E : List PF := [(eqF (.string ⟨List.toArray bs⟩)), (eqF (.int .i64 (bs.length : Int))), (eqF (.string ⟨List.toArray (bs.take k)⟩)), (eqF (.string ⟨List.toArray (bs.drop (k + 1))⟩)), (intF 0), (pairF 0 0)]
  let EB : List CF := [zeroQF, zeroIF, (boxIF 0), (boxQF 0 0)]
  exact auto_calls (E := E) (EB := EB) (fs := [(.ref 0)]) (r := (.tup2 (.ref 5) (.int .i64 4)))
   { pures := [p1 (.blt .len [9]) (.ref 0) (.ref 1) fun _ _ _ _ hx => h_lenS hx,
      p2 (.bin .gtr 3 3) (.ref 1) (.int .i64 2000) (.bool false) fun _ _ _ _ _ hx hy => h_gtr (r := false) (by simp; omega) hx hy,
      p0 (.bld 29 []) (.ref 5) fun _ _ _ => h_buildQ0],
     calls := [c2 62 (.ref 0) (.str { data := #[47] }) (.tup3 (.ref 2) (.ref 3) (.bool true)) fun w v0 v1 hb h0 h1 => kCutS hk hl h0 h1,
      c1 63 (.ref 2) (.tup2 (.ref 4) (.int .i64 4)) fun w v0 hb h0 => kReadN r1 (take_len hl) h0],
     loads := [⟨29, 0, 3, (.ref 5), fun w q h => loadQ_all w q h⟩],
     allocs := [⟨29, 0, _, allocQ_run, allocQ_old⟩,
      ⟨27, 1, _, allocI_run, allocI_old⟩],
     stores := [⟨27, 0, 1, (.ref 4), 2, (storeI_zero _)⟩,
      ⟨29, 0, 0, (.ref 5), 3, storeQ_zero⟩] }
   Tryz.func34 ⟨hva, trivial⟩ (by kernel_rfl)
set_option maxRecDepth 100000 in
theorem RdQ_Bd {bs : List UInt8} (va : Value) (W : World) (hva : (eqF (.string ⟨List.toArray bs⟩)).p va W) (k : Nat) (p : Int) (q : Int) (hl : bs.length ≤ 2000) (hk : Lib.indexByte bs 47 = (k : Int)) (r1 : readOf (bs.take k) = some p) (r2 : readOf (bs.drop (k + 1)) = none) : Calls Tryz.prog 34 #[va] W (GivesP (tup2F (pairF 0 0) (eqF (.int .i64 4))) W) := by
  let E : List PF := [(eqF (.string ⟨List.toArray bs⟩)), (eqF (.int .i64 (bs.length : Int))), (eqF (.string ⟨List.toArray (bs.take k)⟩)), (eqF (.string ⟨List.toArray (bs.drop (k + 1))⟩)), (intF p), (intF 0), (pairF 0 0)]
  let EB : List CF := [zeroQF, zeroIF, (boxIF p), (boxIF 0), (boxQF 0 0)]
  exact auto_calls (E := E) (EB := EB) (fs := [(.ref 0)]) (r := (.tup2 (.ref 6) (.int .i64 4)))
   { pures := [p1 (.blt .len [9]) (.ref 0) (.ref 1) fun _ _ _ _ hx => h_lenS hx,
      p2 (.bin .gtr 3 3) (.ref 1) (.int .i64 2000) (.bool false) fun _ _ _ _ _ hx hy => h_gtr (r := false) (by simp; omega) hx hy,
      p0 (.bld 29 []) (.ref 6) fun _ _ _ => h_buildQ0],
     calls := [c2 62 (.ref 0) (.str { data := #[47] }) (.tup3 (.ref 2) (.ref 3) (.bool true)) fun w v0 v1 hb h0 h1 => kCutS hk hl h0 h1,
      c1 63 (.ref 2) (.tup2 (.ref 4) (.int .i64 0)) fun w v0 hb h0 => kReadS r1 (take_len hl) h0,
      c1 63 (.ref 3) (.tup2 (.ref 5) (.int .i64 4)) fun w v0 hb h0 => kReadN r2 (drop_len hl) h0],
     loads := [⟨29, 0, 4, (.ref 6), fun w q h => loadQ_all w q h⟩],
     allocs := [⟨29, 0, _, allocQ_run, allocQ_old⟩,
      ⟨27, 1, _, allocI_run, allocI_old⟩],
     stores := [⟨27, 0, 1, (.ref 4), 2, (storeI_zero _)⟩,
      ⟨27, 0, 1, (.ref 5), 3, (storeI_zero _)⟩,
      ⟨29, 0, 0, (.ref 6), 4, storeQ_zero⟩] }
   Tryz.func34 ⟨hva, trivial⟩ (by kernel_rfl)
set_option maxRecDepth 100000 in
theorem RdQ_Cd {bs : List UInt8} (va : Value) (W : World) (hva : (eqF (.string ⟨List.toArray bs⟩)).p va W) (k : Nat) (p : Int) (q : Int) (hl : bs.length ≤ 2000) (hk : Lib.indexByte bs 47 = (k : Int)) (r1 : readOf (bs.take k) = some p) (r2 : readOf (bs.drop (k + 1)) = some q) (r3 : q ≤ 0) : Calls Tryz.prog 34 #[va] W (GivesP (tup2F (pairF 0 0) (eqF (.int .i64 4))) W) := by
  let E : List PF := [(eqF (.string ⟨List.toArray bs⟩)), (eqF (.int .i64 (bs.length : Int))), (eqF (.string ⟨List.toArray (bs.take k)⟩)), (eqF (.string ⟨List.toArray (bs.drop (k + 1))⟩)), (intF p), (intF q), (eqF (.int .i64 (Int.sign q))), (pairF 0 0)]
  let EB : List CF := [zeroQF, zeroIF, (boxIF p), (boxIF q), (boxQF 0 0)]
  exact auto_calls (E := E) (EB := EB) (fs := [(.ref 0)]) (r := (.tup2 (.ref 7) (.int .i64 4)))
   { pures := [p1 (.blt .len [9]) (.ref 0) (.ref 1) fun _ _ _ _ hx => h_lenS hx,
      p2 (.bin .gtr 3 3) (.ref 1) (.int .i64 2000) (.bool false) fun _ _ _ _ _ hx hy => h_gtr (r := false) (by simp; omega) hx hy,
      p2 (.bin .leq 3 3) (.ref 6) (.int .i64 0) (.bool true) fun _ _ _ _ _ hx hy => h_leq (r := true) (by simp only [decide_eq_true_eq]; exact sign_le r3) hx hy,
      p0 (.bld 29 []) (.ref 7) fun _ _ _ => h_buildQ0],
     calls := [c2 62 (.ref 0) (.str { data := #[47] }) (.tup3 (.ref 2) (.ref 3) (.bool true)) fun w v0 v1 hb h0 h1 => kCutS hk hl h0 h1,
      c1 63 (.ref 2) (.tup2 (.ref 4) (.int .i64 0)) fun w v0 hb h0 => kReadS r1 (take_len hl) h0,
      c1 63 (.ref 3) (.tup2 (.ref 5) (.int .i64 0)) fun w v0 hb h0 => kReadS r2 (drop_len hl) h0,
      c1 46 (.ref 5) (.ref 6) fun w v0 hb h0 => kSign h0 (read_sm r2 (drop_len hl)) (by first | decide | assumption | omega)],
     loads := [⟨27, 0, 3, (.ref 5), fun w q h => loadI_int w q h⟩,
      ⟨29, 0, 4, (.ref 7), fun w q h => loadQ_all w q h⟩],
     allocs := [⟨29, 0, _, allocQ_run, allocQ_old⟩,
      ⟨27, 1, _, allocI_run, allocI_old⟩],
     stores := [⟨27, 0, 1, (.ref 4), 2, (storeI_zero _)⟩,
      ⟨27, 0, 1, (.ref 5), 3, (storeI_zero _)⟩,
      ⟨29, 0, 0, (.ref 7), 4, storeQ_zero⟩] }
   Tryz.func34 ⟨hva, trivial⟩ (by kernel_rfl)
set_option maxRecDepth 100000 in
theorem RdQ_Dd {bs : List UInt8} (va : Value) (W : World) (hva : (eqF (.string ⟨List.toArray bs⟩)).p va W) (k : Nat) (p : Int) (q : Int) (hl : bs.length ≤ 2000) (hk : Lib.indexByte bs 47 = (k : Int)) (r1 : readOf (bs.take k) = some p) (r2 : readOf (bs.drop (k + 1)) = some q) (r3 : 0 < q) : Calls Tryz.prog 34 #[va] W (GivesP (tup2F (ratF (Rat.divInt p q)) (eqF (.int .i64 0))) W) := by
  let E : List PF := [(eqF (.string ⟨List.toArray bs⟩)), (eqF (.int .i64 (bs.length : Int))), (eqF (.string ⟨List.toArray (bs.take k)⟩)), (eqF (.string ⟨List.toArray (bs.drop (k + 1))⟩)), (intF p), (intF q), (eqF (.int .i64 (Int.sign q))), (ratF (Rat.divInt p q))]
  let EB : List CF := [zeroQF, zeroIF, (boxIF p), (boxIF q), (boxQ (Rat.divInt p q))]
  exact auto_calls (E := E) (EB := EB) (fs := [(.ref 0)]) (r := (.tup2 (.ref 7) (.int .i64 0)))
   { pures := [p1 (.blt .len [9]) (.ref 0) (.ref 1) fun _ _ _ _ hx => h_lenS hx,
      p2 (.bin .gtr 3 3) (.ref 1) (.int .i64 2000) (.bool false) fun _ _ _ _ _ hx hy => h_gtr (r := false) (by simp; omega) hx hy,
      p2 (.bin .leq 3 3) (.ref 6) (.int .i64 0) (.bool false) fun _ _ _ _ _ hx hy => h_leq (r := false) (by rw [Int.sign_eq_one_of_pos r3]; rfl) hx hy],
     calls := [c2 62 (.ref 0) (.str { data := #[47] }) (.tup3 (.ref 2) (.ref 3) (.bool true)) fun w v0 v1 hb h0 h1 => kCutS hk hl h0 h1,
      c1 63 (.ref 2) (.tup2 (.ref 4) (.int .i64 0)) fun w v0 hb h0 => kReadS r1 (take_len hl) h0,
      c1 63 (.ref 3) (.tup2 (.ref 5) (.int .i64 0)) fun w v0 hb h0 => kReadS r2 (drop_len hl) h0,
      c1 46 (.ref 5) (.ref 6) fun w v0 hb h0 => kSign h0 (read_sm r2 (drop_len hl)) (by first | decide | assumption | omega),
      c2 12 (.ref 4) (.ref 5) (.tup2 (.ref 7) (.int .i64 0)) fun w v0 v1 hb h0 h1 => kQOf h0 h1 (read_sm r1 (take_len hl)) (read_sm r2 (drop_len hl)) (by omega) (by omega) (Int.ne_of_gt r3)],
     loads := [⟨27, 0, 3, (.ref 5), fun w q h => loadI_int w q h⟩,
      ⟨27, 0, 2, (.ref 4), fun w q h => loadI_int w q h⟩,
      ⟨29, 0, 4, (.ref 7), fun w q h => loadQ_all w q h⟩],
     allocs := [⟨29, 0, _, allocQ_run, allocQ_old⟩,
      ⟨27, 1, _, allocI_run, allocI_old⟩],
     stores := [⟨27, 0, 1, (.ref 4), 2, (storeI_zero _)⟩,
      ⟨27, 0, 1, (.ref 5), 3, (storeI_zero _)⟩,
      ⟨29, 0, 0, (.ref 7), 4, storeQ_zero⟩] }
   Tryz.func34 ⟨hva, trivial⟩ (by kernel_rfl)
set_option maxRecDepth 100000 in
theorem RdQ_An {bs : List UInt8} (va : Value) (W : World) (hva : (eqF (.string ⟨List.toArray bs⟩)).p va W) (_k : Nat) (_p : Int) (q : Int) (hl : bs.length ≤ 2000) (hk : Lib.indexByte bs 47 = -1) (r1 : readOf bs = none) : Calls Tryz.prog 34 #[va] W (GivesP (tup2F (pairF 0 0) (eqF (.int .i64 4))) W) := by
  let E : List PF := [(eqF (.string ⟨List.toArray bs⟩)), (eqF (.int .i64 (bs.length : Int))), (intF 0), (pairF 0 0)]
  let EB : List CF := [zeroQF, zeroIF, (boxIF 0), (boxQF 0 0)]
  exact auto_calls (E := E) (EB := EB) (fs := [(.ref 0)]) (r := (.tup2 (.ref 3) (.int .i64 4)))
   { pures := [p1 (.blt .len [9]) (.ref 0) (.ref 1) fun _ _ _ _ hx => h_lenS hx,
      p2 (.bin .gtr 3 3) (.ref 1) (.int .i64 2000) (.bool false) fun _ _ _ _ _ hx hy => h_gtr (r := false) (by simp; omega) hx hy,
      p0 (.bld 29 []) (.ref 3) fun _ _ _ => h_buildQ0],
     calls := [c2 62 (.ref 0) (.str { data := #[47] }) (.tup3 (.ref 0) (.str ⟨#[]⟩) (.bool false)) fun w v0 v1 hb h0 h1 => kCutN hk h0 h1,
      c1 63 (.ref 0) (.tup2 (.ref 2) (.int .i64 4)) fun w v0 hb h0 => kReadN r1 hl h0],
     loads := [⟨29, 0, 3, (.ref 3), fun w q h => loadQ_all w q h⟩],
     allocs := [⟨29, 0, _, allocQ_run, allocQ_old⟩,
      ⟨27, 1, _, allocI_run, allocI_old⟩],
     stores := [⟨27, 0, 1, (.ref 2), 2, (storeI_zero _)⟩,
      ⟨29, 0, 0, (.ref 3), 3, storeQ_zero⟩] }
   Tryz.func34 ⟨hva, trivial⟩ (by kernel_rfl)
set_option maxRecDepth 100000 in
theorem RdQ_Bn {bs : List UInt8} (va : Value) (W : World) (hva : (eqF (.string ⟨List.toArray bs⟩)).p va W) (_k : Nat) (p : Int) (q : Int) (hl : bs.length ≤ 2000) (hk : Lib.indexByte bs 47 = -1) (r1 : readOf bs = some p) (r2 : readOf [49] = none) : Calls Tryz.prog 34 #[va] W (GivesP (tup2F (pairF 0 0) (eqF (.int .i64 4))) W) := by
  let E : List PF := [(eqF (.string ⟨List.toArray bs⟩)), (eqF (.int .i64 (bs.length : Int))), (intF p), (intF 0), (pairF 0 0)]
  let EB : List CF := [zeroQF, zeroIF, (boxIF p), (boxIF 0), (boxQF 0 0)]
  exact auto_calls (E := E) (EB := EB) (fs := [(.ref 0)]) (r := (.tup2 (.ref 4) (.int .i64 4)))
   { pures := [p1 (.blt .len [9]) (.ref 0) (.ref 1) fun _ _ _ _ hx => h_lenS hx,
      p2 (.bin .gtr 3 3) (.ref 1) (.int .i64 2000) (.bool false) fun _ _ _ _ _ hx hy => h_gtr (r := false) (by simp; omega) hx hy,
      p0 (.bld 29 []) (.ref 4) fun _ _ _ => h_buildQ0],
     calls := [c2 62 (.ref 0) (.str { data := #[47] }) (.tup3 (.ref 0) (.str ⟨#[]⟩) (.bool false)) fun w v0 v1 hb h0 h1 => kCutN hk h0 h1,
      c1 63 (.ref 0) (.tup2 (.ref 2) (.int .i64 0)) fun w v0 hb h0 => kReadS r1 hl h0,
      c1 63 (.str { data := #[49] }) (.tup2 (.ref 3) (.int .i64 4)) fun w v0 hb h0 => kReadN r2 (by decide) h0],
     loads := [⟨29, 0, 4, (.ref 4), fun w q h => loadQ_all w q h⟩],
     allocs := [⟨29, 0, _, allocQ_run, allocQ_old⟩,
      ⟨27, 1, _, allocI_run, allocI_old⟩],
     stores := [⟨27, 0, 1, (.ref 2), 2, (storeI_zero _)⟩,
      ⟨27, 0, 1, (.ref 3), 3, (storeI_zero _)⟩,
      ⟨29, 0, 0, (.ref 4), 4, storeQ_zero⟩] }
   Tryz.func34 ⟨hva, trivial⟩ (by kernel_rfl)
set_option maxRecDepth 100000 in
theorem RdQ_Cn {bs : List UInt8} (va : Value) (W : World) (hva : (eqF (.string ⟨List.toArray bs⟩)).p va W) (_k : Nat) (p : Int) (q : Int) (hl : bs.length ≤ 2000) (hk : Lib.indexByte bs 47 = -1) (r1 : readOf bs = some p) (r2 : readOf [49] = some q) (r3 : q ≤ 0) : Calls Tryz.prog 34 #[va] W (GivesP (tup2F (pairF 0 0) (eqF (.int .i64 4))) W) := by
  let E : List PF := [(eqF (.string ⟨List.toArray bs⟩)), (eqF (.int .i64 (bs.length : Int))), (intF p), (intF q), (eqF (.int .i64 (Int.sign q))), (pairF 0 0)]
  let EB : List CF := [zeroQF, zeroIF, (boxIF p), (boxIF q), (boxQF 0 0)]
  exact auto_calls (E := E) (EB := EB) (fs := [(.ref 0)]) (r := (.tup2 (.ref 5) (.int .i64 4)))
   { pures := [p1 (.blt .len [9]) (.ref 0) (.ref 1) fun _ _ _ _ hx => h_lenS hx,
      p2 (.bin .gtr 3 3) (.ref 1) (.int .i64 2000) (.bool false) fun _ _ _ _ _ hx hy => h_gtr (r := false) (by simp; omega) hx hy,
      p2 (.bin .leq 3 3) (.ref 4) (.int .i64 0) (.bool true) fun _ _ _ _ _ hx hy => h_leq (r := true) (by simp only [decide_eq_true_eq]; exact sign_le r3) hx hy,
      p0 (.bld 29 []) (.ref 5) fun _ _ _ => h_buildQ0],
     calls := [c2 62 (.ref 0) (.str { data := #[47] }) (.tup3 (.ref 0) (.str ⟨#[]⟩) (.bool false)) fun w v0 v1 hb h0 h1 => kCutN hk h0 h1,
      c1 63 (.ref 0) (.tup2 (.ref 2) (.int .i64 0)) fun w v0 hb h0 => kReadS r1 hl h0,
      c1 63 (.str { data := #[49] }) (.tup2 (.ref 3) (.int .i64 0)) fun w v0 hb h0 => kReadS r2 (by decide) h0,
      c1 46 (.ref 3) (.ref 4) fun w v0 hb h0 => kSign h0 (read_sm r2 (by decide)) (by first | decide | assumption | omega)],
     loads := [⟨27, 0, 3, (.ref 3), fun w q h => loadI_int w q h⟩,
      ⟨29, 0, 4, (.ref 5), fun w q h => loadQ_all w q h⟩],
     allocs := [⟨29, 0, _, allocQ_run, allocQ_old⟩,
      ⟨27, 1, _, allocI_run, allocI_old⟩],
     stores := [⟨27, 0, 1, (.ref 2), 2, (storeI_zero _)⟩,
      ⟨27, 0, 1, (.ref 3), 3, (storeI_zero _)⟩,
      ⟨29, 0, 0, (.ref 5), 4, storeQ_zero⟩] }
   Tryz.func34 ⟨hva, trivial⟩ (by kernel_rfl)
set_option maxRecDepth 100000 in
theorem RdQ_Dn {bs : List UInt8} (va : Value) (W : World) (hva : (eqF (.string ⟨List.toArray bs⟩)).p va W) (_k : Nat) (p : Int) (q : Int) (hl : bs.length ≤ 2000) (hk : Lib.indexByte bs 47 = -1) (r1 : readOf bs = some p) (r2 : readOf [49] = some q) (r3 : 0 < q) : Calls Tryz.prog 34 #[va] W (GivesP (tup2F (ratF (Rat.divInt p q)) (eqF (.int .i64 0))) W) := by
  let E : List PF := [(eqF (.string ⟨List.toArray bs⟩)), (eqF (.int .i64 (bs.length : Int))), (intF p), (intF q), (eqF (.int .i64 (Int.sign q))), (ratF (Rat.divInt p q))]
  let EB : List CF := [zeroQF, zeroIF, (boxIF p), (boxIF q), (boxQ (Rat.divInt p q))]
  exact auto_calls (E := E) (EB := EB) (fs := [(.ref 0)]) (r := (.tup2 (.ref 5) (.int .i64 0)))
   { pures := [p1 (.blt .len [9]) (.ref 0) (.ref 1) fun _ _ _ _ hx => h_lenS hx,
      p2 (.bin .gtr 3 3) (.ref 1) (.int .i64 2000) (.bool false) fun _ _ _ _ _ hx hy => h_gtr (r := false) (by simp; omega) hx hy,
      p2 (.bin .leq 3 3) (.ref 4) (.int .i64 0) (.bool false) fun _ _ _ _ _ hx hy => h_leq (r := false) (by rw [Int.sign_eq_one_of_pos r3]; rfl) hx hy],
     calls := [c2 62 (.ref 0) (.str { data := #[47] }) (.tup3 (.ref 0) (.str ⟨#[]⟩) (.bool false)) fun w v0 v1 hb h0 h1 => kCutN hk h0 h1,
      c1 63 (.ref 0) (.tup2 (.ref 2) (.int .i64 0)) fun w v0 hb h0 => kReadS r1 hl h0,
      c1 63 (.str { data := #[49] }) (.tup2 (.ref 3) (.int .i64 0)) fun w v0 hb h0 => kReadS r2 (by decide) h0,
      c1 46 (.ref 3) (.ref 4) fun w v0 hb h0 => kSign h0 (read_sm r2 (by decide)) (by first | decide | assumption | omega),
      c2 12 (.ref 2) (.ref 3) (.tup2 (.ref 5) (.int .i64 0)) fun w v0 v1 hb h0 h1 => kQOf h0 h1 (read_sm r1 hl) (read_sm r2 (by decide)) (by omega) (by omega) (Int.ne_of_gt r3)],
     loads := [⟨27, 0, 3, (.ref 3), fun w q h => loadI_int w q h⟩,
      ⟨27, 0, 2, (.ref 2), fun w q h => loadI_int w q h⟩,
      ⟨29, 0, 4, (.ref 5), fun w q h => loadQ_all w q h⟩],
     allocs := [⟨29, 0, _, allocQ_run, allocQ_old⟩,
      ⟨27, 1, _, allocI_run, allocI_old⟩],
     stores := [⟨27, 0, 1, (.ref 2), 2, (storeI_zero _)⟩,
      ⟨27, 0, 1, (.ref 3), 3, (storeI_zero _)⟩,
      ⟨29, 0, 0, (.ref 5), 4, storeQ_zero⟩] }
   Tryz.func34 ⟨hva, trivial⟩ (by kernel_rfl)
end Go.Proofs.YtdofolejfdfocaaGreatDoor
namespace Go.Proofs.YtdofolejfdfocaaGreatDoor
open Go.RowKit

open Go.Lib
theorem text_zero : textZ 0 = [48] := by
  unfold textZ
  rw [if_neg (by decide)]
  exact dec_small (by decide)
theorem kPower {x : Rat} {i : Nat} {z : Int} {va vb : Value} {w : World} (ha : (ratF x).p va w) (hb : (eqF (.int .i64 z)).p vb w) (sx : RSm x i) (h0 : 0 ≤ z) (h1 : z ≤ 256) (hi : i * z.toNat + 1 ≤ 100) : Calls Tryz.prog 70 #[va, vb] w (GivesP (ratF (x ^ z.toNat)) w) := by
  have hb : vb = .int .i64 z := hb
  rw [hb]
  have := power_any va z.toNat w ha sx (by omega) hi
  rwa [show ((z.toNat : Nat) : Int) = z by omega] at this
theorem powZ_sm {x : Rat} {i n : Nat} (sx : RSm x i) (hi : i * n + 1 ≤ 100) : RSm (x ^ n) 100 := powQ_sm sx (Nat.le_refl n) hi
set_option maxRecDepth 100000 in
theorem PowQ_far {x : Rat} {i : Nat} {z : Int} (va : Value) (W : World) (hva : (ratF x).p va W) (_sx : RSm x i) (_hi : i ≤ 100) (_z0 : -9223372036854775808 < z) (_z1 : z ≤ 9223372036854775807) (_zc : 256 < z) : Calls Tryz.prog 40 #[va, .int .i64 z] W (GivesP (tup2F (pairF 0 0) (eqF (.int .i64 1))) W) := by
  let E : List PF := [(ratF x), (eqF (.int .i64 z)), (pairF 0 0)]
  let EB : List CF := [(boxQ x), zeroQF, (boxQF 0 0)]
  exact auto_calls (E := E) (EB := EB) (fs := [(.ref 0), (.ref 1)]) (r := (.tup2 (.ref 2) (.int .i64 1)))
   { pures := [p2 (.bin .lss 3 3) (.ref 1) (.int .i64 (-256)) (.bool false) fun _ _ _ _ _ hx hy => h_lss (r := false) (by simp; omega) hx hy,
      p2 (.bin .gtr 3 3) (.ref 1) (.int .i64 256) (.bool true) fun _ _ _ _ _ hx hy => h_gtr (r := true) (by simp; omega) hx hy,
      p0 (.bld 29 []) (.ref 2) fun _ _ _ => h_buildQ0],
     loads := [⟨29, 0, 2, (.ref 2), fun w q h => loadQ_all w q h⟩],
     allocs := [⟨29, 1, _, allocQ_run, allocQ_old⟩],
     boxes := [⟨29, (.ref 0), 0, fun w v h => boxQ_run w v h⟩],
     stores := [⟨29, 0, 1, (.ref 2), 2, storeQ_zero⟩] }
   Tryz.func40 ⟨hva, rfl, trivial⟩ (by kernel_rfl)
set_option maxRecDepth 100000 in
theorem PowQ_low {x : Rat} {i : Nat} {z : Int} (va : Value) (W : World) (hva : (ratF x).p va W) (_sx : RSm x i) (_hi : i ≤ 100) (_z0 : -9223372036854775808 < z) (_z1 : z ≤ 9223372036854775807) (_zc : z < -256) : Calls Tryz.prog 40 #[va, .int .i64 z] W (GivesP (tup2F (pairF 0 0) (eqF (.int .i64 1))) W) := by
  let E : List PF := [(ratF x), (eqF (.int .i64 z)), (pairF 0 0)]
  let EB : List CF := [(boxQ x), zeroQF, (boxQF 0 0)]
  exact auto_calls (E := E) (EB := EB) (fs := [(.ref 0), (.ref 1)]) (r := (.tup2 (.ref 2) (.int .i64 1)))
   { pures := [p2 (.bin .lss 3 3) (.ref 1) (.int .i64 (-256)) (.bool true) fun _ _ _ _ _ hx hy => h_lss (r := true) (by simp; omega) hx hy,
      p0 (.bld 29 []) (.ref 2) fun _ _ _ => h_buildQ0],
     loads := [⟨29, 0, 2, (.ref 2), fun w q h => loadQ_all w q h⟩],
     allocs := [⟨29, 1, _, allocQ_run, allocQ_old⟩],
     boxes := [⟨29, (.ref 0), 0, fun w v h => boxQ_run w v h⟩],
     stores := [⟨29, 0, 1, (.ref 2), 2, storeQ_zero⟩] }
   Tryz.func40 ⟨hva, rfl, trivial⟩ (by kernel_rfl)
set_option maxRecDepth 100000 in
theorem PowQ_non {x : Rat} {i : Nat} {z : Int} (va : Value) (W : World) (hva : (ratF x).p va W) (sx : RSm x i) (_hi : i ≤ 100) (_z0 : -9223372036854775808 < z) (_z1 : z ≤ 9223372036854775807) (_zc : 0 ≤ z ∧ z ≤ 256) (zb : i * z.toNat + 1 ≤ 100) : Calls Tryz.prog 40 #[va, .int .i64 z] W (GivesP (tup2F (ratF (x ^ z.toNat)) (eqF (.int .i64 0))) W) := by
  let E : List PF := [(ratF x), (eqF (.int .i64 z)), (ratF (x ^ z.toNat))]
  let EB : List CF := [(boxQ x), zeroQF, (boxQ (x ^ z.toNat))]
  exact auto_calls (E := E) (EB := EB) (fs := [(.ref 0), (.ref 1)]) (r := (.tup2 (.ref 2) (.int .i64 0)))
   { pures := [p2 (.bin .lss 3 3) (.ref 1) (.int .i64 (-256)) (.bool false) fun _ _ _ _ _ hx hy => h_lss (r := false) (by simp; omega) hx hy,
      p2 (.bin .gtr 3 3) (.ref 1) (.int .i64 256) (.bool false) fun _ _ _ _ _ hx hy => h_gtr (r := false) (by simp; omega) hx hy,
      p2 (.bin .geq 3 3) (.ref 1) (.int .i64 0) (.bool true) fun _ _ _ _ _ hx hy => h_geq (r := true) (by simp; omega) hx hy],
     calls := [c2 70 (.ref 0) (.ref 1) (.ref 2) fun w v0 v1 hb h0 h1 => kPower h0 h1 sx (by omega) (by omega) zb],
     loads := [⟨29, 0, 0, (.ref 0), fun w q h => loadQ_all w q h⟩,
      ⟨29, 0, 2, (.ref 2), fun w q h => loadQ_all w q h⟩],
     allocs := [⟨29, 1, _, allocQ_run, allocQ_old⟩],
     boxes := [⟨29, (.ref 0), 0, fun w v h => boxQ_run w v h⟩],
     stores := [⟨29, 0, 1, (.ref 2), 2, storeQ_zero⟩] }
   Tryz.func40 ⟨hva, rfl, trivial⟩ (by kernel_rfl)
set_option maxRecDepth 100000 in
theorem PowQ_zero {x : Rat} {i : Nat} {z : Int} (va : Value) (W : World) (hva : (ratF x).p va W) (sx : RSm x i) (_hi : i ≤ 100) (_z0 : -9223372036854775808 < z) (_z1 : z ≤ 9223372036854775807) (_zc : -256 ≤ z ∧ z < 0) (nx : x = 0) : Calls Tryz.prog 40 #[va, .int .i64 z] W (GivesP (tup2F (pairF 0 0) (eqF (.int .i64 3))) W) := by
  let E : List PF := [(ratF x), (eqF (.int .i64 z)), (eqF (.int .i64 (cmpR x 0))), (pairF 0 0)]
  let EB : List CF := [(boxQ x), zeroQF, (boxQF 0 0)]
  exact auto_calls (E := E) (EB := EB) (fs := [(.ref 0), (.ref 1)]) (r := (.tup2 (.ref 3) (.int .i64 3)))
   { pures := [p2 (.bin .lss 3 3) (.ref 1) (.int .i64 (-256)) (.bool false) fun _ _ _ _ _ hx hy => h_lss (r := false) (by simp; omega) hx hy,
      p2 (.bin .gtr 3 3) (.ref 1) (.int .i64 256) (.bool false) fun _ _ _ _ _ hx hy => h_gtr (r := false) (by simp; omega) hx hy,
      p2 (.bin .geq 3 3) (.ref 1) (.int .i64 0) (.bool false) fun _ _ _ _ _ hx hy => h_geq (r := false) (by simp; omega) hx hy,
      p2 (.bin .eql 3 3) (.ref 2) (.int .i64 0) (.bool true) fun _ _ _ _ _ hx hy => h_eqlI (r := true) (cmp0_eq nx) hx hy,
      p0 (.bld 29 []) (.ref 3) fun _ _ _ => h_buildQ0],
     calls := [c1 29 (.ref 0) (.ref 2) fun w v0 hb h0 => kQSign h0 sx (by first | decide | assumption | omega)],
     loads := [⟨29, 0, 0, (.ref 0), fun w q h => loadQ_all w q h⟩,
      ⟨29, 0, 2, (.ref 3), fun w q h => loadQ_all w q h⟩],
     allocs := [⟨29, 1, _, allocQ_run, allocQ_old⟩],
     boxes := [⟨29, (.ref 0), 0, fun w v h => boxQ_run w v h⟩],
     stores := [⟨29, 0, 1, (.ref 3), 2, storeQ_zero⟩] }
   Tryz.func40 ⟨hva, rfl, trivial⟩ (by kernel_rfl)
set_option maxRecDepth 100000 in
theorem PowQ_neg {x : Rat} {i : Nat} {z : Int} (va : Value) (W : World) (hva : (ratF x).p va W) (sx : RSm x i) (_hi : i ≤ 100) (_z0 : -9223372036854775808 < z) (_z1 : z ≤ 9223372036854775807) (_zc : -256 ≤ z ∧ z < 0) (nx : x ≠ 0) (zb : i * (-z).toNat + 1 ≤ 100) : Calls Tryz.prog 40 #[va, .int .i64 z] W (GivesP (tup2F (ratF (x⁻¹ ^ (-z).toNat)) (eqF (.int .i64 0))) W) := by
  let E : List PF := [(ratF x), (eqF (.int .i64 z)), (eqF (.int .i64 (cmpR x 0))), (ratF x⁻¹), (eqF (.int .i64 (-z))), (ratF (x⁻¹ ^ (-z).toNat))]
  let EB : List CF := [(boxQ x), zeroQF, (boxQ (x⁻¹ ^ (-z).toNat))]
  exact auto_calls (E := E) (EB := EB) (fs := [(.ref 0), (.ref 1)]) (r := (.tup2 (.ref 5) (.int .i64 0)))
   { pures := [p2 (.bin .lss 3 3) (.ref 1) (.int .i64 (-256)) (.bool false) fun _ _ _ _ _ hx hy => h_lss (r := false) (by simp; omega) hx hy,
      p2 (.bin .gtr 3 3) (.ref 1) (.int .i64 256) (.bool false) fun _ _ _ _ _ hx hy => h_gtr (r := false) (by simp; omega) hx hy,
      p2 (.bin .geq 3 3) (.ref 1) (.int .i64 0) (.bool false) fun _ _ _ _ _ hx hy => h_geq (r := false) (by simp; omega) hx hy,
      p2 (.bin .eql 3 3) (.ref 2) (.int .i64 0) (.bool false) fun _ _ _ _ _ hx hy => h_eqlI (r := false) (cmp0_ne nx) hx hy,
      p1 (.un .neg 3) (.ref 1) (.ref 4) fun _ _ _ _ hx => h_neg (by rw [IntKind.wrap_i64]; omega) hx],
     calls := [c1 29 (.ref 0) (.ref 2) fun w v0 hb h0 => kQSign h0 sx (by first | decide | assumption | omega),
      c1 53 (.ref 0) (.ref 3) fun w v0 hb h0 => kQInv h0 sx (by first | decide | assumption | omega) nx,
      c2 70 (.ref 3) (.ref 4) (.ref 5) fun w v0 v1 hb h0 h1 => kPower h0 h1 sx.inv (by omega) (by omega) zb],
     loads := [⟨29, 0, 0, (.ref 0), fun w q h => loadQ_all w q h⟩,
      ⟨29, 0, 2, (.ref 5), fun w q h => loadQ_all w q h⟩],
     allocs := [⟨29, 1, _, allocQ_run, allocQ_old⟩],
     boxes := [⟨29, (.ref 0), 0, fun w v h => boxQ_run w v h⟩],
     stores := [⟨29, 0, 1, (.ref 5), 2, storeQ_zero⟩] }
   Tryz.func40 ⟨hva, rfl, trivial⟩ (by kernel_rfl)
theorem kTextS {z : Int} {va : Value} {w : World} (ht : P10 w) (ha : (intF z).p va w) (hz : z.natAbs < 1000000000) : Calls Tryz.prog 66 #[va] w (GivesP (eqF (.string ⟨(textZ z).toArray⟩)) w) := by
  rcases Int.lt_trichotomy z 0 with h | h | h
  · have e : z = sgn true z.natAbs := by simp [sgn]; omega
    have ha : IntAt w va (sgn true z.natAbs) := by rw [← e]; exact ha
    refine (Text_small va true z.natAbs w ha (by omega) hz ht).mono ?_
    rintro e w' ⟨rfl, hb⟩
    exact ⟨_, by rw [show textZ z = textB true z.natAbs by simp [textZ, textB, h]], rfl, hb⟩
  · subst h
    refine (Text_zero va w ha).mono ?_
    rintro e w' ⟨rfl, hb⟩
    exact ⟨_, by rw [text_zero], rfl, hb⟩
  · have e : z = sgn false z.natAbs := by simp [sgn]; omega
    have ha : IntAt w va (sgn false z.natAbs) := by rw [← e]; exact ha
    refine (Text_small va false z.natAbs w ha (by omega) hz ht).mono ?_
    rintro e w' ⟨rfl, hb⟩
    exact ⟨_, by rw [show textZ z = textB false z.natAbs by simp [textZ, textB]; omega], rfl, hb⟩
theorem textS_len {z : Int} (hz : z.natAbs < 1000000000) : (textZ z).length ≤ 10 := by
  have h1 := decDigits_length z.natAbs
  have h2 := nDigits_le (x := z.natAbs) 9 hz (by decide)
  unfold textZ
  split
  · simp; omega
  · omega
set_option maxRecDepth 100000 in
theorem TextQ_int {x : Rat} {i : Nat} (va : Value) (W : World) (hva : (ratF x).p va W) (sx : RSm x i) (_hi : i ≤ 100) (ht : P10 W) (tn : x.num.natAbs < 1000000000) (_td : x.den < 1000000000) (d1 : (x.den : Int) = 1) : Calls Tryz.prog 36 #[va] W (GivesP (eqF (.string ⟨List.toArray (textZ x.num)⟩)) W) := by
  let E : List PF := [(ratF x), (intF (x.den : Int)), (intF x.num), (eqF (.string ⟨List.toArray (textZ x.num)⟩))]
  let EB : List CF := [(boxQ x)]
  exact auto_calls (E := E) (EB := EB) (fs := [(.ref 0)]) (r := (.ref 3))
   { calls := [c1 65 (.ref 1) (.bool true) fun w v0 hb h0 => kOneT h0 sx.2 (by first | decide | assumption | omega) d1,
      c1 66 (.ref 2) (.ref 3) fun w v0 hb h0 => kTextS (tab_below ht hb) h0 tn],
     loads := [⟨27, 2, 0, (.ref 1), fun w q h => loadQ_2 w q h⟩,
      ⟨27, 0, 0, (.ref 2), fun w q h => loadQ_0 w q h⟩],
     boxes := [⟨29, (.ref 0), 0, fun w v h => boxQ_run w v h⟩],
     flds := [⟨29, 1, 2, fldQ1⟩,
      ⟨29, 0, 0, fldQ0⟩] }
   Tryz.func36 ⟨hva, trivial⟩ (by kernel_rfl)
set_option maxRecDepth 100000 in
theorem TextQ_frac {x : Rat} {i : Nat} (va : Value) (W : World) (hva : (ratF x).p va W) (sx : RSm x i) (_hi : i ≤ 100) (ht : P10 W) (tn : x.num.natAbs < 1000000000) (_td : x.den < 1000000000) (d1 : (x.den : Int) ≠ 1) : Calls Tryz.prog 36 #[va] W (GivesP (eqF (.string ⟨List.toArray (textZ x.num ++ [47] ++ textZ (x.den : Int))⟩)) W) := by
  let E : List PF := [(ratF x), (intF (x.den : Int)), (intF x.num), (eqF (.string ⟨List.toArray (textZ x.num)⟩)), (eqF (.string ⟨List.toArray ((textZ x.num) ++ [47])⟩)), (eqF (.string ⟨List.toArray (textZ (x.den : Int))⟩)), (eqF (.string ⟨List.toArray (((textZ x.num) ++ [47]) ++ (textZ (x.den : Int)))⟩))]
  let EB : List CF := [(boxQ x)]
  exact auto_calls (E := E) (EB := EB) (fs := [(.ref 0)]) (r := (.ref 6))
   { pures := [p2 (.bin .add 9 9) (.ref 3) (.str { data := #[47] }) (.ref 4) fun _ _ _ _ _ hx hy => h_addS (by have := textS_len tn; simp; omega) hx hy,
      p2 (.bin .add 9 9) (.ref 4) (.ref 5) (.ref 6) fun _ _ _ _ _ hx hy => h_addS (by have h1 := textS_len tn; have h2 := textS_len (z := (x.den : Int)) (by omega); simp; omega) hx hy],
     calls := [c1 65 (.ref 1) (.bool false) fun w v0 hb h0 => kOneF h0 sx.2 (by first | decide | assumption | omega) d1,
      c1 66 (.ref 2) (.ref 3) fun w v0 hb h0 => kTextS (tab_below ht hb) h0 tn,
      c1 66 (.ref 1) (.ref 5) fun w v0 hb h0 => kTextS (tab_below ht hb) h0 (by omega)],
     loads := [⟨27, 2, 0, (.ref 1), fun w q h => loadQ_2 w q h⟩,
      ⟨27, 0, 0, (.ref 2), fun w q h => loadQ_0 w q h⟩],
     boxes := [⟨29, (.ref 0), 0, fun w v h => boxQ_run w v h⟩],
     flds := [⟨29, 1, 2, fldQ1⟩,
      ⟨29, 0, 0, fldQ0⟩] }
   Tryz.func36 ⟨hva, trivial⟩ (by kernel_rfl)
set_option maxRecDepth 100000 in
theorem ValidQ_zero (va : Value) (W : World) (hva : (pairF 0 0).p va W) : Calls Tryz.prog 38 #[va] W (GivesP (eqF (.bool false)) W) := by
  let E : List PF := [(pairF 0 0), (intF 0), (eqF (.int .i64 (Int.sign 0)))]
  let EB : List CF := [(boxQF 0 0)]
  exact auto_calls (E := E) (EB := EB) (fs := [(.ref 0)]) (r := (.bool false))
   { pures := [p2 (.bin .leq 3 3) (.ref 2) (.int .i64 0) (.bool true) fun _ _ _ _ _ hx hy => h_leq (r := true) (by decide) hx hy],
     calls := [c1 68 (.ref 1) (.bool true) fun w v0 hb h0 => kValid h0 (Sm.of 0 (by decide)) (by first | decide | assumption | omega),
      c1 46 (.ref 1) (.ref 2) fun w v0 hb h0 => kSign h0 (Sm.of 0 (by decide)) (by first | decide | assumption | omega)],
     loads := [⟨27, 0, 0, (.ref 1), fun w q h => loadQ_0 w q h⟩,
      ⟨27, 2, 0, (.ref 1), fun w q h => loadQ_2 w q h⟩],
     boxes := [⟨29, (.ref 0), 0, fun w v h => boxQ_run w v h⟩],
     flds := [⟨29, 0, 0, fldQ0⟩,
      ⟨29, 1, 2, fldQ1⟩] }
   Tryz.func38 ⟨hva, trivial⟩ (by kernel_rfl)
end Go.Proofs.YtdofolejfdfocaaGreatDoor
namespace Go.Proofs.YtdofolejfdfocaaGreatDoor
open Go.RowKit

open Go.Lib
theorem made_sm (x y : Int) (h : -9223372036854775808 ≤ x ∧ x ≤ 9223372036854775807 ∧ -9223372036854775808 ≤ y ∧ y ≤ 9223372036854775807 ∧ y ≠ 0) : RSm (Rat.divInt x y) 2 := (RSm.of2 (sm_i64 h.1 h.2.1) (sm_i64 h.2.2.1 h.2.2.2.1) h.2.2.2.2).mono (by decide)
/-- The number that a text denotes. -/
def readQ (bs : List UInt8) : Option Rat :=
  let k := Lib.indexByte bs 47
  match readOf (if k = -1 then bs else bs.take k.toNat), readOf (if k = -1 then [49] else bs.drop (k.toNat + 1)) with
  | some p, some q => if 0 < q then some (Rat.divInt p q) else none
  | _, _ => none
section
variable {w : World} {va vb : Value} {x : Rat} {i : Nat} {z y : Int} {l : List UInt8} {r : Rat}
theorem kPMade (h0 : (eqF (.int .i64 z)).p va w) (h1 : (eqF (.int .i64 y)).p vb w) (z0 : -9223372036854775808 ≤ z) (z1 : z ≤ 9223372036854775807) (y0 : -9223372036854775808 ≤ y) (y1 : y ≤ 9223372036854775807) (ny : y ≠ 0) : Calls Tryz.prog 45 #[va, vb] w (GivesP (ratF (Rat.divInt z y)) w) := by
  have h0 : va = _ := h0
  have h1 : vb = _ := h1
  rw [h0, h1]
  exact MadeP_any w z0 z1 y0 y1 ny
theorem kPowF (ha : (ratF x).p va w) (hb : (eqF (.int .i64 z)).p vb w) (sx : RSm x i) (hi : i ≤ 100) (z0 : -9223372036854775808 < z) (z1 : z ≤ 9223372036854775807) (zc : 256 < z) : Calls Tryz.prog 40 #[va, vb] w (GivesP (tup2F (pairF 0 0) (eqF (.int .i64 1))) w) := by
  have hb : vb = _ := hb
  rw [hb]
  exact PowQ_far va w ha sx hi z0 z1 zc
theorem kPowL (ha : (ratF x).p va w) (hb : (eqF (.int .i64 z)).p vb w) (sx : RSm x i) (hi : i ≤ 100) (z0 : -9223372036854775808 < z) (z1 : z ≤ 9223372036854775807) (zc : z < -256) : Calls Tryz.prog 40 #[va, vb] w (GivesP (tup2F (pairF 0 0) (eqF (.int .i64 1))) w) := by
  have hb : vb = _ := hb
  rw [hb]
  exact PowQ_low va w ha sx hi z0 z1 zc
theorem kPowN (ha : (ratF x).p va w) (hb : (eqF (.int .i64 z)).p vb w) (sx : RSm x i) (hi : i ≤ 100) (z0 : -9223372036854775808 < z) (z1 : z ≤ 9223372036854775807) (zc : 0 ≤ z ∧ z ≤ 256) (zb : i * z.toNat + 1 ≤ 100) : Calls Tryz.prog 40 #[va, vb] w (GivesP (tup2F (ratF (x ^ z.toNat)) (eqF (.int .i64 0))) w) := by
  have hb : vb = _ := hb
  rw [hb]
  exact PowQ_non va w ha sx hi z0 z1 zc zb
theorem kPowZ (ha : (ratF x).p va w) (hb : (eqF (.int .i64 z)).p vb w) (sx : RSm x i) (hi : i ≤ 100) (z0 : -9223372036854775808 < z) (z1 : z ≤ 9223372036854775807) (zc : -256 ≤ z ∧ z < 0) (nx : x = 0) : Calls Tryz.prog 40 #[va, vb] w (GivesP (tup2F (pairF 0 0) (eqF (.int .i64 3))) w) := by
  have hb : vb = _ := hb
  rw [hb]
  exact PowQ_zero va w ha sx hi z0 z1 zc nx
theorem kPowG (ha : (ratF x).p va w) (hb : (eqF (.int .i64 z)).p vb w) (sx : RSm x i) (hi : i ≤ 100) (z0 : -9223372036854775808 < z) (z1 : z ≤ 9223372036854775807) (zc : -256 ≤ z ∧ z < 0) (nx : x ≠ 0) (zb : i * (-z).toNat + 1 ≤ 100) : Calls Tryz.prog 40 #[va, vb] w (GivesP (tup2F (ratF (x⁻¹ ^ (-z).toNat)) (eqF (.int .i64 0))) w) := by
  have hb : vb = _ := hb
  rw [hb]
  exact PowQ_neg va w ha sx hi z0 z1 zc nx zb
theorem kRdQS (h : readQ l = some r) (hl : l.length ≤ 2000) (hv : (eqF (.string ⟨l.toArray⟩)).p va w) : Calls Tryz.prog 34 #[va] w (GivesP (tup2F (ratF r) (eqF (.int .i64 0))) w) := by
  by_cases hk : Lib.indexByte l 47 = -1
  · simp only [readQ, hk, if_true] at h
    split at h
    · rename_i p q h1 h2
      split at h
      · rename_i h3
        injection h with h
        subst h
        exact RdQ_Dn va w hv 0 p q hl hk h1 h2 h3
      · cases h
    · cases h
  · simp only [readQ, hk, if_false] at h
    obtain ⟨k, hk'⟩ : ∃ k : Nat, Lib.indexByte l 47 = (k : Int) := ⟨(Lib.indexByte l 47).toNat, by have := Lib.indexByte_ge l 47; omega⟩
    rw [hk', Int.toNat_natCast] at h
    split at h
    · rename_i p q h1 h2
      split at h
      · rename_i h3
        injection h with h
        subst h
        exact RdQ_Dd va w hv k p q hl hk' h1 h2 h3
      · cases h
    · cases h
theorem kRdQN (h : readQ l = none) (hl : l.length ≤ 2000) (hv : (eqF (.string ⟨l.toArray⟩)).p va w) : Calls Tryz.prog 34 #[va] w (GivesP (tup2F (pairF 0 0) (eqF (.int .i64 4))) w) := by
  by_cases hk : Lib.indexByte l 47 = -1
  · simp only [readQ, hk, if_true] at h
    cases h1 : readOf l with
    | none => exact RdQ_An va w hv 0 0 0 hl hk h1
    | some p =>
      cases h2 : readOf [49] with
      | none => exact RdQ_Bn va w hv 0 p 0 hl hk h1 h2
      | some q =>
        simp only [h1, h2] at h
        split at h
        · cases h
        · rename_i h3
          exact RdQ_Cn va w hv 0 p q hl hk h1 h2 (by omega)
  · simp only [readQ, hk, if_false] at h
    obtain ⟨k, hk'⟩ : ∃ k : Nat, Lib.indexByte l 47 = (k : Int) := ⟨(Lib.indexByte l 47).toNat, by have := Lib.indexByte_ge l 47; omega⟩
    rw [hk', Int.toNat_natCast] at h
    cases h1 : readOf (l.take k) with
    | none => exact RdQ_Ad va w hv k 0 0 hl hk' h1
    | some p =>
      cases h2 : readOf (l.drop (k + 1)) with
      | none => exact RdQ_Bd va w hv k p 0 hl hk' h1 h2
      | some q =>
        simp only [h1, h2] at h
        split at h
        · cases h
        · rename_i h3
          exact RdQ_Cd va w hv k p q hl hk' h1 h2 (by omega)
end
theorem rd_46 : readQ [52, 47, 54] = some (Rat.divInt 4 6) := by rfl
theorem rd_m0 : readQ [45, 48] = none := by rfl
theorem rd_10 : readQ [49, 47, 48] = none := by rfl
theorem rd_2m4 : readQ [50, 47, 45, 52] = none := by rfl
theorem san_t1 : decide ((textZ (Rat.divInt (-1) 2).num ++ [47] ++ textZ ((Rat.divInt (-1) 2).den : Int)) = [45, 49, 47, 50]) = true := by
  rw [show (Rat.divInt (-1) 2).num = -1 from by decide +kernel, show ((Rat.divInt (-1) 2).den : Int) = 2 from by decide +kernel]
  have h1 : textZ (-1) = [45, 49] := by unfold textZ; rw [if_pos (by decide)]; exact congrArg (45 :: ·) (dec_small (by decide))
  have h2 : textZ 2 = [50] := by unfold textZ; rw [if_neg (by decide)]; exact dec_small (by decide)
  rw [h1, h2]
  decide
theorem san_t2 : decide (textZ ((3 : Int) : Rat).num = [51]) = true := by
  have h2 : textZ 3 = [51] := by unfold textZ; rw [if_neg (by decide)]; exact dec_small (by decide)
  rw [show ((3 : Int) : Rat).num = 3 from rfl, h2]
  decide
set_option maxRecDepth 100000 in
theorem sanity2_any (W : World) (ht : P10 W) : Calls Tryz.prog 10 #[] W (GivesP (eqF (.bool true)) W) := by
  let E : List PF := (List.append [(ratF (Rat.divInt 1 2)), (ratF (Rat.divInt 1 3)), (intF 2), (intF (-4)), (ratF (Rat.divInt 2 (-4))), (intF 0), (intF 7), (ratF (Rat.divInt 0 7)), (intF 1), (pairF 0 0), (ratF (Rat.divInt 2 3)), (ratF ((Rat.divInt 2 3)⁻¹ ^ (-((-2) : Int)).toNat)), (ratF ((0 : Int) : Rat)), (ratF (((0 : Int) : Rat) ^ (0 : Int).toNat)), (ratF ((1 : Int) : Rat)), (ratF (Rat.divInt 4 6)), (ratF (Rat.divInt (-1) 2)), (ratF (Rat.divInt 9 4)), (ratF ((Rat.divInt 1 2) + (Rat.divInt 1 3))), (ratF (Rat.divInt 5 6)), (ratF ((Rat.divInt 1 2) - (Rat.divInt 1 2))), (ratF (Rat.divInt 3 4)), (ratF ((Rat.divInt 2 3) * (Rat.divInt 3 4))), (ratF (Rat.divInt (-7) 2)), (intF ((Rat.divInt (-7) 2).num / ((Rat.divInt (-7) 2).den : Int))), (eqF (.string ⟨List.toArray (textZ (Rat.divInt (-1) 2).num ++ [47] ++ textZ ((Rat.divInt (-1) 2).den : Int))⟩)), (ratF ((3 : Int) : Rat)), (eqF (.string ⟨List.toArray (textZ ((3 : Int) : Rat).num)⟩)), (ratF (Rat.divInt (-1) 3)), (eqF (.int .i64 (cmpR (Rat.divInt (-1) 2) (Rat.divInt (-1) 3))))]
      [(eqF (.int .i64 (cmpR (Rat.divInt 1 2) 0)))])
  let EB : List CF := [zeroQF, (boxQ (Rat.divInt 1 2)), (boxQ (Rat.divInt 1 3)), (boxQ (Rat.divInt 2 (-4))), (boxQ (Rat.divInt 0 7)), (boxQF 0 0), (boxQ ((Rat.divInt 2 3)⁻¹ ^ (-((-2) : Int)).toNat)), (boxQ (((0 : Int) : Rat) ^ (0 : Int).toNat)), (boxQ (Rat.divInt 4 6))]
  exact auto_calls (E := E) (EB := EB) (fs := []) (r := (.bool true))
   { pures := [p2 (.bin .eql 9 9) (.ref 25) (.str { data := #[45, 49, 47, 50] }) (.bool true) fun _ _ _ _ _ hx hy => h_eqlS (a := (textZ (Rat.divInt (-1) 2).num ++ [47] ++ textZ ((Rat.divInt (-1) 2).den : Int))) (b := [45, 49, 47, 50]) san_t1 hx hy,
      p2 (.bin .eql 9 9) (.ref 27) (.str { data := #[51] }) (.bool true) fun _ _ _ _ _ hx hy => h_eqlS (a := (textZ ((3 : Int) : Rat).num)) (b := [51]) san_t2 hx hy,
      p2 (.bin .eql 3 3) (.ref 29) (.int .i64 (-1)) (.bool true) fun _ _ _ _ _ hx hy => h_eqlI (r := true) (by decide +kernel) hx hy,
      p2 (.bin .eql 3 3) (.ref 30) (.int .i64 1) (.bool true) fun _ _ _ _ _ hx hy => h_eqlI (r := true) (by decide +kernel) hx hy,
      p0 (.bld 29 []) (.ref 9) fun _ _ _ => h_buildQ0],
     calls := (List.append [c2 45 (.int .i64 1) (.int .i64 2) (.ref 0) fun w v0 v1 hb h0 h1 => kPMade h0 h1 (by decide) (by decide) (by decide) (by decide) (by decide),
      c2 45 (.int .i64 1) (.int .i64 3) (.ref 1) fun w v0 v1 hb h0 h1 => kPMade h0 h1 (by decide) (by decide) (by decide) (by decide) (by decide),
      c1 44 (.int .i64 2) (.ref 2) fun w v0 hb h0 => kROf 2 (by omega) (by omega) h0,
      c1 44 (.int .i64 (-4)) (.ref 3) fun w v0 hb h0 => kROf (-4) (by omega) (by omega) h0,
      c2 12 (.ref 2) (.ref 3) (.tup2 (.ref 4) (.int .i64 0)) fun w v0 v1 hb h0 h1 => kQOf h0 h1 (Sm.of 2 (by decide)) (Sm.of (-4) (by decide)) (by first | decide | assumption | omega) (by first | decide | assumption | omega) (by decide),
      c1 44 (.int .i64 0) (.ref 5) fun w v0 hb h0 => kROf 0 (by omega) (by omega) h0,
      c1 44 (.int .i64 7) (.ref 6) fun w v0 hb h0 => kROf 7 (by omega) (by omega) h0,
      c2 12 (.ref 5) (.ref 6) (.tup2 (.ref 7) (.int .i64 0)) fun w v0 v1 hb h0 h1 => kQOf h0 h1 (Sm.of 0 (by decide)) (Sm.of 7 (by decide)) (by first | decide | assumption | omega) (by first | decide | assumption | omega) (by decide),
      c1 44 (.int .i64 1) (.ref 8) fun w v0 hb h0 => kROf 1 (by omega) (by omega) h0,
      c2 12 (.ref 8) (.ref 5) (.tup2 (.ref 9) (.int .i64 3)) fun w v0 v1 hb h0 h1 => kQOf0 h0 h1 (Sm.of 1 (by decide)) (Sm.of 0 (by decide)) (by first | decide | assumption | omega) (by first | decide | assumption | omega) (by decide),
      c2 45 (.int .i64 2) (.int .i64 3) (.ref 10) fun w v0 v1 hb h0 h1 => kPMade h0 h1 (by decide) (by decide) (by decide) (by decide) (by decide),
      c2 40 (.ref 10) (.int .i64 (-2)) (.tup2 (.ref 11) (.int .i64 0)) fun w v0 v1 hb h0 h1 => kPowG (z := (-2)) h0 h1 (made_sm 2 3 (by decide)) (by decide) (by decide) (by decide) (by decide) (by decide +kernel) (by decide),
      c1 26 (.int .i64 0) (.ref 12) fun w v0 hb h0 => kPWhole 0 (by omega) (by omega) h0,
      c2 40 (.ref 12) (.int .i64 0) (.tup2 (.ref 13) (.int .i64 0)) fun w v0 v1 hb h0 h1 => kPowN (z := 0) h0 h1 (RSm.whole (i := 1) (Sm.of 0 (by decide))) (by decide) (by decide) (by decide) (by decide) (by decide),
      c2 40 (.ref 12) (.int .i64 (-1)) (.tup2 (.ref 9) (.int .i64 3)) fun w v0 v1 hb h0 h1 => kPowZ (z := (-1)) h0 h1 (RSm.whole (i := 1) (Sm.of 0 (by decide))) (by decide) (by decide) (by decide) (by decide) (by decide +kernel),
      c1 26 (.int .i64 1) (.ref 14) fun w v0 hb h0 => kPWhole 1 (by omega) (by omega) h0,
      c2 40 (.ref 14) (.int .i64 257) (.tup2 (.ref 9) (.int .i64 1)) fun w v0 v1 hb h0 h1 => kPowF (z := 257) h0 h1 (RSm.whole (i := 1) (Sm.of 1 (by decide))) (by decide) (by decide) (by decide) (by decide),
      c1 34 (.str { data := #[52, 47, 54] }) (.tup2 (.ref 15) (.int .i64 0)) fun w v0 hb h0 => kRdQS (l := [52, 47, 54]) rd_46 (by decide) h0,
      c1 34 (.str { data := #[45, 48] }) (.tup2 (.ref 9) (.int .i64 4)) fun w v0 hb h0 => kRdQN (l := [45, 48]) rd_m0 (by decide) h0,
      c1 34 (.str { data := #[49, 47, 48] }) (.tup2 (.ref 9) (.int .i64 4)) fun w v0 hb h0 => kRdQN (l := [49, 47, 48]) rd_10 (by decide) h0,
      c1 34 (.str { data := #[50, 47, 45, 52] }) (.tup2 (.ref 9) (.int .i64 4)) fun w v0 hb h0 => kRdQN (l := [50, 47, 45, 52]) rd_2m4 (by decide) h0,
      c2 14 (.ref 0) (.ref 12) (.tup2 (.ref 9) (.int .i64 3)) fun w v0 v1 hb h0 h1 => kQDiv0 h0 h1 (made_sm 1 2 (by decide)) (RSm.whole (i := 1) (Sm.of 0 (by decide))) (by first | decide | assumption | omega) (by first | decide | assumption | omega) (by decide +kernel),
      c2 45 (.int .i64 (-1)) (.int .i64 2) (.ref 16) fun w v0 v1 hb h0 h1 => kPMade h0 h1 (by decide) (by decide) (by decide) (by decide) (by decide),
      c2 16 (.ref 4) (.ref 16) (.bool true) fun w v0 v1 hb h0 h1 => kPSameT h0 h1 (RSm.of2 (Sm.of 2 (by decide)) (Sm.of (-4) (by decide)) (by decide)) (made_sm (-1) 2 (by decide)) (by first | decide | assumption | omega) (by first | decide | assumption | omega) (by decide +kernel),
      c2 16 (.ref 7) (.ref 12) (.bool true) fun w v0 v1 hb h0 h1 => kPSameT h0 h1 (RSm.of2 (Sm.of 0 (by decide)) (Sm.of 7 (by decide)) (by decide)) (RSm.whole (i := 1) (Sm.of 0 (by decide))) (by first | decide | assumption | omega) (by first | decide | assumption | omega) (by decide +kernel),
      c2 45 (.int .i64 9) (.int .i64 4) (.ref 17) fun w v0 v1 hb h0 h1 => kPMade h0 h1 (by decide) (by decide) (by decide) (by decide) (by decide),
      c2 16 (.ref 11) (.ref 17) (.bool true) fun w v0 v1 hb h0 h1 => kPSameT h0 h1 (powZ_sm (made_sm 2 3 (by decide)).inv (by decide)) (made_sm 9 4 (by decide)) (by first | decide | assumption | omega) (by first | decide | assumption | omega) (by decide +kernel),
      c2 16 (.ref 13) (.ref 14) (.bool true) fun w v0 v1 hb h0 h1 => kPSameT h0 h1 (powZ_sm (RSm.whole (i := 1) (Sm.of 0 (by decide))) (by decide)) (RSm.whole (i := 1) (Sm.of 1 (by decide))) (by first | decide | assumption | omega) (by first | decide | assumption | omega) (by decide +kernel),
      c2 16 (.ref 15) (.ref 10) (.bool true) fun w v0 v1 hb h0 h1 => kPSameT h0 h1 (made_sm 4 6 (by decide)) (made_sm 2 3 (by decide)) (by first | decide | assumption | omega) (by first | decide | assumption | omega) (by decide +kernel),
      c2 17 (.ref 0) (.ref 1) (.ref 18) fun w v0 v1 hb h0 h1 => kQAdd h0 h1 (made_sm 1 2 (by decide)) (made_sm 1 3 (by decide)) (by first | decide | assumption | omega) (by first | decide | assumption | omega)]
      [c2 45 (.int .i64 5) (.int .i64 6) (.ref 19) fun w v0 v1 hb h0 h1 => kPMade h0 h1 (by decide) (by decide) (by decide) (by decide) (by decide),
      c2 16 (.ref 18) (.ref 19) (.bool true) fun w v0 v1 hb h0 h1 => kPSameT h0 h1 ((made_sm 1 2 (by decide)).add (made_sm 1 3 (by decide))) (made_sm 5 6 (by decide)) (by first | decide | assumption | omega) (by first | decide | assumption | omega) (by decide +kernel),
      c2 19 (.ref 0) (.ref 0) (.ref 20) fun w v0 v1 hb h0 h1 => kQSub h0 h1 (made_sm 1 2 (by decide)) (made_sm 1 2 (by decide)) (by first | decide | assumption | omega) (by first | decide | assumption | omega),
      c2 16 (.ref 20) (.ref 12) (.bool true) fun w v0 v1 hb h0 h1 => kPSameT h0 h1 ((made_sm 1 2 (by decide)).sub (made_sm 1 2 (by decide))) (RSm.whole (i := 1) (Sm.of 0 (by decide))) (by first | decide | assumption | omega) (by first | decide | assumption | omega) (by decide +kernel),
      c2 45 (.int .i64 3) (.int .i64 4) (.ref 21) fun w v0 v1 hb h0 h1 => kPMade h0 h1 (by decide) (by decide) (by decide) (by decide) (by decide),
      c2 21 (.ref 10) (.ref 21) (.ref 22) fun w v0 v1 hb h0 h1 => kQMul h0 h1 (made_sm 2 3 (by decide)) (made_sm 3 4 (by decide)) (by first | decide | assumption | omega) (by first | decide | assumption | omega),
      c2 16 (.ref 22) (.ref 0) (.bool true) fun w v0 v1 hb h0 h1 => kPSameT h0 h1 ((made_sm 2 3 (by decide)).mul (made_sm 3 4 (by decide))) (made_sm 1 2 (by decide)) (by first | decide | assumption | omega) (by first | decide | assumption | omega) (by decide +kernel),
      c2 45 (.int .i64 (-7)) (.int .i64 2) (.ref 23) fun w v0 v1 hb h0 h1 => kPMade h0 h1 (by decide) (by decide) (by decide) (by decide) (by decide),
      c1 32 (.ref 23) (.ref 24) fun w v0 hb h0 => kQFloor h0 (made_sm (-7) 2 (by decide)) (by first | decide | assumption | omega),
      c2 31 (.ref 24) (.ref 3) (.bool true) fun w v0 v1 hb h0 h1 => kSameT h0 h1 (made_sm (-7) 2 (by decide)).1.div (Sm.of (-4) (by decide)) (by first | decide | assumption | omega) (by first | decide | assumption | omega) (by decide +kernel),
      c1 36 (.ref 16) (.ref 25) fun w v0 hb h0 => TextQ_frac _ _ h0 (made_sm (-1) 2 (by decide)) (by decide) (tab_below ht hb) (by decide +kernel) (by decide +kernel) (by decide +kernel),
      c1 26 (.int .i64 3) (.ref 26) fun w v0 hb h0 => kPWhole 3 (by omega) (by omega) h0,
      c1 36 (.ref 26) (.ref 27) fun w v0 hb h0 => TextQ_int _ _ h0 (RSm.whole (i := 1) (Sm.of 3 (by decide))) (by decide) (tab_below ht hb) (by decide +kernel) (by decide +kernel) (by decide +kernel),
      c2 45 (.int .i64 (-1)) (.int .i64 3) (.ref 28) fun w v0 v1 hb h0 h1 => kPMade h0 h1 (by decide) (by decide) (by decide) (by decide) (by decide),
      c2 27 (.ref 16) (.ref 28) (.ref 29) fun w v0 v1 hb h0 h1 => kQCmp h0 h1 (made_sm (-1) 2 (by decide)) (made_sm (-1) 3 (by decide)) (by first | decide | assumption | omega) (by first | decide | assumption | omega),
      c1 29 (.ref 0) (.ref 30) fun w v0 hb h0 => kQSign h0 (made_sm 1 2 (by decide)) (by first | decide | assumption | omega),
      c1 38 (.ref 9) (.bool false) fun w v0 hb h0 => ValidQ_zero _ _ h0]),
     loads := [⟨29, 0, 1, (.ref 0), fun w q h => loadQ_all w q h⟩,
      ⟨29, 0, 3, (.ref 4), fun w q h => loadQ_all w q h⟩,
      ⟨29, 0, 4, (.ref 7), fun w q h => loadQ_all w q h⟩,
      ⟨29, 0, 6, (.ref 11), fun w q h => loadQ_all w q h⟩,
      ⟨29, 0, 7, (.ref 13), fun w q h => loadQ_all w q h⟩,
      ⟨29, 0, 8, (.ref 15), fun w q h => loadQ_all w q h⟩,
      ⟨29, 0, 2, (.ref 1), fun w q h => loadQ_all w q h⟩],
     allocs := [⟨29, 0, _, allocQ_run, allocQ_old⟩],
     stores := [⟨29, 0, 0, (.ref 0), 1, storeQ_zero⟩,
      ⟨29, 0, 0, (.ref 1), 2, storeQ_zero⟩,
      ⟨29, 0, 0, (.ref 4), 3, storeQ_zero⟩,
      ⟨29, 0, 0, (.ref 7), 4, storeQ_zero⟩,
      ⟨29, 0, 0, (.ref 9), 5, storeQ_zero⟩,
      ⟨29, 0, 0, (.ref 11), 6, storeQ_zero⟩,
      ⟨29, 0, 0, (.ref 13), 7, storeQ_zero⟩,
      ⟨29, 0, 0, (.ref 15), 8, storeQ_zero⟩] }
   Tryz.func10 trivial (by kernel_rfl)
end Go.Proofs.YtdofolejfdfocaaGreatDoor
namespace Go.Proofs.YtdofolejfdfocaaGreatDoor
open Go.RowKit

structure Raw2 where
  n : RawArg
  d : RawArg
def Raw2.val_ (r : Raw2) : Value := .agg #[.slice r.n.A r.n.k r.n.c, .slice r.d.A r.d.k r.d.c, .bool r.n.b]
def Raw2.Ok (r : Raw2) (w : World) : Prop := r.n.Ok w ∧ r.d.Ok w ∧ r.d.b = false
def RawArg.int4 (r : RawArg) (n : Nat) : Int := sgn r.b (val (r.ms.take (min r.k n)))
theorem RawArg.Ok.sm4 {r : RawArg} {w : World} (h : r.Ok w) (n : Nat) : Sm (r.int4 n) n := by
  unfold Sm RawArg.int4
  rw [sgn_abs]
  refine Nat.lt_of_lt_of_le (val_lt (h.lim.take _)) (Nat.pow_le_pow_right (by decide) ?_)
  rw [List.length_take]
  omega
/-- The number that made makes of it. -/
def Raw2.ratN (r : Raw2) (n : Nat) : Rat := Rat.divInt (r.n.int4 n) (if r.d.int4 n = 0 then 1 else r.d.int4 n)
abbrev Raw2.rat (r : Raw2) : Rat := r.ratN 4
theorem sm_one (n : Nat) : Sm 1 (n + 1) := by
  show (1 : Nat) < 4294967296 ^ (n + 1)
  exact Nat.lt_of_lt_of_le (by decide : 1 < 4294967296 ^ 1) (Nat.pow_le_pow_right (by decide) (by omega))
theorem Raw2.Ok.sm {r : Raw2} {w : World} (h : r.Ok w) (n : Nat) : RSm (r.ratN (n + 1)) (n + 1) := by
  unfold Raw2.ratN
  split
  · exact RSm.of (h.1.sm4 _) (sm_one n) (by decide)
  · rename_i h0; exact RSm.of (h.1.sm4 _) (h.2.1.sm4 _) h0
theorem Raw2.Ok.sm' {r : Raw2} {w : World} (h : r.Ok w) : RSm r.rat 4 := h.sm 3
def rawB2F (r : Raw2) : CF := objF #[.slice r.n.A r.n.k r.n.c, .slice r.d.A r.d.k r.d.c, .bool r.n.b] 24 (by decide)
theorem boxR2_run {r : Raw2} (w : World) (v : Value) (h : (eqF r.val_).p v w) : ∃ ob, (Instr.box 24 v).run Tryz.prog w = .ok (.pointer (some ⟨w.heap.size, 0, none⟩)) (w.alloc ob) ∧ (rawB2F r).p w.heap.size (w.alloc ob) := by
  have h : v = r.val_ := h
  subst h
  exact ⟨.cells #[.slice r.n.A r.n.k r.n.c, .slice r.d.A r.d.k r.d.c, .bool r.n.b] 24 (0, 0), by simp [go_sem, Raw2.val_], heap1 w _⟩
theorem r2_cells {w : World} {q : Nat} {a b c : Value} {T : TypeId} (hh : w.heap[q]? = some (.cells #[a, b, c] T (0, 0))) : w.cell? ⟨q, 0, none⟩ = some a ∧ w.cell? ⟨q, 1, none⟩ = some b ∧ w.cell? ⟨q, 2, none⟩ = some c :=
  ⟨by rw [cell_of_row w q 0 _ _ (0, 0) hh]; rfl, by rw [cell_of_row w q 1 _ _ (0, 0) hh]; rfl, by rw [cell_of_row w q 2 _ _ (0, 0) hh]; rfl⟩
theorem loadR2_all {r : Raw2} (w : World) (q : Nat) (h : (rawB2F r).p q w) : ∃ v, (Instr.loadAt 24 (.pointer (some ⟨q, 0, none⟩))).run Tryz.prog w = .ok v w ∧ (eqF r.val_).p v w := by
  obtain ⟨e0, e1, e2⟩ := r2_cells (show w.heap[q]? = some (.cells #[.slice r.n.A r.n.k r.n.c, .slice r.d.A r.d.k r.d.c, .bool r.n.b] 24 (0, 0)) from h)
  exact ⟨_, by simp [go_sem, e0, e1, e2]; rfl, rfl⟩
theorem loadR2_0 {r : Raw2} (w : World) (q : Nat) (h : (rawB2F r).p q w) : ∃ v, (Instr.loadAt 22 (.pointer (some ⟨q, 0, none⟩))).run Tryz.prog w = .ok v w ∧ (eqF (.slice r.n.A r.n.k r.n.c)).p v w := by
  obtain ⟨e0, e1, e2⟩ := r2_cells (show w.heap[q]? = some (.cells #[.slice r.n.A r.n.k r.n.c, .slice r.d.A r.d.k r.d.c, .bool r.n.b] 24 (0, 0)) from h)
  exact ⟨.slice r.n.A r.n.k r.n.c, by simp [go_sem, e0], rfl⟩
theorem loadR2_1 {r : Raw2} (w : World) (q : Nat) (h : (rawB2F r).p q w) : ∃ v, (Instr.loadAt 22 (.pointer (some ⟨q, 1, none⟩))).run Tryz.prog w = .ok v w ∧ (eqF (.slice r.d.A r.d.k r.d.c)).p v w := by
  obtain ⟨e0, e1, e2⟩ := r2_cells (show w.heap[q]? = some (.cells #[.slice r.n.A r.n.k r.n.c, .slice r.d.A r.d.k r.d.c, .bool r.n.b] 24 (0, 0)) from h)
  exact ⟨.slice r.d.A r.d.k r.d.c, by simp [go_sem, e1], rfl⟩
theorem loadR2_2 {r : Raw2} (w : World) (q : Nat) (h : (rawB2F r).p q w) : ∃ v, (Instr.loadAt 4 (.pointer (some ⟨q, 2, none⟩))).run Tryz.prog w = .ok v w ∧ (eqF (.bool r.n.b)).p v w := by
  obtain ⟨e0, e1, e2⟩ := r2_cells (show w.heap[q]? = some (.cells #[.slice r.n.A r.n.k r.n.c, .slice r.d.A r.d.k r.d.c, .bool r.n.b] 24 (0, 0)) from h)
  exact ⟨.bool r.n.b, by simp [go_sem, e2], rfl⟩
theorem fldRw0 (q : Nat) (w : World) : (Instr.fieldAt 24 (.pointer (some ⟨q, 0, none⟩)) 0).run Tryz.prog w = .ok (.pointer (some ⟨q, 0, none⟩)) w := by simp [go_sem]
theorem fldRw1 (q : Nat) (w : World) : (Instr.fieldAt 24 (.pointer (some ⟨q, 0, none⟩)) 1).run Tryz.prog w = .ok (.pointer (some ⟨q, 1, none⟩)) w := by simp [go_sem]
theorem fldRw2 (q : Nat) (w : World) : (Instr.fieldAt 24 (.pointer (some ⟨q, 0, none⟩)) 2).run Tryz.prog w = .ok (.pointer (some ⟨q, 2, none⟩)) w := by simp [go_sem]
theorem kMadeRaw {r : RawArg} {b : Bool} {n : Nat} {Wb w : World} {va vb : Value} (k : r.Ok Wb) (hb : Below Wb.heap.size Wb w) (hbb : b = r.b) (ha : (eqF (.slice r.A (min r.k n) r.c)).p va w) (hv : (eqF (.bool b)).p vb w) (hn : n ≤ 1000) : Calls Tryz.prog 41 #[va, vb] w (GivesP (intF (r.int4 n)) w) := by
  have ha : va = _ := ha
  have hv : vb = _ := hv
  rw [ha, hv, hbb]
  have h := Made_any r.A (min r.k n) r.c (r.ms.take (min r.k n)) r.b w (by rw [List.length_take, k.len]; omega) (rawMem_more ((k.mem.below hb).take _) hb.size) (by omega) (by have := k.cap; omega) (k.lim.take _)
  exact h
end Go.Proofs.YtdofolejfdfocaaGreatDoor
namespace Go.Proofs.YtdofolejfdfocaaGreatDoor
open Go.RowKit

section
variable {ops : Array Oper} {N : Nat} {Wb W0 : World} {a0 : Act} {F : List PF} {BX : List BoxS} {AD : List (Nat × Nat × Nat)} {i : Nat}
theorem Inv.keep {m : Array Bool} {a : Act} {w w' : World} {k g : Nat} {b : BoxS} (h : Inv ops N Wb W0 a0 F BX AD m a w) (hr : i ∈ Region.ready .any ops m)
    (hk : BX[k]? = some b) (hl : b.live m = true) (hd : dstOf ops i = none) (hsn : (BX.all fun c => c.st != some i) = true) (haln : (BX.all fun c => c.al != some i) = true)
    (hg : a.tmps[b.slot]? = some (.pointer (some ⟨g, 0, none⟩))) (hB : Below Wb.heap.size Wb w') (hgr : Grow w w') (hoth : ∀ j, j ≠ g → w'.heap[j]? = w.heap[j]?) (hnew : (b.cur m).p g w') :
    Inv ops N Wb W0 a0 F BX AD (m.setIfInBounds i true) a w' := by
  have hal' : ∀ c ∈ BX, c.al ≠ some i := fun c hc => by
    have := List.all_eq_true.1 haln c hc
    simpa using this
  have hst' : ∀ c ∈ BX, c.st ≠ some i := fun c hc => by
    have := List.all_eq_true.1 hsn c hc
    simpa using this
  refine ⟨h.size, fun t ht => h.low t fun j hj => unset (ht j hj), h.defers, hB, h.grow.trans hgr, by rw [Array.size_setIfInBounds]; exact h.len, closed_set h.closed hr, ?_, ?_, ?_, ?_⟩
  · intro j d hj hjd
    rcases getD_set_cases hj with rfl | hj
    · rw [hd] at hjd; cases hjd
    · obtain ⟨u, h1, h2⟩ := h.facts j d hj hjd
      exact ⟨u, h1, (F.getD j anyF).st _ _ _ hgr h2⟩
  · intro l c hl' hlive
    rw [live_set (hal' c (List.mem_of_getElem? hl'))] at hlive
    rw [cur_set (hst' c (List.mem_of_getElem? hl'))]
    obtain ⟨g', h1, h2, h3⟩ := h.boxes l c hl' hlive
    by_cases e : l = k
    · subst e
      rw [hk] at hl'
      obtain rfl := Option.some.inj hl'
      rw [hg] at h1
      simp only [Option.some.injEq, Value.pointer.injEq, Addr.mk.injEq, and_true] at h1
      subst h1
      exact ⟨g, hg, h2, hnew⟩
    · have hne : g' ≠ g := by
        rintro rfl
        exact h.apart l k c b hl' hk e hlive hl (h1.trans hg.symm)
      exact ⟨g', h1, h2, (c.cur m).st _ _ _ hgr (hoth g' hne) h3⟩
  · intro x y bx by_ hx hy hne hlx hly
    rw [live_set (hal' bx (List.mem_of_getElem? hx))] at hlx
    rw [live_set (hal' by_ (List.mem_of_getElem? hy))] at hly
    exact h.apart x y bx by_ hx hy hne hlx hly
  · intro x hx hm e he
    rcases getD_set_cases hm with e1 | e1
    · rw [e1, hd] at he; cases he
    · exact h.addrs x hx e1 e he
theorem s_keepAt {T : TypeId} {t d off : Nat} {x : Operand} {fx : PF} (k : Nat) (b : BoxS) (j s : Nat) (ho : IsOp ops i none (.store T (.tmp d) x)) (hd : dstOf ops i = none) (hk : BX[k]? = some b) (ht : b.slot = t) (hb : b.st = some s) (hs : (deps ops i).contains s = true) (hsn : (BX.all fun c => c.st != some i) = true) (haln : (BX.all fun c => c.al != some i) = true)
    (hlv : (match b.al with | none => true | some j => (deps ops i).contains j) = true) (hx0 : AD.contains (j, t, off) = true) (hjd : dstOf ops j = some d) (hj : (deps ops i).contains j = true) (hx : Src ops N Wb W0 a0 F BX AD i x fx) (h : StoreAtOk T off b.new fx b.new) : Step ops N Wb W0 a0 F BX AD i := by
  intro Q m a w hI hr
  have hlive : b.live m = true := by
    unfold BoxS.live
    cases e : b.al with
    | none => rfl
    | some j => rw [e] at hlv; exact ready_dep hr (by simpa using hlv)
  obtain ⟨g, h1, h2, h3⟩ := hI.boxes k b hk hlive
  have hcur : b.cur m = b.new := by
    unfold BoxS.cur
    rw [hb]
    simp only []
    rw [ready_dep hr (by simpa using hs)]
    rfl
  rw [hcur] at h3
  obtain ⟨w', g1, g2, g3, g4, g5⟩ := h w g _ h3 (hx m a w hI hr)
  obtain ⟨q', e1, e2⟩ := hI.addrs (j, t, off) (by simpa using hx0) (ready_dep hr (by simpa using hj)) d hjd
  simp only [] at e1 e2
  rw [← ht, h1] at e1
  simp only [Option.some.injEq, Value.pointer.injEq, Addr.mk.injEq, and_true] at e1
  subst e1
  obtain ⟨o, hoo, hgo, hop⟩ := ho.get
  unfold wpOp
  simp only [hoo]
  rw [if_pos (guard_none o hgo)]
  left
  unfold Oper.wp
  have hrun : (execOp a.eval o).run Tryz.prog w = .ok .skip w' := by
    unfold execOp
    rw [hop]
    show Sem.run _ (Instr.storeAt T (a.eval (.tmp d)) (a.eval x) >>= fun _ => pure Next.skip) w = _
    rw [eval_of e2]
    exact run_u g1
  rw [hrun, Oper.upon_skip]
  have hod : o.dst = none := by unfold dstOf at hd; rw [hoo] at hd; exact hd
  rw [hod]
  exact hI.keep hr hk hlive hd hsn haln h1 (g2 _ _ h2 hI.below) g3 g4 (by rw [hcur]; exact g5)
end

/-- A box of some raw argument that is in order. -/
def someB (Wb : World) : CF := ⟨fun g w => ∃ r : Raw2, r.Ok Wb ∧ (rawB2F r).p g w, fun g w w' hg e ⟨r, k, h⟩ => ⟨r, k, (rawB2F r).st g w w' hg e h⟩, fun g w ⟨r, _, h⟩ => (rawB2F r).ty g w h⟩
theorem Raw2.cutN {r : Raw2} {w : World} (h : r.Ok w) (n : Nat) : (⟨r.n.cut n, r.d⟩ : Raw2).Ok w := ⟨h.1.cut n, h.2.1, h.2.2⟩
theorem storeSome0 {Wb : World} {r : Raw2} (k : r.Ok Wb) (n : Nat) : StoreAtOk 22 0 (rawB2F r) (eqF (.slice r.n.A (min r.n.k n) r.n.c)) (someB Wb) := by
  intro w q v h1 h2
  have hh : w.heap[q]? = some (.cells #[.slice r.n.A r.n.k r.n.c, .slice r.d.A r.d.k r.d.c, .bool r.n.b] 24 (0, 0)) := h1
  have h2 : v = .slice r.n.A (min r.n.k n) r.n.c := h2
  subst h2
  obtain ⟨h0, _, _⟩ := r2_cells hh
  have f0 := frozen_of_row hh 0
  have hne : (24 : TypeId) ≠ 76 := by decide
  exact ⟨w.setCell ⟨q, 0, none⟩ (.slice r.n.A (min r.n.k n) r.n.c), by simp [go_sem, h0, f0], fun B W hq hB => hB.setCell hq _, Grow.set hh hne 0 _, fun j hj => Below.heap_setCell _ _ _ _ hj, _, Raw2.cutN k n, block_setCell hh 0 _⟩
theorem storeSome1 {Wb : World} {r : Raw2} (k : r.Ok Wb) (n : Nat) : StoreAtOk 22 1 (someB Wb) (eqF (.slice r.d.A (min r.d.k n) r.d.c)) (someB Wb) := by
  intro w q v h1 h2
  obtain ⟨r', k', h1⟩ := h1
  have hh : w.heap[q]? = some (.cells #[.slice r'.n.A r'.n.k r'.n.c, .slice r'.d.A r'.d.k r'.d.c, .bool r'.n.b] 24 (0, 0)) := h1
  have h2 : v = .slice r.d.A (min r.d.k n) r.d.c := h2
  subst h2
  obtain ⟨_, h0, _⟩ := r2_cells hh
  have f0 := frozen_of_row hh 1
  have hne : (24 : TypeId) ≠ 76 := by decide
  exact ⟨w.setCell ⟨q, 1, none⟩ (.slice r.d.A (min r.d.k n) r.d.c), by simp [go_sem, h0, f0], fun B W hq hB => hB.setCell hq _, Grow.set hh hne 1 _, fun j hj => Below.heap_setCell _ _ _ _ hj, ⟨r'.n, r.d.cut n⟩, ⟨k'.1, k.2.1.cut n, k.2.2⟩, block_setCell hh 1 _⟩
theorem St.openRaw {Wb : World} {N : Nat} {S : List (Nat × PF)} {a : Act} {w : World} {t t' : Nat} {B : List (Nat × CF)} (hst : St Wb N S ((t, someB Wb) :: (t', someB Wb) :: B) a w) :
    ∃ r r' : Raw2, r.Ok Wb ∧ r'.Ok Wb ∧ St Wb N S ((t, rawB2F r) :: (t', rawB2F r') :: B) a w := by
  obtain ⟨h1, h2, h3, h4, h5, h6, h7⟩ := hst
  obtain ⟨⟨g, e1, l1, r, k, p⟩, ⟨g', e1', l1', r', k', p'⟩, hr⟩ := h6
  refine ⟨r, r', k, k', h1, h2, h3, h4, h5, ⟨⟨g, e1, l1, p⟩, ⟨g', e1', l1', p'⟩, hr⟩, ?_⟩
  rw [List.pairwise_cons, List.pairwise_cons] at h7 ⊢
  refine ⟨fun x hx => ?_, fun x hx => h7.2.1 x hx, h7.2.2⟩
  rcases List.mem_cons.1 hx with rfl | hx
  · exact h7.1 (t', someB Wb) (List.mem_cons_self ..)
  · exact h7.1 x (List.mem_cons_of_mem _ hx)

/-! ### The last ten bits -/
def andv (p : Int) : Int := bits .and .i64 p 1023
theorem and_range (p : Int) : 0 ≤ andv p ∧ andv p ≤ 1023 := by
  unfold andv bits
  simp only []
  generalize BitVec.ofInt IntKind.i64.bits p = a
  have h1 : (a &&& BitVec.ofInt IntKind.i64.bits 1023).toNat ≤ 1023 := by
    rw [BitVec.toNat_and]
    exact Nat.le_trans Nat.and_le_right (by decide)
  rw [IntKind.wrap_i64]
  omega
section
variable {ρ : Operand → Value} {w : World} {ty2 : TypeId} {x y : Operand} {a b z : Int}
theorem h_and64 (e : bits .and .i64 a b = z) (hx : (eqF (.int .i64 a)).p (ρ x) w) (hy : (eqF (.int .i64 b)).p (ρ y) w) : Yld (.binOp .and 3 x y ty2) ρ w (eqF (.int .i64 z)) := by
  have hx : ρ x = .int .i64 a := hx
  have hy : ρ y = .int .i64 b := hy
  subst e
  exact yld_mk fun o ho => by unfold execOp; rw [ho]; simp [go_sem, hx, hy]
end
end Go.Proofs.YtdofolejfdfocaaGreatDoor
namespace Go.Proofs.YtdofolejfdfocaaGreatDoor
open Go.RowKit

def zpw (x : Rat) (z : Int) : Rat := if 0 ≤ z then x ^ z.toNat else x⁻¹ ^ (-z).toNat
theorem zpw_nat (x : Rat) (n : Nat) : zpw x (n : Int) = x ^ n := by
  unfold zpw
  rw [if_pos (by omega)]
  rfl
theorem zpw_neg (x : Rat) (n : Nat) : zpw x (-(n : Int)) = x⁻¹ ^ n := by
  unfold zpw
  by_cases h : n = 0
  · subst h
    rw [if_pos (by omega)]
    show x ^ 0 = x⁻¹ ^ 0
    rw [Rat.pow_zero, Rat.pow_zero]
  · rw [if_neg (by omega), Int.neg_neg]
    rfl
theorem zpw_succ {x : Rat} (hx : x ≠ 0) (z : Int) : zpw x (z + 1) = zpw x z * x := by
  by_cases h : 0 ≤ z
  · obtain ⟨n, rfl⟩ := Int.eq_ofNat_of_zero_le h
    rw [show (n : Int) + 1 = ((n + 1 : Nat) : Int) by omega, zpw_nat, zpw_nat, Rat.pow_succ]
  · obtain ⟨n, hn⟩ := Int.eq_ofNat_of_zero_le (show 0 ≤ -z - 1 by omega)
    have e : z = -((n + 1 : Nat) : Int) := by omega
    rw [e, show -((n + 1 : Nat) : Int) + 1 = -(n : Int) by omega, zpw_neg, zpw_neg, Rat.pow_succ, Rat.mul_assoc, Rat.inv_mul_cancel x hx, Rat.mul_one]
theorem zpw_addn {x : Rat} (hx : x ≠ 0) (i : Int) (n : Nat) : zpw x (i + n) = zpw x i * x ^ n := by
  induction n with
  | zero => rw [Int.natCast_zero, Int.add_zero, Rat.pow_zero, Rat.mul_one]
  | succ n ih => rw [show i + ((n + 1 : Nat) : Int) = i + n + 1 by omega, zpw_succ hx, ih, Rat.pow_succ, Rat.mul_assoc]
theorem inv_pow {x : Rat} (hx : x ≠ 0) (n : Nat) : x ^ n * x⁻¹ ^ n = 1 := by
  induction n with
  | zero => rw [Rat.pow_zero, Rat.pow_zero, Rat.mul_one]
  | succ n ih =>
    rw [Rat.pow_succ, Rat.pow_succ]
    have h1 := Rat.mul_inv_cancel x hx
    have : x ^ n * x * (x⁻¹ ^ n * x⁻¹) = (x ^ n * x⁻¹ ^ n) * (x * x⁻¹) := by grind
    rw [this, ih, h1, Rat.mul_one]
theorem zpw_add {x : Rat} (hx : x ≠ 0) (i k : Int) : zpw x (i + k) = zpw x i * zpw x k := by
  by_cases h : 0 ≤ k
  · obtain ⟨n, rfl⟩ := Int.eq_ofNat_of_zero_le h
    rw [zpw_addn hx, zpw_nat]
  · obtain ⟨n, hn⟩ := Int.eq_ofNat_of_zero_le (show 0 ≤ -k by omega)
    have e : k = -(n : Int) := by omega
    have h1 := zpw_addn hx (i + k) n
    rw [show i + k + (n : Int) = i by omega] at h1
    rw [e, zpw_neg, ← e, h1, Rat.mul_assoc, inv_pow hx, Rat.mul_one]
theorem zpw_add0 (x : Rat) {i k : Int} (hi : 0 ≤ i) (hk : 0 ≤ k) : zpw x (i + k) = zpw x i * zpw x k := by
  obtain ⟨n, rfl⟩ := Int.eq_ofNat_of_zero_le hi
  obtain ⟨m, rfl⟩ := Int.eq_ofNat_of_zero_le hk
  rw [show (n : Int) + (m : Int) = ((n + m : Nat) : Int) by omega, zpw_nat, zpw_nat, zpw_nat]
  induction m with
  | zero => rw [Rat.pow_zero, Rat.mul_one]; rfl
  | succ m ih => rw [show n + (m + 1) = n + m + 1 by omega, Rat.pow_succ, ih (by omega), Rat.pow_succ, Rat.mul_assoc]
theorem mul_powQ (x y : Rat) (n : Nat) : (x * y) ^ n = x ^ n * y ^ n := by
  induction n with
  | zero => rw [Rat.pow_zero, Rat.pow_zero, Rat.pow_zero, Rat.mul_one]
  | succ n ih =>
    rw [Rat.pow_succ, Rat.pow_succ, Rat.pow_succ, ih]
    grind
theorem inv_mulQ (x y : Rat) : (x * y)⁻¹ = x⁻¹ * y⁻¹ := by
  by_cases hx : x = 0
  · subst hx; simp
  · by_cases hy : y = 0
    · subst hy; simp
    · grind
theorem zpw_mul (x y : Rat) (i : Int) : zpw (x * y) i = zpw x i * zpw y i := by
  unfold zpw
  split
  · exact mul_powQ _ _ _
  · rw [inv_mulQ, mul_powQ]
theorem zpw_sm {x : Rat} {i n : Nat} {z : Int} (sx : RSm x i) (hz : -(n : Int) ≤ z ∧ z ≤ n) (hb : i * n + 1 ≤ 100) : RSm (zpw x z) 100 := by
  have key : ∀ m : Nat, m ≤ n → i * m + 1 ≤ 100 := fun m hm => by
    have := Nat.mul_le_mul_left i hm
    omega
  unfold zpw
  split
  · exact powZ_sm sx (key _ (by omega))
  · exact powZ_sm sx.inv (key _ (by omega))
theorem kPowOK {x : Rat} {i n : Nat} {z : Int} {va vb : Value} {w : World} (ha : (ratF x).p va w) (hb : (eqF (.int .i64 z)).p vb w) (sx : RSm x i) (hi : i ≤ 100) (hz : -(n : Int) ≤ z ∧ z ≤ n) (hn : n ≤ 256) (hc : i * n + 1 ≤ 100) (hx : x ≠ 0 ∨ 0 ≤ z) :
    Calls Tryz.prog 40 #[va, vb] w (GivesP (tup2F (ratF (zpw x z)) (eqF (.int .i64 0))) w) := by
  have key : ∀ m : Nat, m ≤ n → i * m + 1 ≤ 100 := fun m hm => by
    have := Nat.mul_le_mul_left i hm
    omega
  unfold zpw
  split
  · rename_i h
    exact kPowN ha hb sx hi (by omega) (by omega) (by omega) (key _ (by omega))
  · rename_i h
    exact kPowG ha hb sx hi (by omega) (by omega) (by omega) (hx.resolve_right h) (key _ (by omega))
theorem tm10 (p : Int) : ∃ i, p.tmod 10 = i ∧ -9 ≤ i ∧ i ≤ 9 := by
  refine ⟨_, rfl, ?_, ?_⟩
  · have := Int.lt_tmod_of_pos p (show (0 : Int) < 10 by decide); omega
  · have := Int.tmod_lt_of_pos p (show (0 : Int) < 10 by decide); omega
theorem mul_ne {x y : Rat} (hx : x ≠ 0) (hy : y ≠ 0) : x * y ≠ 0 := fun h => by
  rcases Rat.mul_eq_zero.1 h with h | h
  · exact hx h
  · exact hy h
theorem mul_z1 {x : Rat} (y : Rat) (hx : x = 0) : x * y = 0 := by rw [hx, Rat.zero_mul]
theorem mul_z2 {y : Rat} (x : Rat) (hy : y = 0) : x * y = 0 := by rw [hy, Rat.mul_zero]
end Go.Proofs.YtdofolejfdfocaaGreatDoor
namespace Go.Proofs.YtdofolejfdfocaaGreatDoor
open Go.RowKit

set_option maxRecDepth 100000 in
theorem made2_0 {r : Raw2} (va : Value) (W : World) (hva : (eqF r.val_).p va W) (kr : r.Ok W) (hd : r.d.int4 4 = 0) : Calls Tryz.prog 11 #[va] W (GivesP (ratF (Rat.divInt (r.n.int4 4) 1)) W) := by
  let E : List PF := [(eqF r.val_), (eqF (.slice r.n.A r.n.k r.n.c)), (eqF (.int .i64 (r.n.k : Int))), (eqF (.int .i64 ((min r.n.k 4 : Nat) : Int))), (eqF (.slice r.n.A (min r.n.k 4) r.n.c)), (eqF (.bool r.n.b)), (intF (r.n.int4 4)), (eqF (.slice r.d.A r.d.k r.d.c)), (eqF (.int .i64 (r.d.k : Int))), (eqF (.int .i64 ((min r.d.k 4 : Nat) : Int))), (eqF (.slice r.d.A (min r.d.k 4) r.d.c)), (intF (r.d.int4 4)), (eqF (.int .i64 (Int.sign (r.d.int4 4)))), (intF 1), (ratF (Rat.divInt (r.n.int4 4) 1))]
  let EB : List CF := [(rawB2F r), zeroQF, zeroIF, (boxIF (r.n.int4 4)), (boxIF (r.d.int4 4)), (boxIF 1), (boxQ (Rat.divInt (r.n.int4 4) 1))]
  exact auto_calls (E := E) (EB := EB) (fs := [(.ref 0)]) (r := (.ref 14))
   { pures := [p1 (.blt .len [22]) (.ref 1) (.ref 2) fun _ _ _ _ hx => h_len hx,
      p2 (.blt .min [3, 3]) (.ref 2) (.int .i64 4) (.ref 3) fun _ _ _ _ _ hx hy => h_min (by omega) hx hy,
      p2 (.slc 22 false true false) (.ref 1) (.ref 3) (.ref 4) fun _ _ _ _ _ hx hy => h_sliceRaw kr.1 4 hx hy,
      p1 (.blt .len [22]) (.ref 7) (.ref 8) fun _ _ _ _ hx => h_len hx,
      p2 (.blt .min [3, 3]) (.ref 8) (.int .i64 4) (.ref 9) fun _ _ _ _ _ hx hy => h_min (by omega) hx hy,
      p2 (.slc 22 false true false) (.ref 7) (.ref 9) (.ref 10) fun _ _ _ _ _ hx hy => h_sliceRaw kr.2.1 4 hx hy,
      p2 (.bin .eql 3 3) (.ref 12) (.int .i64 0) (.bool true) fun _ _ _ _ _ hx hy => h_eqlI (r := true) (by rw [hd]; rfl) hx hy],
     calls := [c2 41 (.ref 4) (.ref 5) (.ref 6) fun w v0 v1 hb h0 h1 => kMadeRaw kr.1 hb rfl h0 h1 (by decide),
      c2 41 (.ref 10) (.bool false) (.ref 11) fun w v0 v1 hb h0 h1 => kMadeRaw kr.2.1 hb kr.2.2.symm h0 h1 (by decide),
      c1 42 (.ref 11) (.ref 12) fun w v0 hb h0 => kRSign h0 (kr.2.1.sm4 4) (by first | decide | assumption | omega),
      c1 44 (.int .i64 1) (.ref 13) fun w v0 hb h0 => kROf 1 (by omega) (by omega) h0,
      c2 13 (.ref 6) (.ref 13) (.tup2 (.ref 14) (.int .i64 0)) fun w v0 v1 hb h0 h1 => kPOf h0 h1 (kr.1.sm4 4) (Sm.of 1 (by decide)) (by first | decide | assumption | omega) (by first | decide | assumption | omega) (by decide)],
     loads := [⟨22, 0, 0, (.ref 1), fun w q h => loadR2_0 w q h⟩,
      ⟨4, 2, 0, (.ref 5), fun w q h => loadR2_2 w q h⟩,
      ⟨22, 1, 0, (.ref 7), fun w q h => loadR2_1 w q h⟩,
      ⟨27, 0, 4, (.ref 11), fun w q h => loadI_int w q h⟩,
      ⟨27, 0, 3, (.ref 6), fun w q h => loadI_int w q h⟩,
      ⟨27, 0, 5, (.ref 13), fun w q h => loadI_int w q h⟩,
      ⟨29, 0, 6, (.ref 14), fun w q h => loadQ_all w q h⟩],
     allocs := [⟨29, 1, _, allocQ_run, allocQ_old⟩,
      ⟨27, 2, _, allocI_run, allocI_old⟩],
     boxes := [⟨24, (.ref 0), 0, fun w v h => boxR2_run w v h⟩],
     stores := [⟨27, 0, 2, (.ref 6), 3, (storeI_zero _)⟩,
      ⟨27, 0, 2, (.ref 11), 4, (storeI_zero _)⟩,
      ⟨27, 0, 4, (.ref 13), 5, (storeI_box _ _)⟩,
      ⟨29, 0, 1, (.ref 14), 6, storeQ_zero⟩],
     flds := [⟨24, 0, 0, fldRw0⟩,
      ⟨24, 2, 2, fldRw2⟩,
      ⟨24, 1, 1, fldRw1⟩] }
   Tryz.func11 ⟨hva, trivial⟩ (by kernel_rfl)
set_option maxRecDepth 100000 in
theorem made2_1 {r : Raw2} (va : Value) (W : World) (hva : (eqF r.val_).p va W) (kr : r.Ok W) (hd : r.d.int4 4 ≠ 0) : Calls Tryz.prog 11 #[va] W (GivesP (ratF (Rat.divInt (r.n.int4 4) (r.d.int4 4))) W) := by
  let E : List PF := [(eqF r.val_), (eqF (.slice r.n.A r.n.k r.n.c)), (eqF (.int .i64 (r.n.k : Int))), (eqF (.int .i64 ((min r.n.k 4 : Nat) : Int))), (eqF (.slice r.n.A (min r.n.k 4) r.n.c)), (eqF (.bool r.n.b)), (intF (r.n.int4 4)), (eqF (.slice r.d.A r.d.k r.d.c)), (eqF (.int .i64 (r.d.k : Int))), (eqF (.int .i64 ((min r.d.k 4 : Nat) : Int))), (eqF (.slice r.d.A (min r.d.k 4) r.d.c)), (intF (r.d.int4 4)), (eqF (.int .i64 (Int.sign (r.d.int4 4)))), (ratF (Rat.divInt (r.n.int4 4) (r.d.int4 4)))]
  let EB : List CF := [(rawB2F r), zeroQF, zeroIF, (boxIF (r.n.int4 4)), (boxIF (r.d.int4 4)), (boxQ (Rat.divInt (r.n.int4 4) (r.d.int4 4)))]
  exact auto_calls (E := E) (EB := EB) (fs := [(.ref 0)]) (r := (.ref 13))
   { pures := [p1 (.blt .len [22]) (.ref 1) (.ref 2) fun _ _ _ _ hx => h_len hx,
      p2 (.blt .min [3, 3]) (.ref 2) (.int .i64 4) (.ref 3) fun _ _ _ _ _ hx hy => h_min (by omega) hx hy,
      p2 (.slc 22 false true false) (.ref 1) (.ref 3) (.ref 4) fun _ _ _ _ _ hx hy => h_sliceRaw kr.1 4 hx hy,
      p1 (.blt .len [22]) (.ref 7) (.ref 8) fun _ _ _ _ hx => h_len hx,
      p2 (.blt .min [3, 3]) (.ref 8) (.int .i64 4) (.ref 9) fun _ _ _ _ _ hx hy => h_min (by omega) hx hy,
      p2 (.slc 22 false true false) (.ref 7) (.ref 9) (.ref 10) fun _ _ _ _ _ hx hy => h_sliceRaw kr.2.1 4 hx hy,
      p2 (.bin .eql 3 3) (.ref 12) (.int .i64 0) (.bool false) fun _ _ _ _ _ hx hy => h_eqlI (r := false) (by rw [beq_eq_false_iff_ne]; exact fun e => hd (Int.sign_eq_zero_iff_zero.1 e)) hx hy],
     calls := [c2 41 (.ref 4) (.ref 5) (.ref 6) fun w v0 v1 hb h0 h1 => kMadeRaw kr.1 hb rfl h0 h1 (by decide),
      c2 41 (.ref 10) (.bool false) (.ref 11) fun w v0 v1 hb h0 h1 => kMadeRaw kr.2.1 hb kr.2.2.symm h0 h1 (by decide),
      c1 42 (.ref 11) (.ref 12) fun w v0 hb h0 => kRSign h0 (kr.2.1.sm4 4) (by first | decide | assumption | omega),
      c2 13 (.ref 6) (.ref 11) (.tup2 (.ref 13) (.int .i64 0)) fun w v0 v1 hb h0 h1 => kPOf h0 h1 (kr.1.sm4 4) (kr.2.1.sm4 4) (by first | decide | assumption | omega) (by first | decide | assumption | omega) hd],
     loads := [⟨22, 0, 0, (.ref 1), fun w q h => loadR2_0 w q h⟩,
      ⟨4, 2, 0, (.ref 5), fun w q h => loadR2_2 w q h⟩,
      ⟨22, 1, 0, (.ref 7), fun w q h => loadR2_1 w q h⟩,
      ⟨27, 0, 4, (.ref 11), fun w q h => loadI_int w q h⟩,
      ⟨27, 0, 3, (.ref 6), fun w q h => loadI_int w q h⟩,
      ⟨29, 0, 5, (.ref 13), fun w q h => loadQ_all w q h⟩],
     allocs := [⟨29, 1, _, allocQ_run, allocQ_old⟩,
      ⟨27, 2, _, allocI_run, allocI_old⟩],
     boxes := [⟨24, (.ref 0), 0, fun w v h => boxR2_run w v h⟩],
     stores := [⟨27, 0, 2, (.ref 6), 3, (storeI_zero _)⟩,
      ⟨27, 0, 2, (.ref 11), 4, (storeI_zero _)⟩,
      ⟨29, 0, 1, (.ref 13), 5, storeQ_zero⟩],
     flds := [⟨24, 0, 0, fldRw0⟩,
      ⟨24, 2, 2, fldRw2⟩,
      ⟨24, 1, 1, fldRw1⟩] }
   Tryz.func11 ⟨hva, trivial⟩ (by kernel_rfl)
theorem kMade2 {r : Raw2} {Wb w : World} {va : Value} (k : r.Ok Wb) (hb : Below Wb.heap.size Wb w) (h : (eqF r.val_).p va w) : Calls Tryz.prog 11 #[va] w (GivesP (ratF r.rat) w) := by
  have kr : r.Ok w := ⟨k.1.into hb, k.2.1.into hb, k.2.2⟩
  unfold Raw2.rat Raw2.ratN
  by_cases hd : r.d.int4 4 = 0
  · rw [if_pos hd]; exact made2_0 va w h kr hd
  · rw [if_neg hd]; exact made2_1 va w h kr hd
theorem kSan2 {Wb w : World} (ht : P10 Wb) (hb : Below Wb.heap.size Wb w) : Calls Tryz.prog 10 #[] w (GivesP (eqF (.bool true)) w) := sanity2_any w (tab_below ht hb)
end Go.Proofs.YtdofolejfdfocaaGreatDoor
