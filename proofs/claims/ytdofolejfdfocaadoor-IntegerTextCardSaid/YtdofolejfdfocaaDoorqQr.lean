/- Texts in the engine: what the operations on strings give, and the contracts of the functions that read and write integers. -/
import Derived.Test.YtdofolejfdfocaaDoorqCut
import Derived.Test.YtdofolejfdfocaaDoorqTx
import Derived.Test.YtdofolejfdfocaaDoorqQ2
import Derived.Test.YtdofolejfdfocaaDoorqCon
import Derived.Test.YtdofolejfdfocaaDoorqRDvP
namespace Go.Proofs.YtdofolejfdfocaaDoor
open Go.RowKit Go.Lib

theorem pow_nine {l K : Nat} (h : l ≤ 9 * K) : 10 ^ l ≤ 4294967296 ^ K := by
  have h1 : 10 ^ l ≤ 10 ^ (9 * K) := Nat.pow_le_pow_right (by decide) h
  refine Nat.le_trans h1 ?_
  rw [Nat.pow_mul]
  exact Nat.pow_le_pow_left (by decide) _
section
variable {ρ : Operand → Value} {w : World} {x y : Operand} {a b : List UInt8}
theorem h_lenS (hx : (eqF (.string ⟨a.toArray⟩)).p (ρ x) w) : Yld (.call { callee := .builtin .len, args := #[x], argTypes := #[9] }) ρ w (eqF (.int .i64 (a.length : Int))) := by
  have hx : ρ x = .string ⟨a.toArray⟩ := hx
  have hs := bytes_size a
  exact yld_mk fun o ho => by unfold execOp; rw [ho]; simp [go_sem, hx, hs]
theorem h_addS (hl : a.length + b.length ≤ 1000000) (hx : (eqF (.string ⟨a.toArray⟩)).p (ρ x) w) (hy : (eqF (.string ⟨b.toArray⟩)).p (ρ y) w) : Yld (.binOp .add 9 x y 9) ρ w (eqF (.string ⟨(a ++ b).toArray⟩)) := by
  have hx : ρ x = .string ⟨a.toArray⟩ := hx
  have hy : ρ y = .string ⟨b.toArray⟩ := hy
  have e : (ByteArray.mk a.toArray) ++ (ByteArray.mk b.toArray) = ⟨(a ++ b).toArray⟩ := by
    apply ByteArray.ext
    simp [ByteArray.data_append]
  exact yld_mk fun o ho => by unfold execOp; rw [ho]; simp [go_sem, hx, hy, e]; omega
theorem h_eqlS {r : Bool} (hr : decide (a = b) = r) (hx : (eqF (.string ⟨a.toArray⟩)).p (ρ x) w) (hy : (eqF (.string ⟨b.toArray⟩)).p (ρ y) w) : Yld (.binOp .eql 9 x y 9) ρ w (eqF (.bool r)) := by
  have hx : ρ x = .string ⟨a.toArray⟩ := hx
  have hy : ρ y = .string ⟨b.toArray⟩ := hy
  have e : (a == b) = r := by rw [← hr, Bool.eq_iff_iff]; simp
  exact yld_mk fun o ho => by unfold execOp; rw [ho]; simp [go_sem, hx, hy, e]
end
theorem read_sm {l : List UInt8} {z : Int} (h : readOf l = some z) (hl : l.length ≤ 2000) : Sm z 250 := by
  have e := text_readOf h
  have hd : z.natAbs < 10 ^ l.length := by
    have h1 : decDigits z.natAbs = l ∨ 45 :: decDigits z.natAbs = l := by
      rw [e]; unfold textZ
      split
      · exact .inr rfl
      · exact .inl rfl
    have h2 := dv_lt (decDigits z.natAbs) (dec_isD _)
    rw [dv_dec] at h2
    refine Nat.lt_of_lt_of_le h2 (Nat.pow_le_pow_right (by decide) ?_)
    rcases h1 with h1 | h1
    · rw [h1]; exact Nat.le_refl _
    · rw [← h1]; simp
  exact Nat.lt_of_lt_of_le hd (pow_nine (by omega))
section
variable {w : World} {va : Value} {l : List UInt8} {z : Int}
theorem gives_read {z ec : Int} {w : World} {e : Ending} {w' : World} (h : GivesRead z ec w e w') : GivesP (tup2F (intF z) (eqF (.int .i64 ec))) w e w' := by
  obtain ⟨v, h1, h2, h3⟩ := h
  exact ⟨_, h1, ⟨_, _, rfl, h2, rfl⟩, h3⟩
theorem kReadS (h : readOf l = some z) (hl : l.length ≤ 2000) (hv : (eqF (.string ⟨l.toArray⟩)).p va w) : Calls Tryd.prog 7 #[va] w (GivesP (tup2F (intF z) (eqF (.int .i64 0))) w) := by
  have hv : va = .string ⟨l.toArray⟩ := hv
  rw [hv]
  have := Read_any l hl w
  rw [h] at this
  exact this.mono fun _ _ => gives_read
theorem kReadN (h : readOf l = none) (hl : l.length ≤ 2000) (hv : (eqF (.string ⟨l.toArray⟩)).p va w) : Calls Tryd.prog 7 #[va] w (GivesP (tup2F (intF 0) (eqF (.int .i64 4))) w) := by
  have hv : va = .string ⟨l.toArray⟩ := hv
  rw [hv]
  have := Read_any l hl w
  rw [h] at this
  exact this.mono fun _ _ => gives_read
theorem take_len {k : Nat} (hl : l.length ≤ 2000) : (l.take k).length ≤ 2000 := by rw [List.length_take]; omega
theorem drop_len {k : Nat} (hl : l.length ≤ 2000) : (l.drop k).length ≤ 2000 := by rw [List.length_drop]; omega
end
end Go.Proofs.YtdofolejfdfocaaDoor
namespace Go.Proofs.YtdofolejfdfocaaDoor
open Go.RowKit Go.Lib

/-- A slice of bytes that nobody writes into. -/
def bytesF (bs : List UInt8) : PF := ⟨fun v w => ∃ g c cur, v = .slice (some ⟨g, 0, none⟩) bs.length c ∧ w.heap[g]? = some (.cells cur 5 (0, 0)) ∧ cur.toList.take bs.length = bs.map encB,
  fun _ _ _ hg ⟨g, c, cur, e, h, k⟩ => ⟨g, c, cur, e, hg.bytes _ _ _ h, k⟩⟩
/-- One byte, and no room behind it. -/
def digF (b : UInt8) : PF := ⟨fun v w => ∃ g, v = .slice (some ⟨g, 0, none⟩) 1 1 ∧ w.heap[g]? = some (.cells #[.int .u8 (b.toNat : Int)] 5 (0, 0)),
  fun _ _ _ hg ⟨g, e, h⟩ => ⟨g, e, hg.bytes _ _ _ h⟩⟩
section
variable {ρ : Operand → Value} {w : World} {x y : Operand} {b : UInt8} {bs : List UInt8}
theorem h_b0 : Yld (.buildSlice 49 0 #[]) ρ w (bytesF []) := by
  refine ⟨.slice (some ⟨w.heap.size, 0, none⟩) 0 0, w.alloc (.cells #[] 5), fun o ho => ?_, below_alloc _ _, ?_⟩
  · unfold execOp
    rw [ho]
    simp [go_sem]
  · exact ⟨_, 0, #[], rfl, heap_alloc_new w _, rfl⟩
theorem h_b1 (hx : (eqF (.int .u8 (b.toNat : Int))).p (ρ x) w) : Yld (.buildSlice 49 1 #[(0, x)]) ρ w (digF b) := by
  have hx : ρ x = .int .u8 (b.toNat : Int) := hx
  refine ⟨.slice (some ⟨w.heap.size, 0, none⟩) 1 1, w.alloc (.cells #[.int .u8 (b.toNat : Int)] 5), fun o ho => ?_, below_alloc _ _, ?_⟩
  · unfold execOp
    rw [ho]
    simp [go_sem, hx]
  · exact ⟨_, rfl, heap_alloc_new w _⟩
theorem h_lenB (hx : (bytesF bs).p (ρ x) w) : Yld (.call { callee := .builtin .len, args := #[x], argTypes := #[49] }) ρ w (eqF (.int .i64 (bs.length : Int))) := by
  obtain ⟨g, c, cur, e, _, _⟩ := hx
  exact yld_mk fun o ho => by unfold execOp; rw [ho]; simp [go_sem, e]
theorem cell_bytes {g : Nat} {cur : Array Value} (h : w.heap[g]? = some (.cells cur 5 (0, 0))) (k : cur.toList.take bs.length = bs.map encB) (j : Nat) (hj : j < bs.length) : w.cell? ((⟨g, 0, none⟩ : Addr).add j) = some (.int .u8 (bs[j].toNat : Int)) := by
  rw [Lib.add_plain, Nat.zero_add, cell_of_row w g j _ _ (0, 0) h]
  have h1 : (cur.toList.take bs.length)[j]? = (bs.map encB)[j]? := by rw [k]
  rw [List.getElem?_take, if_pos hj, List.getElem?_map, List.getElem?_eq_getElem hj] at h1
  rw [← Array.getElem?_toList, h1]
  rfl
theorem h_strB (hx : (bytesF bs).p (ρ x) w) : Yld (.convert 49 9 x) ρ w (eqF (.string ⟨bs.toArray⟩)) := by
  obtain ⟨g, c, cur, e, h, k⟩ := hx
  have hr := run_convert_bytes_back (P := Tryd.prog) w 49 9 5 ⟨g, 0, none⟩ c bs Tryd.underlying49 Tryd.underlying5 Tryd.underlying9 (cell_bytes h k)
  exact yld_mk fun o ho => by unfold execOp; rw [ho]; simp [go_sem, e, hr]
theorem infoB : (Tryd.prog.info? 5).map (fun i => (i.zero, i.size, i.bytes)) = some (some (.int .u8 0), 1, 1) := by kernel_rfl
set_option maxRecDepth 100000 in
theorem h_pre (hl : bs.length ≤ 1000000) (hx : (digF b).p (ρ x) w) (hy : (bytesF bs).p (ρ y) w) : Yld (.call { callee := .builtin .append, args := #[x, y], argTypes := #[49, 49] }) ρ w (bytesF (b :: bs)) := by
  obtain ⟨g, e, h⟩ := hx
  obtain ⟨g', c, cur, e', h', k⟩ := hy
  obtain ⟨i, hi, hz, hsz, hby⟩ := info_parts infoB
  by_cases h0 : bs = []
  · subst h0
    refine ⟨.slice (some ⟨g, 0, none⟩) 1 1, w, fun o ho => ?_, Below.refl _ _, ?_⟩
    · unfold execOp
      rw [ho]
      simp [go_sem, e, e', Builtin.append_, run_underlying Tryd.underlying49, sizeOf, typeInfo, hi, Builtin.lenOf, Builtin.firstCells, storeCells]
    · exact ⟨g, 1, _, rfl, h, by simp [encB]⟩
  · have hpos : 0 < bs.length := List.length_pos_iff.2 h0
    have hc0 : w.cell? ⟨g, 0, none⟩ = some (.int .u8 (b.toNat : Int)) := by rw [cell_of_row w g 0 _ _ (0, 0) h]; rfl
    have hnews : ∀ j v, (bs.map encB)[j]? = some v → w.cell? ((⟨g', 0, none⟩ : Addr).add j) = some v := fun j v hv => by
      rw [List.getElem?_map] at hv
      have hj : j < bs.length := by
        rcases Nat.lt_or_ge j bs.length with hj | hj
        · exact hj
        · rw [List.getElem?_eq_none hj] at hv; cases hv
      rw [List.getElem?_eq_getElem hj] at hv
      injection hv with hv
      rw [cell_bytes h' k j hj, ← hv]
      rfl
    have holds : ∀ j v, [Value.int .u8 (b.toNat : Int)][j]? = some v → w.cell? ((⟨g, 0, none⟩ : Addr).add j) = some v := fun j v hv => by
      cases j with
      | zero => rw [Lib.add_plain]; exact hc0.trans (by simpa using hv)
      | succ j => simp at hv
    obtain ⟨cap, cu, ht, hr⟩ : ∃ (cap : Nat) (cu : Array Value), cu.toList.take (1 + bs.length) = encB b :: bs.map encB ∧ ∀ ty, (Builtin.append_ #[49, 49] ty #[.slice (some ⟨g, 0, none⟩) 1 1, .slice (some ⟨g', 0, none⟩) bs.length c]).run Tryd.prog w = .ok (.slice (some ⟨w.heap.size, 0, none⟩) (1 + bs.length) cap) (w.drew.alloc (.cells cu 5)) := by
      refine ⟨_, _, ?_, fun ty => run_append_grow (P := Tryd.prog) w 49 ty 5 i (.int .u8 0) Tryd.underlying49 hi hz ⟨g, 0, none⟩ 1 1 [.int .u8 (b.toNat : Int)] (by simp [hsz]) holds ⟨g', 0, none⟩ bs.length c (bs.map encB) (by simp [hsz]) hnews (by omega) (by omega) (growslice_fits (by omega) (by rw [hby]; omega))⟩
      rw [Array.toList_append, Array.toList_append]
      rw [List.take_append_of_le_length (by simp; omega), List.take_of_length_le (by simp; omega)]
      rfl
    refine ⟨.slice (some ⟨w.heap.size, 0, none⟩) (1 + bs.length) cap, w.drew.alloc (.cells cu 5), fun o ho => ?_, ((Below.refl w.heap.size w).drew).alloc (Nat.le_refl _) _, ?_⟩
    · unfold execOp
      rw [ho]
      simp only [resolve, invoke, builtin, Sem.run_bind, Sem.run_pure, Result.andThen_ok, List.map_toArray, List.map_cons, List.map_nil, e, e', hr]
    · refine ⟨w.heap.size, cap, cu, by rw [List.length_cons, Nat.add_comm], heap_alloc_new w.drew _, ?_⟩
      rw [List.length_cons, Nat.add_comm, ht]
      rfl
/-- A character of a text. -/
theorem h_chr {k : Nat} (hk : bs[k]? = some b) (hx : (eqF (.string ⟨bs.toArray⟩)).p (ρ x) w) (hy : (eqF (.int .i64 (k : Int))).p (ρ y) w) : Yld (.index 9 x y) ρ w (eqF (.int .u8 (b.toNat : Int))) := by
  have hx : ρ x = .string ⟨bs.toArray⟩ := hx
  have hy : ρ y = .int .i64 (k : Int) := hy
  obtain ⟨hlt, hb⟩ := List.getElem?_eq_some_iff.1 hk
  have hs := bytes_size bs
  have hpos : k < (ByteArray.mk bs.toArray).size := by omega
  have h0 := bytes_at hk hpos
  exact yld_mk fun o ho => by unfold execOp; rw [ho]; simp [go_sem, hx, hy, hs, hlt, h0]
theorem h_cv8 {a : Int} {u : Nat} (h0 : a = (u : Int)) (hu : u < 256) (hx : (eqF (.int .i64 a)).p (ρ x) w) : Yld (.convert 2 5 x) ρ w (eqF (.int .u8 ((UInt8.ofNat u).toNat : Int))) := by
  have hx : ρ x = .int .i64 a := hx
  subst h0
  have e : IntKind.u8.wrap (u : Int) = ((UInt8.ofNat u).toNat : Int) := by
    rw [UInt8.toNat_ofNat']
    simp [IntKind.wrap, IntKind.bits, IntKind.signed]
  exact yld_mk fun o ho => by unfold execOp; rw [ho]; simp [go_sem, hx, e]
theorem h_cv8i (hx : (eqF (.int .u8 (b.toNat : Int))).p (ρ x) w) : Yld (.convert 5 2 x) ρ w (eqF (.int .i64 (b.toNat : Int))) := by
  have hx : ρ x = .int .u8 (b.toNat : Int) := hx
  have hb := b.toNat_lt
  have e : IntKind.i64.wrap (b.toNat : Int) = (b.toNat : Int) := by rw [IntKind.wrap_i64]; omega
  exact yld_mk fun o ho => by unfold execOp; rw [ho]; simp [go_sem, hx, e]
/-- What stands behind place k. -/
theorem h_from {k : Nat} (hk : k ≤ bs.length) (hx : (eqF (.string ⟨bs.toArray⟩)).p (ρ x) w) (hy : (eqF (.int .i64 (k : Int))).p (ρ y) w) : Yld (.slice 9 x (some y) none none) ρ w (eqF (.string ⟨(bs.drop k).toArray⟩)) := by
  have hx : ρ x = .string ⟨bs.toArray⟩ := hx
  have hy : ρ y = .int .i64 (k : Int) := hy
  have hs := bytes_size bs
  have hx2 := extract_drop bs k bs.length (Nat.le_refl _)
  exact yld_mk fun o ho => by unfold execOp; rw [ho]; simp [go_sem, hx, hy, hs, hx2]; omega
theorem h_upto {k : Nat} (hk : k ≤ bs.length) (hx : (eqF (.string ⟨bs.toArray⟩)).p (ρ x) w) (hy : (eqF (.int .i64 (k : Int))).p (ρ y) w) : Yld (.slice 9 x none (some y) none) ρ w (eqF (.string ⟨(bs.take k).toArray⟩)) := by
  have hx : ρ x = .string ⟨bs.toArray⟩ := hx
  have hy : ρ y = .int .i64 (k : Int) := hy
  have hs := bytes_size bs
  have hx1 := extract_take bs k
  exact yld_mk fun o ho => by unfold execOp; rw [ho]; simp [go_sem, hx, hy, hs, hx1]; omega
end

/-! ### The digits, from the last one on -/
/-- The bytes are the digits of n behind those of u, which are still to come. -/
def DigInv (n u : Nat) (bs : List UInt8) : Prop := (bs = [] ∧ u = n) ∨ (bs ≠ [] ∧ decDigits n = (if u = 0 then [] else decDigits u) ++ bs)
theorem dec_step (u : Nat) : decDigits u = (if u / 10 = 0 then [] else decDigits (u / 10)) ++ [UInt8.ofNat (48 + u % 10)] := by
  by_cases h : u < 10
  · rw [if_pos (by omega), dec_small h, Nat.mod_eq_of_lt h, List.nil_append]
  · rw [if_neg (by omega), dec_big h]
theorem DigInv.next {n u : Nat} {bs : List UInt8} (h : DigInv n u bs) (h0 : 0 < u ∨ bs = []) : DigInv n (u / 10) (UInt8.ofNat (48 + u % 10) :: bs) := by
  refine .inr ⟨by simp, ?_⟩
  rcases h with ⟨rfl, rfl⟩ | ⟨h1, h2⟩
  · exact dec_step u
  · have hu : 0 < u := h0.resolve_right h1
    rw [h2, if_neg (by omega), dec_step u, List.append_assoc]
    rfl
theorem DigInv.done {n u : Nat} {bs : List UInt8} (h : DigInv n u bs) (h0 : ¬ 0 < u) (h1 : bs ≠ []) : bs = decDigits n := by
  rcases h with ⟨h, _⟩ | ⟨_, h2⟩
  · exact absurd h h1
  · rw [h2, if_pos (by omega), List.nil_append]
theorem DigInv.len {n u : Nat} {bs : List UInt8} (h : DigInv n u bs) : bs.length ≤ nDigits n := by
  rw [← decDigits_length]
  rcases h with ⟨rfl, _⟩ | ⟨_, h2⟩
  · exact Nat.zero_le _
  · rw [h2, List.length_append]; omega
end Go.Proofs.YtdofolejfdfocaaDoor
namespace Go.Proofs.YtdofolejfdfocaaDoor
open Go.RowKit Go.Lib

theorem textZ_neg {z : Int} (hz : z < 0) : textZ z = [45] ++ decDigits z.natAbs := by
  unfold textZ
  rw [if_pos hz]
  rfl
theorem textZ_pos {z : Int} (hz : ¬ z < 0) : textZ z = decDigits z.natAbs := by
  unfold textZ
  rw [if_neg hz]
theorem inI64_mod (u : Nat) : inI64 (((u : Nat) : Int) % 10) = true := by
  unfold inI64
  simp only [Bool.and_eq_true, decide_eq_true_eq]
  omega
theorem dlen {z : Int} {i : Nat} (sz : Sm z i) (hi : i ≤ 400) : (decDigits z.natAbs).length ≤ 5000 := by
  rw [decDigits_length]
  by_cases h : 0 < z.natAbs
  · have h1 := nDigits_limbs z.natAbs h
    have h2 := len_le_pow sz
    omega
  · rw [show z.natAbs = 0 by omega, nDigits_small (by decide)]
    omega

noncomputable def rtx_n0 : Code := bodyOf Tryd.f9
noncomputable def rtx_n1 : Code := cl rtx_n0
noncomputable def rtx_n2 : Code := cr rtx_n0
theorem rtx_e0 : rtx_n0 = .seq rtx_n1 rtx_n2 := by kernel_rfl
noncomputable def rtx_o0 : Array Oper := opsOf rtx_n1
theorem rtx_e1 : rtx_n1 = .region 0 rtx_o0 false := by kernel_rfl
noncomputable def rtx_n3 : Code := cl rtx_n2
noncomputable def rtx_n4 : Code := cr rtx_n2
theorem rtx_e2 : rtx_n2 = .seq rtx_n3 rtx_n4 := by kernel_rfl
noncomputable def rtx_o1 : Array Oper := opsOf rtx_n3
theorem rtx_e3 : rtx_n3 = .region 1 rtx_o1 false := by kernel_rfl
noncomputable def rtx_n5 : Code := cl rtx_n4
noncomputable def rtx_n6 : Code := cr rtx_n4
theorem rtx_e4 : rtx_n4 = .seq rtx_n5 rtx_n6 := by kernel_rfl
noncomputable def rtx_n7 : Code := cl rtx_n5
theorem rtx_e5 : rtx_n5 = .block 0 rtx_n7 := by kernel_rfl
noncomputable def rtx_n8 : Code := cl rtx_n7
theorem rtx_e7 : rtx_n7 = .loop rtx_n8 := by kernel_rfl
noncomputable def rtx_n9 : Code := cl rtx_n8
noncomputable def rtx_n10 : Code := cr rtx_n8
theorem rtx_e8 : rtx_n8 = .seq rtx_n9 rtx_n10 := by kernel_rfl
noncomputable def rtx_n11 : Code := cl rtx_n9
noncomputable def rtx_n12 : Code := cr rtx_n9
theorem rtx_e9 : rtx_n9 = .seq rtx_n11 rtx_n12 := by kernel_rfl
noncomputable def rtx_o2 : Array Oper := opsOf rtx_n11
theorem rtx_e11 : rtx_n11 = .region 2 rtx_o2 false := by kernel_rfl
noncomputable def rtx_n13 : Code := cl rtx_n12
noncomputable def rtx_n14 : Code := cr rtx_n12
theorem rtx_e12 : rtx_n12 = .cond (.tmp 24) rtx_n13 rtx_n14 := by kernel_rfl
theorem rtx_e13 : rtx_n13 = .skip := by kernel_rfl
theorem rtx_e14 : rtx_n14 = .exit 0 := by kernel_rfl
noncomputable def rtx_n15 : Code := cl rtx_n10
theorem rtx_e10 : rtx_n10 = .block 1 rtx_n15 := by kernel_rfl
noncomputable def rtx_n16 : Code := cl rtx_n15
noncomputable def rtx_n17 : Code := cr rtx_n15
theorem rtx_e15 : rtx_n15 = .seq rtx_n16 rtx_n17 := by kernel_rfl
noncomputable def rtx_o3 : Array Oper := opsOf rtx_n16
theorem rtx_e16 : rtx_n16 = .region 3 rtx_o3 false := by kernel_rfl
noncomputable def rtx_n18 : Code := cl rtx_n17
noncomputable def rtx_n19 : Code := cr rtx_n17
theorem rtx_e17 : rtx_n17 = .seq rtx_n18 rtx_n19 := by kernel_rfl
noncomputable def rtx_o4 : Array Oper := opsOf rtx_n18
theorem rtx_e18 : rtx_n18 = .region 4 rtx_o4 false := by kernel_rfl
noncomputable def rtx_n20 : Code := cl rtx_n19
noncomputable def rtx_n21 : Code := cr rtx_n19
theorem rtx_e19 : rtx_n19 = .seq rtx_n20 rtx_n21 := by kernel_rfl
noncomputable def rtx_o5 : Array Oper := opsOf rtx_n20
theorem rtx_e20 : rtx_n20 = .region 5 rtx_o5 false := by kernel_rfl
noncomputable def rtx_n22 : Code := cl rtx_n21
noncomputable def rtx_n23 : Code := cr rtx_n21
theorem rtx_e21 : rtx_n21 = .seq rtx_n22 rtx_n23 := by kernel_rfl
noncomputable def rtx_o6 : Array Oper := opsOf rtx_n22
theorem rtx_e22 : rtx_n22 = .region 6 rtx_o6 false := by kernel_rfl
noncomputable def rtx_o7 : Array Oper := opsOf rtx_n23
theorem rtx_e23 : rtx_n23 = .region 7 rtx_o7 false := by kernel_rfl
noncomputable def rtx_n24 : Code := cl rtx_n6
noncomputable def rtx_n25 : Code := cr rtx_n6
theorem rtx_e6 : rtx_n6 = .seq rtx_n24 rtx_n25 := by kernel_rfl
noncomputable def rtx_n26 : Code := cl rtx_n24
noncomputable def rtx_n27 : Code := cr rtx_n24
theorem rtx_e24 : rtx_n24 = .seq rtx_n26 rtx_n27 := by kernel_rfl
noncomputable def rtx_o8 : Array Oper := opsOf rtx_n26
theorem rtx_e26 : rtx_n26 = .region 8 rtx_o8 false := by kernel_rfl
noncomputable def rtx_n28 : Code := cl rtx_n27
noncomputable def rtx_n29 : Code := cr rtx_n27
theorem rtx_e27 : rtx_n27 = .cond (.tmp 46) rtx_n28 rtx_n29 := by kernel_rfl
noncomputable def rtx_n30 : Code := cl rtx_n28
noncomputable def rtx_n31 : Code := cr rtx_n28
theorem rtx_e28 : rtx_n28 = .seq rtx_n30 rtx_n31 := by kernel_rfl
noncomputable def rtx_o9 : Array Oper := opsOf rtx_n30
theorem rtx_e30 : rtx_n30 = .region 9 rtx_o9 false := by kernel_rfl
theorem rtx_e31 : rtx_n31 = .ret := by kernel_rfl
theorem rtx_e29 : rtx_n29 = .skip := by kernel_rfl
noncomputable def rtx_n32 : Code := cl rtx_n25
noncomputable def rtx_n33 : Code := cr rtx_n25
theorem rtx_e25 : rtx_n25 = .seq rtx_n32 rtx_n33 := by kernel_rfl
noncomputable def rtx_o10 : Array Oper := opsOf rtx_n32
theorem rtx_e32 : rtx_n32 = .region 10 rtx_o10 false := by kernel_rfl
theorem rtx_e33 : rtx_n33 = .ret := by kernel_rfl
set_option maxRecDepth 100000 in
theorem rtx_r0 {Q : Exit → Act → World → Prop} {Wb W0 : World} {a0 : Act} {z : Int} {i : Nat} (_sz : Sm z i) (_hi : i ≤ 400)  (hst : St Wb 52 [(0, (intF z))] [] a0 W0)
    (fin : ∀ a w, St Wb 52 [(0, (intF z)), (2, (eqF (.string { data := #[] })))] [(1, (boxIF z))] a w → Q .normal a w) : (Code.region 0 rtx_o0 false).wp Tryd.prog Q a0 W0 := by
  let E : List PF := [(intF z)]
  let EB : List CF := [(boxIF z)]
  exact region_auto (E := E) (EB := EB) (s := ⟨[(0, (.ref 0))], []⟩)
   { boxes := [⟨27, (.ref 0), 0, fun w v h => boxI_run w v h⟩] }
   ⟨[(0, (.ref 0)), (2, (.str { data := #[] }))], [(1, 0)]⟩ hst (by kernel_rfl) fin
set_option maxRecDepth 100000 in
theorem rtx_r1 {Q : Exit → Act → World → Prop} {Wb W0 : World} {a0 : Act} {z : Int} {i : Nat} (sz : Sm z i) (_hi : i ≤ 400)  (hst : St Wb 52 [(0, (intF z)), (2, (eqF (.string { data := #[] })))] [(1, (boxIF z))] a0 W0)
    (fin : ∀ a w, St Wb 52 [(0, (intF z)), (2, (eqF (.string { data := #[] }))), (3, (bytesF ([])))] [(1, (boxIF z)), (4, (boxIF ((z.natAbs : Nat) : Int))), (5, (boxIF 10))] a w → Q .normal a w) : (Code.region 1 rtx_o1 false).wp Tryd.prog Q a0 W0 := by
  let E : List PF := [(bytesF ([])), (natF z.natAbs), (intF ((z.natAbs : Nat) : Int)), (intF 10), (intF z)]
  let EB : List CF := [(boxIF z), zeroIF, (boxIF ((z.natAbs : Nat) : Int)), (boxIF 10)]
  exact region_auto (E := E) (EB := EB) (s := ⟨[(0, (.ref 4)), (2, (.str { data := #[] }))], [(1, 0)]⟩)
   { pures := [p0 (.blds 49 0 []) (.ref 0) fun _ _ _ => h_b0],
     calls := [c2 19 (.ref 1) (.bool false) (.ref 2) fun w v0 v1 hb h0 h1 => kRMadeN h0 h1 (Nat.le_trans (len_le_pow sz) (by omega)),
      c1 15 (.int .i64 10) (.ref 3) fun w v0 hb h0 => kROf 10 (by omega) (by omega) h0],
     loads := [⟨22, 1, 0, (.ref 1), fun w q h => loadI_mag w q h⟩],
     allocs := [⟨27, 1, _, allocI_run, allocI_old⟩],
     stores := [⟨27, 0, 1, (.ref 2), 2, (storeI_zero _)⟩,
      ⟨27, 0, 1, (.ref 3), 3, (storeI_zero _)⟩],
     flds := [⟨27, 1, 1, fldI1⟩] }
   ⟨[(0, (.ref 4)), (2, (.str { data := #[] })), (3, (.ref 0))], [(1, 0), (4, 2), (5, 3)]⟩ hst (by kernel_rfl) fin
set_option maxRecDepth 100000 in
theorem rtx_r2 {Q : Exit → Act → World → Prop} {Wb W0 : World} {a0 : Act} {z : Int} {i : Nat} (_sz : Sm z i) (_hi : i ≤ 400) {u : Nat} {bs : List UInt8} (su : Sm ((u : Nat) : Int) i) (_hbl : bs.length ≤ 1000000) (_hu0 : 0 < u) (hst : St Wb 52 [(0, (intF z)), (2, (eqF (.string { data := #[] }))), (3, (bytesF bs))] [(1, (boxIF z)), (4, (boxIF ((u : Nat) : Int))), (5, (boxIF 10))] a0 W0)
    (fin : ∀ a w, St Wb 52 [(0, (intF z)), (2, (eqF (.string { data := #[] }))), (3, (bytesF bs)), (24, (eqF (.bool true)))] [(1, (boxIF z)), (4, (boxIF ((u : Nat) : Int))), (5, (boxIF 10))] a w → Q .normal a w) : (Code.region 2 rtx_o2 false).wp Tryd.prog Q a0 W0 := by
  let E : List PF := [(intF ((u : Nat) : Int)), (eqF (.int .i64 (Int.sign ((u : Nat) : Int)))), (intF z), (bytesF bs)]
  let EB : List CF := [(boxIF ((u : Nat) : Int)), (boxIF z), (boxIF 10)]
  exact region_auto (E := E) (EB := EB) (s := ⟨[(0, (.ref 2)), (2, (.str { data := #[] })), (3, (.ref 3))], [(1, 1), (4, 0), (5, 2)]⟩)
   { pures := [p2 (.bin .gtr 3 3) (.ref 1) (.int .i64 0) (.bool true) fun _ _ _ _ _ hx hy => h_gtr (r := true) (by rw [Int.sign_eq_one_of_pos (by omega)]; rfl) hx hy],
     calls := [c1 31 (.ref 0) (.ref 1) fun w v0 hb h0 => kRSign h0 su (by first | decide | assumption | omega)],
     loads := [⟨27, 0, 0, (.ref 0), fun w q h => loadI_int w q h⟩] }
   ⟨[(0, (.ref 2)), (2, (.str { data := #[] })), (3, (.ref 3)), (24, (.bool true))], [(1, 1), (4, 0), (5, 2)]⟩ hst (by kernel_rfl) fin
set_option maxRecDepth 100000 in
theorem rtx_r3 {Q : Exit → Act → World → Prop} {Wb W0 : World} {a0 : Act} {z : Int} {i : Nat} (_sz : Sm z i) (_hi : i ≤ 400) {u : Nat} {bs : List UInt8} (su : Sm ((u : Nat) : Int) i) (hst : St Wb 52 [(0, (intF z)), (2, (eqF (.string { data := #[] }))), (3, (bytesF bs)), (24, (eqF (.bool true)))] [(1, (boxIF z)), (4, (boxIF ((u : Nat) : Int))), (5, (boxIF 10))] a0 W0)
    (fin : ∀ a w, St Wb 52 [(0, (intF z)), (2, (eqF (.string { data := #[] }))), (3, (bytesF bs)), (24, (eqF (.bool true)))] [(1, (boxIF z)), (4, (boxIF ((u : Nat) : Int))), (5, (boxIF 10)), (6, (boxIF (((u : Nat) : Int) / 10))), (7, (boxIF (((u : Nat) : Int) % 10)))] a w → Q .normal a w) : (Code.region 3 rtx_o3 false).wp Tryd.prog Q a0 W0 := by
  let E : List PF := [(intF ((u : Nat) : Int)), (intF 10), (intF (((u : Nat) : Int) / 10)), (intF (((u : Nat) : Int) % 10)), (intF z), (bytesF bs)]
  let EB : List CF := [(boxIF ((u : Nat) : Int)), (boxIF 10), zeroIF, (boxIF (((u : Nat) : Int) / 10)), (boxIF (((u : Nat) : Int) % 10)), (boxIF z)]
  exact region_auto (E := E) (EB := EB) (s := ⟨[(0, (.ref 4)), (2, (.str { data := #[] })), (3, (.ref 5)), (24, (.bool true))], [(1, 5), (4, 0), (5, 1)]⟩)
   { calls := [c2 32 (.ref 0) (.ref 1) (.tup3 (.ref 2) (.ref 3) (.int .i64 0)) fun w v0 v1 hb h0 h1 => kRDivMod h0 h1 su (Sm.of 10 (by decide)) (by first | decide | assumption | omega) (by first | decide | assumption | omega) (by decide)],
     loads := [⟨27, 0, 0, (.ref 0), fun w q h => loadI_int w q h⟩,
      ⟨27, 0, 1, (.ref 1), fun w q h => loadI_int w q h⟩],
     allocs := [⟨27, 2, _, allocI_run, allocI_old⟩],
     stores := [⟨27, 0, 2, (.ref 2), 3, (storeI_zero _)⟩,
      ⟨27, 0, 2, (.ref 3), 4, (storeI_zero _)⟩] }
   ⟨[(0, (.ref 4)), (2, (.str { data := #[] })), (3, (.ref 5)), (24, (.bool true))], [(1, 5), (4, 0), (5, 1), (6, 3), (7, 4)]⟩ hst (by kernel_rfl) fin
set_option maxRecDepth 100000 in
theorem rtx_r4 {Q : Exit → Act → World → Prop} {Wb W0 : World} {a0 : Act} {z : Int} {i : Nat} (_sz : Sm z i) (_hi : i ≤ 400) {u : Nat} {bs : List UInt8} (_su : Sm ((u : Nat) : Int) i) (_hbl : bs.length ≤ 1000000) (_hu0 : 0 < u) (hst : St Wb 52 [(0, (intF z)), (2, (eqF (.string { data := #[] }))), (3, (bytesF bs)), (24, (eqF (.bool true)))] [(1, (boxIF z)), (4, (boxIF ((u : Nat) : Int))), (5, (boxIF 10)), (6, (boxIF (((u : Nat) : Int) / 10))), (7, (boxIF (((u : Nat) : Int) % 10)))] a0 W0)
    (fin : ∀ a w, St Wb 52 [(0, (intF z)), (2, (eqF (.string { data := #[] }))), (3, (bytesF bs)), (9, (eqF (.int .i64 (((u : Nat) : Int) % 10)))), (24, (eqF (.bool true)))] [(1, (boxIF z)), (4, (boxIF ((u : Nat) : Int))), (5, (boxIF 10)), (6, (boxIF (((u : Nat) : Int) / 10))), (7, (boxIF (((u : Nat) : Int) % 10)))] a w → Q .normal a w) : (Code.region 4 rtx_o4 false).wp Tryd.prog Q a0 W0 := by
  let E : List PF := [(intF (((u : Nat) : Int) % 10)), (eqF (.int .i64 (((u : Nat) : Int) % 10))), (intF z), (bytesF bs)]
  let EB : List CF := [(boxIF (((u : Nat) : Int) % 10)), (boxIF z), (boxIF ((u : Nat) : Int)), (boxIF 10), (boxIF (((u : Nat) : Int) / 10))]
  exact region_auto (E := E) (EB := EB) (s := ⟨[(0, (.ref 2)), (2, (.str { data := #[] })), (3, (.ref 3)), (24, (.bool true))], [(1, 1), (4, 2), (5, 3), (6, 4), (7, 0)]⟩)
   { calls := [c1 33 (.ref 0) (.tup2 (.ref 1) (.bool true)) fun w v0 hb h0 => kRSmallT h0 ((Sm.of 10 (by decide)).mod (by decide)) (by decide) (inI64_mod u)],
     loads := [⟨27, 0, 0, (.ref 0), fun w q h => loadI_int w q h⟩] }
   ⟨[(0, (.ref 2)), (2, (.str { data := #[] })), (3, (.ref 3)), (9, (.ref 1)), (24, (.bool true))], [(1, 1), (4, 2), (5, 3), (6, 4), (7, 0)]⟩ hst (by kernel_rfl) fin
set_option maxRecDepth 100000 in
theorem rtx_r5 {Q : Exit → Act → World → Prop} {Wb W0 : World} {a0 : Act} {z : Int} {i : Nat} (_sz : Sm z i) (_hi : i ≤ 400) {u : Nat} {bs : List UInt8} (_su : Sm ((u : Nat) : Int) i) (_hbl : bs.length ≤ 1000000) (_hu0 : 0 < u) (hst : St Wb 52 [(0, (intF z)), (2, (eqF (.string { data := #[] }))), (3, (bytesF bs)), (9, (eqF (.int .i64 (((u : Nat) : Int) % 10)))), (24, (eqF (.bool true)))] [(1, (boxIF z)), (4, (boxIF ((u : Nat) : Int))), (5, (boxIF 10)), (6, (boxIF (((u : Nat) : Int) / 10))), (7, (boxIF (((u : Nat) : Int) % 10)))] a0 W0)
    (fin : ∀ a w, St Wb 52 [(0, (intF z)), (2, (eqF (.string { data := #[] }))), (3, (bytesF bs)), (9, (eqF (.int .i64 (((u : Nat) : Int) % 10)))), (11, (digF (UInt8.ofNat (48 + u % 10)))), (24, (eqF (.bool true)))] [(1, (boxIF z)), (4, (boxIF ((u : Nat) : Int))), (5, (boxIF 10)), (6, (boxIF (((u : Nat) : Int) / 10))), (7, (boxIF (((u : Nat) : Int) % 10)))] a w → Q .normal a w) : (Code.region 5 rtx_o5 false).wp Tryd.prog Q a0 W0 := by
  let E : List PF := [(eqF (.int .i64 (((u : Nat) : Int) % 10))), (eqF (.int .i64 ((48 + u % 10 : Nat) : Int))), (eqF (.int .u8 ((UInt8.ofNat (48 + u % 10)).toNat : Int))), (digF (UInt8.ofNat (48 + u % 10))), (intF z), (bytesF bs)]
  let EB : List CF := [(boxIF z), (boxIF ((u : Nat) : Int)), (boxIF 10), (boxIF (((u : Nat) : Int) / 10)), (boxIF (((u : Nat) : Int) % 10))]
  exact region_auto (E := E) (EB := EB) (s := ⟨[(0, (.ref 4)), (2, (.str { data := #[] })), (3, (.ref 5)), (9, (.ref 0)), (24, (.bool true))], [(1, 0), (4, 1), (5, 2), (6, 3), (7, 4)]⟩)
   { pures := [p2 (.bin .add 2 2) (.int .i64 48) (.ref 0) (.ref 1) fun _ _ _ _ _ hx hy => h_add (z := ((48 + u % 10 : Nat) : Int)) (by rw [IntKind.wrap_i64]; omega) hx hy,
      p1 (.conv 2 5) (.ref 1) (.ref 2) fun _ _ _ _ hx => h_cv8 (u := (48 + u % 10)) rfl (by omega) hx,
      p1 (.blds 49 1 [0]) (.ref 2) (.ref 3) fun _ _ _ _ hx => h_b1 hx] }
   ⟨[(0, (.ref 4)), (2, (.str { data := #[] })), (3, (.ref 5)), (9, (.ref 0)), (11, (.ref 3)), (24, (.bool true))], [(1, 0), (4, 1), (5, 2), (6, 3), (7, 4)]⟩ hst (by kernel_rfl) fin
set_option maxRecDepth 100000 in
theorem rtx_r6 {Q : Exit → Act → World → Prop} {Wb W0 : World} {a0 : Act} {z : Int} {i : Nat} (_sz : Sm z i) (_hi : i ≤ 400) {u : Nat} {bs : List UInt8} (_su : Sm ((u : Nat) : Int) i) (hbl : bs.length ≤ 1000000) (_hu0 : 0 < u) (hst : St Wb 52 [(0, (intF z)), (2, (eqF (.string { data := #[] }))), (3, (bytesF bs)), (9, (eqF (.int .i64 (((u : Nat) : Int) % 10)))), (11, (digF (UInt8.ofNat (48 + u % 10)))), (24, (eqF (.bool true)))] [(1, (boxIF z)), (4, (boxIF ((u : Nat) : Int))), (5, (boxIF 10)), (6, (boxIF (((u : Nat) : Int) / 10))), (7, (boxIF (((u : Nat) : Int) % 10)))] a0 W0)
    (fin : ∀ a w, St Wb 52 [(0, (intF z)), (2, (eqF (.string { data := #[] }))), (3, (bytesF ((UInt8.ofNat (48 + u % 10)) :: bs))), (9, (eqF (.int .i64 (((u : Nat) : Int) % 10)))), (11, (digF (UInt8.ofNat (48 + u % 10)))), (24, (eqF (.bool true)))] [(1, (boxIF z)), (4, (boxIF ((u : Nat) : Int))), (5, (boxIF 10)), (6, (boxIF (((u : Nat) : Int) / 10))), (7, (boxIF (((u : Nat) : Int) % 10)))] a w → Q .normal a w) : (Code.region 6 rtx_o6 false).wp Tryd.prog Q a0 W0 := by
  let E : List PF := [(digF (UInt8.ofNat (48 + u % 10))), (bytesF bs), (bytesF ((UInt8.ofNat (48 + u % 10)) :: bs)), (intF z), (eqF (.int .i64 (((u : Nat) : Int) % 10)))]
  let EB : List CF := [(boxIF z), (boxIF ((u : Nat) : Int)), (boxIF 10), (boxIF (((u : Nat) : Int) / 10)), (boxIF (((u : Nat) : Int) % 10))]
  exact region_auto (E := E) (EB := EB) (s := ⟨[(0, (.ref 3)), (2, (.str { data := #[] })), (3, (.ref 1)), (9, (.ref 4)), (11, (.ref 0)), (24, (.bool true))], [(1, 0), (4, 1), (5, 2), (6, 3), (7, 4)]⟩)
   { pures := [p2 (.blt .append [49, 49]) (.ref 0) (.ref 1) (.ref 2) fun _ _ _ _ _ hx hy => h_pre hbl hx hy] }
   ⟨[(0, (.ref 3)), (2, (.str { data := #[] })), (3, (.ref 2)), (9, (.ref 4)), (11, (.ref 0)), (24, (.bool true))], [(1, 0), (4, 1), (5, 2), (6, 3), (7, 4)]⟩ hst (by kernel_rfl) fin
set_option maxRecDepth 100000 in
theorem rtx_r7 {Q : Exit → Act → World → Prop} {Wb W0 : World} {a0 : Act} {z : Int} {i : Nat} (_sz : Sm z i) (_hi : i ≤ 400) {u : Nat} {bs : List UInt8} (_su : Sm ((u : Nat) : Int) i) (hst : St Wb 52 [(0, (intF z)), (2, (eqF (.string { data := #[] }))), (3, (bytesF ((UInt8.ofNat (48 + u % 10)) :: bs))), (9, (eqF (.int .i64 (((u : Nat) : Int) % 10)))), (11, (digF (UInt8.ofNat (48 + u % 10)))), (24, (eqF (.bool true)))] [(1, (boxIF z)), (4, (boxIF ((u : Nat) : Int))), (5, (boxIF 10)), (6, (boxIF (((u : Nat) : Int) / 10))), (7, (boxIF (((u : Nat) : Int) % 10)))] a0 W0)
    (fin : ∀ a w, St Wb 52 [(0, (intF z)), (2, (eqF (.string { data := #[] }))), (3, (bytesF ((UInt8.ofNat (48 + u % 10)) :: bs))), (9, (eqF (.int .i64 (((u : Nat) : Int) % 10)))), (11, (digF (UInt8.ofNat (48 + u % 10)))), (24, (eqF (.bool true)))] [(1, (boxIF z)), (4, (boxIF (((u : Nat) : Int) / 10))), (5, (boxIF 10)), (6, (boxIF (((u : Nat) : Int) / 10))), (7, (boxIF (((u : Nat) : Int) % 10)))] a w → Q .normal a w) : (Code.region 7 rtx_o7 false).wp Tryd.prog Q a0 W0 := by
  let E : List PF := [(intF (((u : Nat) : Int) / 10)), (intF z), (bytesF ((UInt8.ofNat (48 + u % 10)) :: bs)), (eqF (.int .i64 (((u : Nat) : Int) % 10))), (digF (UInt8.ofNat (48 + u % 10)))]
  let EB : List CF := [(boxIF (((u : Nat) : Int) / 10)), (boxIF ((u : Nat) : Int)), (boxIF z), (boxIF 10), (boxIF (((u : Nat) : Int) % 10))]
  exact region_auto (E := E) (EB := EB) (s := ⟨[(0, (.ref 1)), (2, (.str { data := #[] })), (3, (.ref 2)), (9, (.ref 3)), (11, (.ref 4)), (24, (.bool true))], [(1, 2), (4, 1), (5, 3), (6, 0), (7, 4)]⟩)
   { loads := [⟨27, 0, 0, (.ref 0), fun w q h => loadI_int w q h⟩],
     stores := [⟨27, 0, 1, (.ref 0), 0, (storeI_box _ _)⟩] }
   ⟨[(0, (.ref 1)), (2, (.str { data := #[] })), (3, (.ref 2)), (9, (.ref 3)), (11, (.ref 4)), (24, (.bool true))], [(1, 2), (4, 0), (5, 3), (6, 0), (7, 4)]⟩ hst (by kernel_rfl) fin
set_option maxRecDepth 100000 in
theorem rtx_r2b {Q : Exit → Act → World → Prop} {Wb W0 : World} {a0 : Act} {z : Int} {i : Nat} (_sz : Sm z i) (_hi : i ≤ 400) {u : Nat} {bs : List UInt8} (su : Sm ((u : Nat) : Int) i) (_hbl : bs.length ≤ 1000000) (_hu0 : ¬ 0 < u) (hb0 : bs = []) (hst : St Wb 52 [(0, (intF z)), (2, (eqF (.string { data := #[] }))), (3, (bytesF bs))] [(1, (boxIF z)), (4, (boxIF ((u : Nat) : Int))), (5, (boxIF 10))] a0 W0)
    (fin : ∀ a w, St Wb 52 [(0, (intF z)), (2, (eqF (.string { data := #[] }))), (3, (bytesF bs)), (24, (eqF (.bool true)))] [(1, (boxIF z)), (4, (boxIF ((u : Nat) : Int))), (5, (boxIF 10))] a w → Q .normal a w) : (Code.region 2 rtx_o2 false).wp Tryd.prog Q a0 W0 := by
  let E : List PF := [(intF ((u : Nat) : Int)), (eqF (.int .i64 (Int.sign ((u : Nat) : Int)))), (bytesF bs), (eqF (.int .i64 (bs.length : Int))), (intF z)]
  let EB : List CF := [(boxIF ((u : Nat) : Int)), (boxIF z), (boxIF 10)]
  exact region_auto (E := E) (EB := EB) (s := ⟨[(0, (.ref 4)), (2, (.str { data := #[] })), (3, (.ref 2))], [(1, 1), (4, 0), (5, 2)]⟩)
   { pures := [p2 (.bin .gtr 3 3) (.ref 1) (.int .i64 0) (.bool false) fun _ _ _ _ _ hx hy => h_gtr (r := false) (by rw [show ((u : Nat) : Int) = 0 by omega]; rfl) hx hy,
      p1 (.blt .len [49]) (.ref 2) (.ref 3) fun _ _ _ _ hx => h_lenB hx,
      p2 (.bin .eql 3 3) (.ref 3) (.int .i64 0) (.bool true) fun _ _ _ _ _ hx hy => h_eqlI (r := true) (by rw [hb0]; rfl) hx hy],
     calls := [c1 31 (.ref 0) (.ref 1) fun w v0 hb h0 => kRSign h0 su (by first | decide | assumption | omega)],
     loads := [⟨27, 0, 0, (.ref 0), fun w q h => loadI_int w q h⟩] }
   ⟨[(0, (.ref 4)), (2, (.str { data := #[] })), (3, (.ref 2)), (24, (.bool true))], [(1, 1), (4, 0), (5, 2)]⟩ hst (by kernel_rfl) fin
set_option maxRecDepth 100000 in
theorem rtx_r4b {Q : Exit → Act → World → Prop} {Wb W0 : World} {a0 : Act} {z : Int} {i : Nat} (_sz : Sm z i) (_hi : i ≤ 400) {u : Nat} {bs : List UInt8} (_su : Sm ((u : Nat) : Int) i) (_hbl : bs.length ≤ 1000000) (_hu0 : ¬ 0 < u) (_hb0 : bs = []) (hst : St Wb 52 [(0, (intF z)), (2, (eqF (.string { data := #[] }))), (3, (bytesF bs)), (24, (eqF (.bool true)))] [(1, (boxIF z)), (4, (boxIF ((u : Nat) : Int))), (5, (boxIF 10)), (6, (boxIF (((u : Nat) : Int) / 10))), (7, (boxIF (((u : Nat) : Int) % 10)))] a0 W0)
    (fin : ∀ a w, St Wb 52 [(0, (intF z)), (2, (eqF (.string { data := #[] }))), (3, (bytesF bs)), (9, (eqF (.int .i64 (((u : Nat) : Int) % 10)))), (24, (eqF (.bool true)))] [(1, (boxIF z)), (4, (boxIF ((u : Nat) : Int))), (5, (boxIF 10)), (6, (boxIF (((u : Nat) : Int) / 10))), (7, (boxIF (((u : Nat) : Int) % 10)))] a w → Q .normal a w) : (Code.region 4 rtx_o4 false).wp Tryd.prog Q a0 W0 := by
  let E : List PF := [(intF (((u : Nat) : Int) % 10)), (eqF (.int .i64 (((u : Nat) : Int) % 10))), (intF z), (bytesF bs)]
  let EB : List CF := [(boxIF (((u : Nat) : Int) % 10)), (boxIF z), (boxIF ((u : Nat) : Int)), (boxIF 10), (boxIF (((u : Nat) : Int) / 10))]
  exact region_auto (E := E) (EB := EB) (s := ⟨[(0, (.ref 2)), (2, (.str { data := #[] })), (3, (.ref 3)), (24, (.bool true))], [(1, 1), (4, 2), (5, 3), (6, 4), (7, 0)]⟩)
   { calls := [c1 33 (.ref 0) (.tup2 (.ref 1) (.bool true)) fun w v0 hb h0 => kRSmallT h0 ((Sm.of 10 (by decide)).mod (by decide)) (by decide) (inI64_mod u)],
     loads := [⟨27, 0, 0, (.ref 0), fun w q h => loadI_int w q h⟩] }
   ⟨[(0, (.ref 2)), (2, (.str { data := #[] })), (3, (.ref 3)), (9, (.ref 1)), (24, (.bool true))], [(1, 1), (4, 2), (5, 3), (6, 4), (7, 0)]⟩ hst (by kernel_rfl) fin
set_option maxRecDepth 100000 in
theorem rtx_r5b {Q : Exit → Act → World → Prop} {Wb W0 : World} {a0 : Act} {z : Int} {i : Nat} (_sz : Sm z i) (_hi : i ≤ 400) {u : Nat} {bs : List UInt8} (_su : Sm ((u : Nat) : Int) i) (_hbl : bs.length ≤ 1000000) (_hu0 : ¬ 0 < u) (_hb0 : bs = []) (hst : St Wb 52 [(0, (intF z)), (2, (eqF (.string { data := #[] }))), (3, (bytesF bs)), (9, (eqF (.int .i64 (((u : Nat) : Int) % 10)))), (24, (eqF (.bool true)))] [(1, (boxIF z)), (4, (boxIF ((u : Nat) : Int))), (5, (boxIF 10)), (6, (boxIF (((u : Nat) : Int) / 10))), (7, (boxIF (((u : Nat) : Int) % 10)))] a0 W0)
    (fin : ∀ a w, St Wb 52 [(0, (intF z)), (2, (eqF (.string { data := #[] }))), (3, (bytesF bs)), (9, (eqF (.int .i64 (((u : Nat) : Int) % 10)))), (11, (digF (UInt8.ofNat (48 + u % 10)))), (24, (eqF (.bool true)))] [(1, (boxIF z)), (4, (boxIF ((u : Nat) : Int))), (5, (boxIF 10)), (6, (boxIF (((u : Nat) : Int) / 10))), (7, (boxIF (((u : Nat) : Int) % 10)))] a w → Q .normal a w) : (Code.region 5 rtx_o5 false).wp Tryd.prog Q a0 W0 := by
  let E : List PF := [(eqF (.int .i64 (((u : Nat) : Int) % 10))), (eqF (.int .i64 ((48 + u % 10 : Nat) : Int))), (eqF (.int .u8 ((UInt8.ofNat (48 + u % 10)).toNat : Int))), (digF (UInt8.ofNat (48 + u % 10))), (intF z), (bytesF bs)]
  let EB : List CF := [(boxIF z), (boxIF ((u : Nat) : Int)), (boxIF 10), (boxIF (((u : Nat) : Int) / 10)), (boxIF (((u : Nat) : Int) % 10))]
  exact region_auto (E := E) (EB := EB) (s := ⟨[(0, (.ref 4)), (2, (.str { data := #[] })), (3, (.ref 5)), (9, (.ref 0)), (24, (.bool true))], [(1, 0), (4, 1), (5, 2), (6, 3), (7, 4)]⟩)
   { pures := [p2 (.bin .add 2 2) (.int .i64 48) (.ref 0) (.ref 1) fun _ _ _ _ _ hx hy => h_add (z := ((48 + u % 10 : Nat) : Int)) (by rw [IntKind.wrap_i64]; omega) hx hy,
      p1 (.conv 2 5) (.ref 1) (.ref 2) fun _ _ _ _ hx => h_cv8 (u := (48 + u % 10)) rfl (by omega) hx,
      p1 (.blds 49 1 [0]) (.ref 2) (.ref 3) fun _ _ _ _ hx => h_b1 hx] }
   ⟨[(0, (.ref 4)), (2, (.str { data := #[] })), (3, (.ref 5)), (9, (.ref 0)), (11, (.ref 3)), (24, (.bool true))], [(1, 0), (4, 1), (5, 2), (6, 3), (7, 4)]⟩ hst (by kernel_rfl) fin
set_option maxRecDepth 100000 in
theorem rtx_r6b {Q : Exit → Act → World → Prop} {Wb W0 : World} {a0 : Act} {z : Int} {i : Nat} (_sz : Sm z i) (_hi : i ≤ 400) {u : Nat} {bs : List UInt8} (_su : Sm ((u : Nat) : Int) i) (hbl : bs.length ≤ 1000000) (_hu0 : ¬ 0 < u) (_hb0 : bs = []) (hst : St Wb 52 [(0, (intF z)), (2, (eqF (.string { data := #[] }))), (3, (bytesF bs)), (9, (eqF (.int .i64 (((u : Nat) : Int) % 10)))), (11, (digF (UInt8.ofNat (48 + u % 10)))), (24, (eqF (.bool true)))] [(1, (boxIF z)), (4, (boxIF ((u : Nat) : Int))), (5, (boxIF 10)), (6, (boxIF (((u : Nat) : Int) / 10))), (7, (boxIF (((u : Nat) : Int) % 10)))] a0 W0)
    (fin : ∀ a w, St Wb 52 [(0, (intF z)), (2, (eqF (.string { data := #[] }))), (3, (bytesF ((UInt8.ofNat (48 + u % 10)) :: bs))), (9, (eqF (.int .i64 (((u : Nat) : Int) % 10)))), (11, (digF (UInt8.ofNat (48 + u % 10)))), (24, (eqF (.bool true)))] [(1, (boxIF z)), (4, (boxIF ((u : Nat) : Int))), (5, (boxIF 10)), (6, (boxIF (((u : Nat) : Int) / 10))), (7, (boxIF (((u : Nat) : Int) % 10)))] a w → Q .normal a w) : (Code.region 6 rtx_o6 false).wp Tryd.prog Q a0 W0 := by
  let E : List PF := [(digF (UInt8.ofNat (48 + u % 10))), (bytesF bs), (bytesF ((UInt8.ofNat (48 + u % 10)) :: bs)), (intF z), (eqF (.int .i64 (((u : Nat) : Int) % 10)))]
  let EB : List CF := [(boxIF z), (boxIF ((u : Nat) : Int)), (boxIF 10), (boxIF (((u : Nat) : Int) / 10)), (boxIF (((u : Nat) : Int) % 10))]
  exact region_auto (E := E) (EB := EB) (s := ⟨[(0, (.ref 3)), (2, (.str { data := #[] })), (3, (.ref 1)), (9, (.ref 4)), (11, (.ref 0)), (24, (.bool true))], [(1, 0), (4, 1), (5, 2), (6, 3), (7, 4)]⟩)
   { pures := [p2 (.blt .append [49, 49]) (.ref 0) (.ref 1) (.ref 2) fun _ _ _ _ _ hx hy => h_pre hbl hx hy] }
   ⟨[(0, (.ref 3)), (2, (.str { data := #[] })), (3, (.ref 2)), (9, (.ref 4)), (11, (.ref 0)), (24, (.bool true))], [(1, 0), (4, 1), (5, 2), (6, 3), (7, 4)]⟩ hst (by kernel_rfl) fin
set_option maxRecDepth 100000 in
theorem rtx_r2c {Q : Exit → Act → World → Prop} {Wb W0 : World} {a0 : Act} {z : Int} {i : Nat} (_sz : Sm z i) (_hi : i ≤ 400) {u : Nat} {bs : List UInt8} (su : Sm ((u : Nat) : Int) i) (_hbl : bs.length ≤ 1000000) (_hu0 : ¬ 0 < u) (hb0 : bs ≠ []) (hst : St Wb 52 [(0, (intF z)), (2, (eqF (.string { data := #[] }))), (3, (bytesF bs))] [(1, (boxIF z)), (4, (boxIF ((u : Nat) : Int))), (5, (boxIF 10))] a0 W0)
    (fin : ∀ a w, St Wb 52 [(0, (intF z)), (2, (eqF (.string { data := #[] }))), (3, (bytesF bs)), (24, (eqF (.bool false)))] [(1, (boxIF z)), (4, (boxIF ((u : Nat) : Int))), (5, (boxIF 10))] a w → Q .normal a w) : (Code.region 2 rtx_o2 false).wp Tryd.prog Q a0 W0 := by
  let E : List PF := [(intF ((u : Nat) : Int)), (eqF (.int .i64 (Int.sign ((u : Nat) : Int)))), (bytesF bs), (eqF (.int .i64 (bs.length : Int))), (intF z)]
  let EB : List CF := [(boxIF ((u : Nat) : Int)), (boxIF z), (boxIF 10)]
  exact region_auto (E := E) (EB := EB) (s := ⟨[(0, (.ref 4)), (2, (.str { data := #[] })), (3, (.ref 2))], [(1, 1), (4, 0), (5, 2)]⟩)
   { pures := [p2 (.bin .gtr 3 3) (.ref 1) (.int .i64 0) (.bool false) fun _ _ _ _ _ hx hy => h_gtr (r := false) (by rw [show ((u : Nat) : Int) = 0 by omega]; rfl) hx hy,
      p1 (.blt .len [49]) (.ref 2) (.ref 3) fun _ _ _ _ hx => h_lenB hx,
      p2 (.bin .eql 3 3) (.ref 3) (.int .i64 0) (.bool false) fun _ _ _ _ _ hx hy => h_eqlI (r := false) (by simpa using hb0) hx hy],
     calls := [c1 31 (.ref 0) (.ref 1) fun w v0 hb h0 => kRSign h0 su (by first | decide | assumption | omega)],
     loads := [⟨27, 0, 0, (.ref 0), fun w q h => loadI_int w q h⟩] }
   ⟨[(0, (.ref 4)), (2, (.str { data := #[] })), (3, (.ref 2)), (24, (.bool false))], [(1, 1), (4, 0), (5, 2)]⟩ hst (by kernel_rfl) fin
set_option maxRecDepth 100000 in
theorem rtx_r8 {Q : Exit → Act → World → Prop} {Wb W0 : World} {a0 : Act} {z : Int} {i : Nat} (_sz : Sm z i) (_hi : i ≤ 400) (hz : z < 0) (hst : St Wb 52 [(0, (intF z)), (2, (eqF (.string { data := #[] }))), (3, (bytesF (decDigits z.natAbs))), (24, (eqF (.bool false)))] [(1, (boxIF z)), (4, (boxIF ((0 : Nat) : Int))), (5, (boxIF 10))] a0 W0)
    (fin : ∀ a w, St Wb 52 [(0, (intF z)), (2, (eqF (.string { data := #[] }))), (3, (bytesF (decDigits z.natAbs))), (24, (eqF (.bool false))), (46, (eqF (.bool true)))] [(1, (boxIF z)), (4, (boxIF ((0 : Nat) : Int))), (5, (boxIF 10))] a w → Q .normal a w) : (Code.region 8 rtx_o8 false).wp Tryd.prog Q a0 W0 := by
  let E : List PF := [(intF z), (bytesF (decDigits z.natAbs))]
  let EB : List CF := [(boxIF z), (boxIF ((0 : Nat) : Int)), (boxIF 10)]
  exact region_auto (E := E) (EB := EB) (s := ⟨[(0, (.ref 0)), (2, (.str { data := #[] })), (3, (.ref 1)), (24, (.bool false))], [(1, 0), (4, 1), (5, 2)]⟩)
   { loads := [⟨4, 0, 0, (.bool true), fun w q h => loadI_neg (decide_eq_true hz) w q h⟩],
     flds := [⟨27, 0, 0, fldI0⟩] }
   ⟨[(0, (.ref 0)), (2, (.str { data := #[] })), (3, (.ref 1)), (24, (.bool false)), (46, (.bool true))], [(1, 0), (4, 1), (5, 2)]⟩ hst (by kernel_rfl) fin
set_option maxRecDepth 100000 in
theorem rtx_r9 {Q : Exit → Act → World → Prop} {Wb W0 : World} {a0 : Act} {z : Int} {i : Nat} (sz : Sm z i) (hi : i ≤ 400) (_hz : z < 0) (hst : St Wb 52 [(0, (intF z)), (2, (eqF (.string { data := #[] }))), (3, (bytesF (decDigits z.natAbs))), (24, (eqF (.bool false))), (46, (eqF (.bool true)))] [(1, (boxIF z)), (4, (boxIF ((0 : Nat) : Int))), (5, (boxIF 10))] a0 W0)
    (fin : ∀ a w, St Wb 52 [(0, (intF z)), (2, (eqF (.string ⟨List.toArray ([45] ++ (decDigits z.natAbs))⟩))), (3, (bytesF (decDigits z.natAbs))), (24, (eqF (.bool false))), (46, (eqF (.bool true)))] [(1, (boxIF z)), (4, (boxIF ((0 : Nat) : Int))), (5, (boxIF 10))] a w → Q .normal a w) : (Code.region 9 rtx_o9 false).wp Tryd.prog Q a0 W0 := by
  let E : List PF := [(bytesF (decDigits z.natAbs)), (eqF (.string ⟨List.toArray (decDigits z.natAbs)⟩)), (eqF (.string ⟨List.toArray ([45] ++ (decDigits z.natAbs))⟩)), (intF z)]
  let EB : List CF := [(boxIF z), (boxIF ((0 : Nat) : Int)), (boxIF 10)]
  exact region_auto (E := E) (EB := EB) (s := ⟨[(0, (.ref 3)), (2, (.str { data := #[] })), (3, (.ref 0)), (24, (.bool false)), (46, (.bool true))], [(1, 0), (4, 1), (5, 2)]⟩)
   { pures := [p1 (.conv 49 9) (.ref 0) (.ref 1) fun _ _ _ _ hx => h_strB hx,
      p2 (.bin .add 9 9) (.str { data := #[45] }) (.ref 1) (.ref 2) fun _ _ _ _ _ hx hy => h_addS (by have := dlen sz hi; simp; omega) hx hy] }
   ⟨[(0, (.ref 3)), (2, (.ref 2)), (3, (.ref 0)), (24, (.bool false)), (46, (.bool true))], [(1, 0), (4, 1), (5, 2)]⟩ hst (by kernel_rfl) fin
set_option maxRecDepth 100000 in
theorem rtx_r8b {Q : Exit → Act → World → Prop} {Wb W0 : World} {a0 : Act} {z : Int} {i : Nat} (_sz : Sm z i) (_hi : i ≤ 400) (hz : ¬ z < 0) (hst : St Wb 52 [(0, (intF z)), (2, (eqF (.string { data := #[] }))), (3, (bytesF (decDigits z.natAbs))), (24, (eqF (.bool false)))] [(1, (boxIF z)), (4, (boxIF ((0 : Nat) : Int))), (5, (boxIF 10))] a0 W0)
    (fin : ∀ a w, St Wb 52 [(0, (intF z)), (2, (eqF (.string { data := #[] }))), (3, (bytesF (decDigits z.natAbs))), (24, (eqF (.bool false))), (46, (eqF (.bool false)))] [(1, (boxIF z)), (4, (boxIF ((0 : Nat) : Int))), (5, (boxIF 10))] a w → Q .normal a w) : (Code.region 8 rtx_o8 false).wp Tryd.prog Q a0 W0 := by
  let E : List PF := [(intF z), (bytesF (decDigits z.natAbs))]
  let EB : List CF := [(boxIF z), (boxIF ((0 : Nat) : Int)), (boxIF 10)]
  exact region_auto (E := E) (EB := EB) (s := ⟨[(0, (.ref 0)), (2, (.str { data := #[] })), (3, (.ref 1)), (24, (.bool false))], [(1, 0), (4, 1), (5, 2)]⟩)
   { loads := [⟨4, 0, 0, (.bool false), fun w q h => loadI_neg (decide_eq_false hz) w q h⟩],
     flds := [⟨27, 0, 0, fldI0⟩] }
   ⟨[(0, (.ref 0)), (2, (.str { data := #[] })), (3, (.ref 1)), (24, (.bool false)), (46, (.bool false))], [(1, 0), (4, 1), (5, 2)]⟩ hst (by kernel_rfl) fin
set_option maxRecDepth 100000 in
theorem rtx_r10 {Q : Exit → Act → World → Prop} {Wb W0 : World} {a0 : Act} {z : Int} {i : Nat} (_sz : Sm z i) (_hi : i ≤ 400) (_hz : ¬ z < 0) (hst : St Wb 52 [(0, (intF z)), (2, (eqF (.string { data := #[] }))), (3, (bytesF (decDigits z.natAbs))), (24, (eqF (.bool false))), (46, (eqF (.bool false)))] [(1, (boxIF z)), (4, (boxIF ((0 : Nat) : Int))), (5, (boxIF 10))] a0 W0)
    (fin : ∀ a w, St Wb 52 [(0, (intF z)), (2, (eqF (.string ⟨List.toArray (decDigits z.natAbs)⟩))), (3, (bytesF (decDigits z.natAbs))), (24, (eqF (.bool false))), (46, (eqF (.bool false)))] [(1, (boxIF z)), (4, (boxIF ((0 : Nat) : Int))), (5, (boxIF 10))] a w → Q .normal a w) : (Code.region 10 rtx_o10 false).wp Tryd.prog Q a0 W0 := by
  let E : List PF := [(bytesF (decDigits z.natAbs)), (eqF (.string ⟨List.toArray (decDigits z.natAbs)⟩)), (intF z)]
  let EB : List CF := [(boxIF z), (boxIF ((0 : Nat) : Int)), (boxIF 10)]
  exact region_auto (E := E) (EB := EB) (s := ⟨[(0, (.ref 2)), (2, (.str { data := #[] })), (3, (.ref 0)), (24, (.bool false)), (46, (.bool false))], [(1, 0), (4, 1), (5, 2)]⟩)
   { pures := [p1 (.conv 49 9) (.ref 0) (.ref 1) fun _ _ _ _ hx => h_strB hx] }
   ⟨[(0, (.ref 2)), (2, (.ref 1)), (3, (.ref 0)), (24, (.bool false)), (46, (.bool false))], [(1, 0), (4, 1), (5, 2)]⟩ hst (by kernel_rfl) fin
set_option maxRecDepth 100000 in
theorem RText_any (va : Value) (z : Int) (i : Nat) (W : World) (ha : IntAt W va z) (sz : Sm z i) (hi : i ≤ 400) :
    Calls Tryd.prog 9 #[va] W (GivesP (eqF (.string ⟨(textZ z).toArray⟩)) W) := by
  refine calls_stW (S := [(0, (intF z))]) Tryd.func9 (by kernel_rfl) Tryd.ntmps9 (by simp) (fun x hx => ?_) fun a w hst => ?_
  · simp only [List.mem_cons, List.not_mem_nil, or_false] at hx
    subst hx
    exact ⟨_, rfl, ha⟩
  show Code.wp _ rtx_n0 _ a w
  rw [rtx_e0]
  refine wp_seq ?_
  rw [rtx_e1]
  refine rtx_r0 sz hi hst ?_
  clear hst
  intro a w hst
  show Code.wp _ rtx_n2 _ a w
  rw [rtx_e2]
  refine wp_seq ?_
  rw [rtx_e3]
  refine rtx_r1 sz hi hst ?_
  clear hst
  intro a w hst
  show Code.wp _ rtx_n4 _ a w
  rw [rtx_e4]
  refine wp_seq ?_
  rw [rtx_e5]
  refine wp_block ?_
  show Code.wp _ rtx_n7 _ a w
  rw [rtx_e7]
  refine loop_ghost (fun (x : Nat × List UInt8) a w => St W 52 [(0, (intF z)), (2, (eqF (.string { data := #[] }))), (3, (bytesF x.2))] [(1, (boxIF z)), (4, (boxIF ((x.1 : Nat) : Int))), (5, (boxIF 10))] a w ∧ Sm ((x.1 : Nat) : Int) i ∧ x.2.length ≤ 100000 ∧ DigInv z.natAbs x.1 x.2) (fun x => x.1 + (if x.2 = [] then 1 else 0)) ?_ ((z.natAbs, []) : Nat × List UInt8) ⟨hst, sz.abs, Nat.zero_le _, .inl ⟨rfl, rfl⟩⟩
  intro ⟨u, bs⟩ a w ⟨hst, su, hbl0, hd⟩
  have hst : St W 52 [(0, (intF z)), (2, (eqF (.string { data := #[] }))), (3, (bytesF bs))] [(1, (boxIF z)), (4, (boxIF ((u : Nat) : Int))), (5, (boxIF 10))] a w := hst
  have su : Sm ((u : Nat) : Int) i := su
  have hd : DigInv z.natAbs u bs := hd
  have hbl : bs.length ≤ 1000000 := Nat.le_trans hbl0 (by decide)
  show Code.wp _ rtx_n8 _ a w
  by_cases hu0 : 0 < u
  · rw [rtx_e8]
    refine wp_seq ?_
    rw [rtx_e9]
    refine wp_seq ?_
    rw [rtx_e11]
    refine rtx_r2 sz hi su hbl hu0 hst ?_
    clear hst
    intro a w hst
    show Code.wp _ rtx_n12 _ a w
    rw [rtx_e12]
    refine wp_cond_true (st_bool hst 3 rfl) ?_
    show Code.wp _ rtx_n13 _ a w
    rw [rtx_e13]
    refine wp_skip ?_
    show Code.wp _ rtx_n10 _ a w
    rw [rtx_e10]
    refine wp_block ?_
    show Code.wp _ rtx_n15 _ a w
    rw [rtx_e15]
    refine wp_seq ?_
    rw [rtx_e16]
    refine rtx_r3 sz hi su hst ?_
    clear hst
    intro a w hst
    show Code.wp _ rtx_n17 _ a w
    rw [rtx_e17]
    refine wp_seq ?_
    rw [rtx_e18]
    refine rtx_r4 sz hi su hbl hu0 hst ?_
    clear hst
    intro a w hst
    show Code.wp _ rtx_n19 _ a w
    rw [rtx_e19]
    refine wp_seq ?_
    rw [rtx_e20]
    refine rtx_r5 sz hi su hbl hu0 hst ?_
    clear hst
    intro a w hst
    show Code.wp _ rtx_n21 _ a w
    rw [rtx_e21]
    refine wp_seq ?_
    rw [rtx_e22]
    refine rtx_r6 sz hi su hbl hu0 hst ?_
    clear hst
    intro a w hst
    show Code.wp _ rtx_n23 _ a w
    rw [rtx_e23]
    refine rtx_r7 sz hi su hst ?_
    clear hst
    intro a w hst
    have e : ((u : Nat) : Int) / 10 = ((u / 10 : Nat) : Int) := (Int.natCast_ediv u 10).symm
    rw [e] at hst
    have hd2 := hd.next (.inl hu0)
    have hl2 := hd2.len
    have hl3 := dlen sz hi
    have hl4 := decDigits_length z.natAbs
    exact ⟨(u / 10, UInt8.ofNat (48 + u % 10) :: bs), ⟨((hst.to (S' := [(0, (intF z)), (2, (eqF (.string { data := #[] }))), (3, (bytesF (UInt8.ofNat (48 + u % 10) :: bs)))]) ⟨hst.slots.get (k := 0) rfl, hst.slots.get (k := 1) rfl, hst.slots.get (k := 2) rfl, trivial⟩).firstB 3), sm_le su (Nat.div_le_self _ _), by show (UInt8.ofNat (48 + u % 10) :: bs).length ≤ 100000; omega, hd2⟩, by simp; omega⟩
  · by_cases hb0 : bs = []
    · rw [rtx_e8]
      refine wp_seq ?_
      rw [rtx_e9]
      refine wp_seq ?_
      rw [rtx_e11]
      refine rtx_r2b sz hi su hbl hu0 hb0 hst ?_
      clear hst
      intro a w hst
      show Code.wp _ rtx_n12 _ a w
      rw [rtx_e12]
      refine wp_cond_true (st_bool hst 3 rfl) ?_
      show Code.wp _ rtx_n13 _ a w
      rw [rtx_e13]
      refine wp_skip ?_
      show Code.wp _ rtx_n10 _ a w
      rw [rtx_e10]
      refine wp_block ?_
      show Code.wp _ rtx_n15 _ a w
      rw [rtx_e15]
      refine wp_seq ?_
      rw [rtx_e16]
      refine rtx_r3 sz hi su hst ?_
      clear hst
      intro a w hst
      show Code.wp _ rtx_n17 _ a w
      rw [rtx_e17]
      refine wp_seq ?_
      rw [rtx_e18]
      refine rtx_r4b sz hi su hbl hu0 hb0 hst ?_
      clear hst
      intro a w hst
      show Code.wp _ rtx_n19 _ a w
      rw [rtx_e19]
      refine wp_seq ?_
      rw [rtx_e20]
      refine rtx_r5b sz hi su hbl hu0 hb0 hst ?_
      clear hst
      intro a w hst
      show Code.wp _ rtx_n21 _ a w
      rw [rtx_e21]
      refine wp_seq ?_
      rw [rtx_e22]
      refine rtx_r6b sz hi su hbl hu0 hb0 hst ?_
      clear hst
      intro a w hst
      show Code.wp _ rtx_n23 _ a w
      rw [rtx_e23]
      refine rtx_r7 sz hi su hst ?_
      clear hst
      intro a w hst
      have e : ((u : Nat) : Int) / 10 = ((u / 10 : Nat) : Int) := (Int.natCast_ediv u 10).symm
      rw [e] at hst
      have hd2 := hd.next (.inr hb0)
      have hl2 := hd2.len
      have hl3 := dlen sz hi
      have hl4 := decDigits_length z.natAbs
      exact ⟨(u / 10, UInt8.ofNat (48 + u % 10) :: bs), ⟨((hst.to (S' := [(0, (intF z)), (2, (eqF (.string { data := #[] }))), (3, (bytesF (UInt8.ofNat (48 + u % 10) :: bs)))]) ⟨hst.slots.get (k := 0) rfl, hst.slots.get (k := 1) rfl, hst.slots.get (k := 2) rfl, trivial⟩).firstB 3), sm_le su (Nat.div_le_self _ _), by show (UInt8.ofNat (48 + u % 10) :: bs).length ≤ 100000; omega, hd2⟩, by simp; rw [if_pos hb0]; omega⟩
    · rw [rtx_e8]
      refine wp_seq ?_
      rw [rtx_e9]
      refine wp_seq ?_
      rw [rtx_e11]
      refine rtx_r2c sz hi su hbl hu0 hb0 hst ?_
      clear hst
      intro a w hst
      show Code.wp _ rtx_n12 _ a w
      rw [rtx_e12]
      refine wp_cond_false (st_bool hst 3 rfl) ?_
      show Code.wp _ rtx_n14 _ a w
      rw [rtx_e14]
      refine wp_exit ?_
      have e : bs = decDigits z.natAbs := hd.done hu0 hb0
      have e2 : u = 0 := by omega
      subst e2
      rw [e] at hst
      by_cases hz : z < 0
      · show Code.wp _ rtx_n6 _ a w
        rw [rtx_e6]
        refine wp_seq ?_
        rw [rtx_e24]
        refine wp_seq ?_
        rw [rtx_e26]
        refine rtx_r8 sz hi hz hst ?_
        clear hst
        intro a w hst
        show Code.wp _ rtx_n27 _ a w
        rw [rtx_e27]
        refine wp_cond_true (st_bool hst 4 rfl) ?_
        show Code.wp _ rtx_n28 _ a w
        rw [rtx_e28]
        refine wp_seq ?_
        rw [rtx_e30]
        refine rtx_r9 sz hi hz hst ?_
        clear hst
        intro a w hst
        show Code.wp _ rtx_n31 _ a w
        rw [rtx_e31]
        refine wp_ret ?_
        first | rw [textZ_neg hz] | rw [textZ_pos hz]
        exact ret_tmp hst rfl 1 rfl
      · show Code.wp _ rtx_n6 _ a w
        rw [rtx_e6]
        refine wp_seq ?_
        rw [rtx_e24]
        refine wp_seq ?_
        rw [rtx_e26]
        refine rtx_r8b sz hi hz hst ?_
        clear hst
        intro a w hst
        show Code.wp _ rtx_n27 _ a w
        rw [rtx_e27]
        refine wp_cond_false (st_bool hst 4 rfl) ?_
        show Code.wp _ rtx_n29 _ a w
        rw [rtx_e29]
        refine wp_skip ?_
        show Code.wp _ rtx_n25 _ a w
        rw [rtx_e25]
        refine wp_seq ?_
        rw [rtx_e32]
        refine rtx_r10 sz hi hz hst ?_
        clear hst
        intro a w hst
        show Code.wp _ rtx_n33 _ a w
        rw [rtx_e33]
        refine wp_ret ?_
        first | rw [textZ_neg hz] | rw [textZ_pos hz]
        exact ret_tmp hst rfl 1 rfl
end Go.Proofs.YtdofolejfdfocaaDoor
