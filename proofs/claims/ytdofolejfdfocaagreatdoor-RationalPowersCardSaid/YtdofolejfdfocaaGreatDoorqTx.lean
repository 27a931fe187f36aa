/- Walks: Text of numbers below 10^9. -/
import Derived.Test.YtdofolejfdfocaaGreatDoorqR3
import Derived.Test.YtdofolejfdfocaaGreatDoorqRep0
namespace Go.Proofs.YtdofolejfdfocaaGreatDoor
open Go.RowKit

set_option maxHeartbeats 400000 in
theorem Text_zero (v : Value) (w : World) (h : IntAt w v 0) : Calls Tryz.prog 66 #[v] w fun e w' => e = .returned (.string ⟨#[48]⟩) ∧ Below w.heap.size w w' := by
  obtain ⟨A, c, rfl, H⟩ := h.parts_ (n := 0) (b := false) rfl rfl
  have HI := Lib.hid (IntAt.back (z := 0) H.out rfl rfl)
  clear h
  go_enter Tryz.func66, Tryz.ntmps66
  go_wp2_with fail
  refine (parts_is _ 0 0 false _ (HI.out.into (below_alloc _ _)) rfl rfl (by rw [len_zero]; omega)).mono ?_
  rintro e w1 ⟨A1, c1, rfl, H1, hb1⟩
  rw [len_zero]
  have HB := Lib.hid (step_below (below_alloc _ _) hb1)
  clear hb1
  go_wp2
  go_ret
  exact ⟨rfl, HB.out⟩

/-- A text: the sign and the digits. -/
def textB (neg : Bool) (u : Nat) : List UInt8 := if neg then 45 :: Lib.decDigits u else Lib.decDigits u

def encB (b : UInt8) : Value := .int .u8 (b.toNat : Int)
/-- Block g begins with the bytes bs. -/
def BytesAt (w : World) (g : Nat) (bs : List UInt8) : Prop := ∃ tl : List Value, w.heap[g]? = some (.cells (bs.map encB ++ tl).toArray 5 (0, 0))
theorem BytesAt.lt {w : World} {g : Nat} {bs : List UInt8} (h : BytesAt w g bs) : g < w.heap.size := by
  obtain ⟨tl, h⟩ := h
  rcases Nat.lt_or_ge g w.heap.size with hlt | hge
  · exact hlt
  · rw [Array.getElem?_eq_none hge] at h; cases h
theorem BytesAt.cell {w : World} {g : Nat} {bs : List UInt8} (h : BytesAt w g bs) {i : Nat} (hi : i < bs.length) : w.cell? ⟨g, i, none⟩ = some (.int .u8 (bs[i].toNat : Int)) ∧ w.frozen? ⟨g, i, none⟩ = false := by
  obtain ⟨tl, h⟩ := h
  refine ⟨?_, frozen_of_row h i⟩
  rw [cell_of_row w g i _ _ (0, 0) h]
  simp [List.getElem?_append, hi, encB]
theorem BytesAt.set_ {w : World} {g : Nat} {bs : List UInt8} (h : BytesAt w g bs) {i : Nat} (hi : i < bs.length) (x : UInt8) : BytesAt (w.setCell ⟨g, i, none⟩ (.int .u8 (x.toNat : Int))) g (bs.set i x) := by
  obtain ⟨tl, h⟩ := h
  refine ⟨tl, ?_⟩
  rw [block_setCell h i (.int .u8 (x.toNat : Int))]
  congr 2
  simp [hi, List.map_set, encB]
theorem BytesAt.below {w w' : World} {g : Nat} {bs : List UInt8} (h : BytesAt w g bs) (hb : Below w.heap.size w w') : BytesAt w' g bs := by
  obtain ⟨tl, h'⟩ := h
  exact ⟨tl, (hb.block g (BytesAt.lt ⟨tl, h'⟩)).trans h'⟩
theorem BytesAt.only {w w' : World} {g g' : Nat} {bs : List UInt8} (h : BytesAt w g bs) (hg : w.grownBy w' (some g')) (hne : g ≠ g') : BytesAt w' g bs := by
  obtain ⟨tl, h'⟩ := h
  exact ⟨tl, (hg.block g (BytesAt.lt ⟨tl, h'⟩) (by simpa using hne)).trans h'⟩
theorem ZeroBuf.bytes {w : World} {g N : Nat} (h : ZeroBuf w g N N) : BytesAt w g (List.replicate N 48) := by
  obtain ⟨cs, hh, hN, ht⟩ := h
  refine ⟨cs.drop N, ?_⟩
  rw [hh]
  have e : (List.replicate N (48 : UInt8)).map encB = cs.take N := by rw [ht, List.map_replicate]; rfl
  rw [e, List.take_append_drop]
theorem BytesAt.copy {w : World} {g : Nat} {bs : List UInt8} (h : BytesAt w g bs) (k : Nat) (ds : List UInt8) (hk : k + ds.length ≤ bs.length) (dl c1 c2 : Nat) (hdl : ds.length ≤ dl) (w0 : World) (hb : Below w0.heap.size w0 w) (hg : w0.heap.size ≤ g) :
    ∃ w' : World, (Builtin.copy_ #[44, 9] c1 #[.slice (some ⟨g, k, none⟩) dl c2, .string ⟨ds.toArray⟩]).run Tryz.prog w = .ok (.int .i64 (ds.length : Int)) w' ∧
      BytesAt w' g (bs.take k ++ ds ++ bs.drop (k + ds.length)) ∧ Below w0.heap.size w0 w' ∧ w.grownBy w' (some g) := by
  obtain ⟨tl, h⟩ := h
  have hr := Lib.run_copy_row_string (P := Tryz.prog) w 44 9 c1 5 g k dl c2 ⟨ds.toArray⟩ _ 5 Tryz.underlying44 infoU8 h (by simpa [ByteArray.size] using hdl) (by simp [ByteArray.size]; omega)
  refine ⟨_, by simpa [ByteArray.size, goInt] using hr, ⟨tl, ?_⟩, below_setRow hb hg _, ⟨rfl, rfl, rfl, by simp [World.setRow], fun i _ hne => setRow_other w g i _ (by simpa using hne)⟩⟩
  have e : (bs.map encB ++ tl).take k ++ (Lib.byteCells ds ++ (bs.map encB ++ tl).drop (k + ds.length)) = (bs.take k ++ ds ++ bs.drop (k + ds.length)).map encB ++ tl := by
    simp only [List.map_append, List.append_assoc]
    rw [List.take_append_of_le_length (by simp; omega), List.drop_append_of_le_length (by simp; omega), List.map_take, List.map_drop]
    rfl
  exact (setRow_heap w g _ _ _ _ h).trans (congrArg (fun l : List Value => some (Obj.cells l.toArray 5 (0, 0))) e)

theorem Repeat11 (g0 : Nat) (w : World) (hc : w.cell? ⟨g0, 0, none⟩ = some (.int .u8 48)) :
    Calls Tryz.prog 87 #[.slice (some ⟨g0, 0, none⟩) 1 1, .int .i64 11] w fun e w' => e = .returned (.slice (some ⟨w.heap.size, 0, none⟩) 11 11) ∧ BytesAt w' w.heap.size (List.replicate 11 48) ∧ Below w.heap.size w w' :=
  (Repeat_any g0 11 w hc (by omega) (by omega)).mono fun _ _ ⟨he, hz, hb⟩ => ⟨he, hz.bytes, hb⟩
theorem shorten9 (g n c : Nat) (ms : List Nat) (w : World) (hn : ms.length = n) (hr : PRow w g ms) (h32 : L32 ms) (hl : n ≤ 4398046511104) :
    Calls Tryz.prog 89 #[.slice (some ⟨g, 0, none⟩) n c, .int .u32 1000000000] w fun e w' => e = .returned (.int .u32 (val ms % 1000000000 : Nat)) ∧ (∃ ds : List Nat, ds.length = n ∧ L32 ds ∧ val ds = val ms / 1000000000 ∧ PRow w' g ds) ∧ w.grownBy w' (some g) :=
  shorten_any g n c ms 1000000000 w hn hr h32 hl (by omega) (by omega)
theorem nDigits_le9 {x : Nat} (hx : x < 1000000000) : Lib.nDigits x ≤ 9 := by
  have key : ∀ k u : Nat, u < 10 ^ k → 1 ≤ k → Lib.nDigits u ≤ k := by
    intro k
    induction k with
    | zero => intro u _ h; omega
    | succ k ih =>
      intro u hu _
      by_cases h : u < 10
      · rw [Lib.nDigits_small h]; omega
      · rw [Lib.nDigits_big h]
        rcases Nat.eq_zero_or_pos k with h0 | h0
        · subst h0; simp at hu; omega
        · have := ih (u / 10) (by rw [Nat.pow_succ] at hu; omega) h0
          omega
  exact key 9 x (by simpa using hx) (by omega)
theorem convert_tail (w : World) (g k c : Nat) (bs ds : List UInt8) (h : BytesAt w g bs) (hd : bs.drop k = ds) : (convert 44 9 (.slice (some ⟨g, k, none⟩) ds.length c)).run Tryz.prog w = .ok (.string ⟨ds.toArray⟩) w := by
  have := run_convert_bytes_back (P := Tryz.prog) w 44 9 5 ⟨g, k, none⟩ c ds Tryz.underlying44 Tryz.underlying5 Tryz.underlying9 (fun j hj => by
    rw [Lib.add_plain]
    subst hd
    have hj' : k + j < bs.length := by rw [List.length_drop] at hj; omega
    rw [(h.cell hj').1, List.getElem_drop])
  exact this

theorem convert_tail' (w : World) (g k n c : Nat) (bs ds : List UInt8) (h : BytesAt w g bs) (hd : bs.drop k = ds) (hn : n = ds.length) : (convert 44 9 (.slice (some ⟨g, k, none⟩) n c)).run Tryz.prog w = .ok (.string ⟨ds.toArray⟩) w := by
  subst hn
  exact convert_tail w g k c bs ds h hd
theorem tail_drop (nd : Nat) (ds : List UInt8) (hn : nd ≤ 9) (hd : ds.length = nd) : ((List.replicate 11 (48 : UInt8)).take (11 - nd) ++ ds ++ (List.replicate 11 (48 : UInt8)).drop (11 - nd + ds.length)).drop (11 - nd) = ds := by
  have h0 : (List.replicate 11 (48 : UInt8)).drop (11 - nd + ds.length) = [] := List.drop_eq_nil_of_le (by simp; omega)
  rw [h0, List.append_nil]
  exact List.drop_left' (by simp)
theorem tail_drop1 (nd : Nat) (ds : List UInt8) (hn : nd ≤ 9) (hd : ds.length = nd) : (((List.replicate 11 (48 : UInt8)).take (11 - nd) ++ ds ++ (List.replicate 11 (48 : UInt8)).drop (11 - nd + ds.length)).set (11 - nd - 1) 45).drop (11 - nd - 1) = 45 :: ds := by
  have h0 : (List.replicate 11 (48 : UInt8)).drop (11 - nd + ds.length) = [] := List.drop_eq_nil_of_le (by simp; omega)
  rw [h0, List.append_nil]
  obtain ⟨k, hk⟩ : ∃ k, 11 - nd = k + 1 := ⟨10 - nd, by omega⟩
  rw [hk, List.take_replicate, Nat.min_eq_left (by omega), List.replicate_succ', List.append_assoc]
  have : k + 1 - 1 = k := by omega
  rw [this, List.set_append_right _ _ (by simp), List.drop_append, List.drop_eq_nil_of_le (by simp)]
  simp

set_option maxRecDepth 100000 in
set_option maxHeartbeats 3200000 in
theorem Text_small (v : Value) (neg : Bool) (x : Nat) (w : World) (h : IntAt w v (sgn neg x)) (hx0 : 0 < x) (hx : x < 1000000000) (htab : P10 w) :
    Calls Tryz.prog 66 #[v] w fun e w' => e = .returned (.string ⟨(textB neg x).toArray⟩) ∧ Below w.heap.size w w' := by
  have hn : (sgn neg x).natAbs = x := sgn_abs neg x
  have hb : decide (sgn neg x < 0) = neg := by cases neg <;> simp [sgn] <;> omega
  obtain ⟨A, c, rfl, H⟩ := h.parts_ hn hb
  have HI := Lib.hid (IntAt.back H.out hn hb)
  have hlen : len x = 1 := by
    rw [len_pos hx0, show x / 4294967296 = 0 from by omega, len_zero]
  have hnd1 : 1 ≤ Lib.nDigits x := Lib.nDigits_pos x
  have hnd9 : Lib.nDigits x ≤ 9 := nDigits_le9 hx
  obtain ⟨ad, rfl, -, -⟩ := H.out.mem.2.2.at_ (k := 0) (by rw [len_limbs]; omega)
  have HN := Lib.hid hn
  have HB := Lib.hid hb
  have HLEN := Lib.hid hlen
  clear h hn hb hlen
  go_enter Tryz.func66, Tryz.ntmps66
  go_wp2_with fail
  refine (parts_is _ _ x neg _ (HI.out.into (below_alloc _ _)) HN.out HB.out (by have := HLEN.out; omega)).mono ?_
  rintro e w1 ⟨A1, c1, rfl, H1, hb1⟩
  obtain ⟨ad1, rfl, -, -⟩ := H1.out.mem.2.2.at_ (k := 0) (by have := HLEN.out; rw [len_limbs]; omega)
  have HB1 := Lib.hid (step_below (below_alloc _ _) hb1)
  have hne : ((len x : Int) == 0) = false := by have := HLEN.out; simp; omega
  clear hb1
  go_wp2_with fail
  refine (Clone_any ad1 x c1 _ H1.out (by have := HLEN.out; omega) (by have := HLEN.out; omega)).mono ?_
  rintro e w2 ⟨g, c2, rfl, hrow, hg, hc2, hb2⟩
  have HB2 := Lib.hid (step_below HB1.out hb2)
  have HROW := Lib.hid hrow
  rw [HLEN.out] at hc2
  rw [HLEN.out]
  clear hb2 hrow
  go_wp2_with fail
  refine (Repeat11 w2.heap.size _ (by simp)).mono ?_
  rintro e w3 ⟨rfl, hbuf, hb3⟩
  have hb23 := step_below (below_alloc w2 (.cells #[.int .u8 48] 5)) hb3
  rw [size_alloc'] at hbuf
  rw [size_alloc']
  have HBUF := Lib.hid hbuf
  have HB3 := Lib.hid (step_below HB2.out hb23)
  have HROW3 := Lib.hid (HROW.out.below hb23)
  have hgne : w2.heap.size + 1 ≠ g := by have := HROW.out.lt; omega
  have hglt := HROW.out.lt
  clear hb3 hbuf hb23
  go_wp2_with fail
  refine wp_loop_rounds 1 ?_
  rw [rounds_succ]
  go_wp2_with fail
  refine (shorten9 g 1 c2 (limbs x) _ (by rw [len_limbs]; exact HLEN.out) HROW3.out (limbs_32 x) (by omega)).mono ?_
  rintro e w4 ⟨rfl, ⟨ds, hdl, hd32, hdv, hdrow⟩, hgrow⟩
  rw [val_limbs] at hdv
  rw [val_limbs, Nat.mod_eq_of_lt hx]
  rw [Nat.div_eq_of_lt hx] at hdv
  have HBUF4 := Lib.hid (HBUF.out.only hgrow hgne)
  have HB4 : Hid (Below w.heap.size w w4) := (HB3.out).grown hgrow HB3.out.size (by intro k hk; injection hk with hk; have := HB1.out.size; omega)
  have HDV := Lib.hid hdv
  have HDL := Lib.hid hdl
  have HDROW := Lib.hid hdrow
  have htab4 := tab_below htab HB4.out
  clear hgrow hdv hdl hdrow
  go_wp2_with fail
  refine (FormatUint_any x (by omega) _ htab4).mono ?_
  rintro e w5 ⟨rfl, hb5⟩
  have HB5 := Lib.hid (step_below HB4.out hb5)
  have HBUF5 := Lib.hid (HBUF4.out.below hb5)
  have HDROW5 := Lib.hid (HDROW.out.below hb5)
  clear hb5
  obtain ⟨nd, hnd⟩ : ∃ nd, Lib.nDigits x = nd := ⟨_, rfl⟩
  have hdd : (Lib.decDigits x).length = nd := by rw [Lib.decDigits_length, hnd]
  rw [hnd] at hnd1 hnd9
  have hss : ByteArray.size ⟨(Lib.decDigits x).toArray⟩ = nd := by simp [ByteArray.size, hdd]
  obtain ⟨w6, hcp, hbuf6, hb6, hgr6⟩ := HBUF5.out.copy (11 - nd) (Lib.decDigits x) (by rw [hdd]; simp; omega) (11 - (11 - nd)) 3 (11 - (11 - nd)) (by rw [hdd]; omega) w HB5.out (by have := HB2.out.size; omega)
  have HBUF6 := Lib.hid hbuf6
  have HB6 := Lib.hid hb6
  have HDROW6 := Lib.hid (HDROW5.out.only hgr6 (Ne.symm hgne))
  clear hbuf6 hb6 hgr6
  go_wp2_with fail
  refine (trim_k _ 1 c2 ds _ HDL.out HDROW6.out.mem (by omega) hc2 hd32).mono ?_
  rintro e w' ⟨rfl, rfl⟩
  rw [HDV.out, len_zero]
  clear hcp
  have hbl : ((List.replicate 11 (48 : UInt8)).take (11 - nd) ++ Lib.decDigits x ++ (List.replicate 11 (48 : UInt8)).drop (11 - nd + (Lib.decDigits x).length)).length = 11 := by
    simp [hdd]; omega
  have HBL := Lib.hid hbl
  have HDD := Lib.hid hdd
  have HND := Lib.hid hnd
  clear hbl hdd hnd htab htab4
  have hz0 : ((List.replicate 11 (48 : UInt8)).take (11 - nd) ++ Lib.decDigits x ++ (List.replicate 11 (48 : UInt8)).drop (11 - nd + (Lib.decDigits x).length)).drop (11 - nd) = Lib.decDigits x := tail_drop nd _ hnd9 HDD.out
  have hz1 : (((List.replicate 11 (48 : UInt8)).take (11 - nd) ++ Lib.decDigits x ++ (List.replicate 11 (48 : UInt8)).drop (11 - nd + (Lib.decDigits x).length)).set (11 - nd - 1) 45).drop (11 - nd - 1) = 45 :: Lib.decDigits x := tail_drop1 nd _ hnd9 HDD.out
  have HZ1 := Lib.hid hz1
  have hcl := HBUF6.out.cell (i := 11 - nd - 1) (by have := HBL.out; omega)
  have hse := HBUF6.out.set_ (i := 11 - nd - 1) (by have := HBL.out; omega) 45
  have HSE := Lib.hid hse
  clear hz1 hse
  cases neg
  · have hcv := convert_tail' w6 (w2.heap.size + 1) (11 - nd) (11 - (11 - nd)) (11 - (11 - nd)) _ _ HBUF6.out hz0 (by have := HDD.out; omega)
    clear hcl hz0
    go_wp2_with fail
    go_ret
    exact ⟨rfl, HB6.out⟩
  · clear hz0
    obtain ⟨hcl1, hcl2⟩ := hcl
    have hcv := convert_tail' (w6.setCell ⟨w2.heap.size + 1, 11 - nd - 1, none⟩ (.int .u8 45)) (w2.heap.size + 1) (11 - nd - 1) (11 - (11 - nd - 1)) (11 - (11 - nd - 1)) _ _ HSE.out HZ1.out (by have := HDD.out; simp; omega)
    go_wp2_with fail
    go_ret
    exact ⟨rfl, HB6.out.setCell (by have := HB2.out.size; show w.heap.size ≤ w2.heap.size + 1; omega) _⟩
end Go.Proofs.YtdofolejfdfocaaGreatDoor
