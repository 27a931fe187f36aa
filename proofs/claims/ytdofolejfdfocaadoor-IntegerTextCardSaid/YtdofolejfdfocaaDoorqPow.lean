/- Walks: Pow. -/
import Derived.Test.YtdofolejfdfocaaDoorqR3
import Derived.Test.YtdofolejfdfocaaDoorShelf
namespace Go.Proofs.YtdofolejfdfocaaDoor
open Go.RowKit

theorem len_pow (a n : Nat) : len (a ^ n) ≤ n * len a + 1 := by
  induction n with
  | zero => have := len_le_one (show 1 < 4294967296 by decide); simpa using this
  | succ n ih => have := len_mul (a ^ n) a; rw [Nat.pow_succ, Nat.add_mul]; omega

theorem bitLen_lt (x : Nat) (hx : x < 18446744073709551616) : x < 2 ^ Lib.bitLen x := by
  induction x using Nat.strongRecOn with
  | _ x ih =>
    rcases Nat.eq_zero_or_pos x with h | h
    · subst h; exact Nat.pow_pos (by decide)
    · rw [Lib.bitLen_half x (by omega) (by simpa using hx), Nat.pow_add]
      have := ih (x / 2) (by omega) (by omega)
      omega
theorem bitLen_le9 {x : Nat} (hx : x ≤ 256) : Lib.bitLen x ≤ 9 := by
  rcases Nat.eq_zero_or_pos x with h | h
  · subst h; decide
  · rw [Lib.bitLen_half x (by omega) (by omega)]
    have := Lib.bitLen_le8 ⟨x / 2, by omega⟩
    simp only at this
    omega
theorem and_one_i64 (a : Nat) (ha : a < 9223372036854775808) : bits .and .i64 (a : Int) 1 = ((a % 2 : Nat) : Int) := by
  have e1 : (BitVec.ofInt 64 (a : Int)).toNat = a := by rw [BitVec.ofInt_natCast, BitVec.toNat_ofNat]; exact Nat.mod_eq_of_lt (by omega)
  have e2 : (BitVec.ofInt 64 (1 : Int)).toNat = 1 := by decide
  show IntKind.i64.wrap ((BitVec.ofInt 64 (a : Int) &&& BitVec.ofInt 64 (1 : Int)).toNat : Int) = _
  rw [BitVec.toNat_and, e1, e2, Nat.and_one_is_mod, IntKind.wrap_i64]
  omega
theorem bit_is (n m : Nat) (hn : n ≤ 256) (b : Bool) (hb : (n / 2 ^ m) % 2 = if b then 1 else 0) : (bits BinOp.and IntKind.i64 ((n : Int) / 2 ^ m) 1 == 1) = b := by
  have e : ((n : Int) / 2 ^ m) = ((n / 2 ^ m : Nat) : Int) := by
    rw [Int.natCast_ediv, Int.natCast_pow]; rfl
  have : n / 2 ^ m ≤ n := Nat.div_le_self _ _
  rw [e, and_one_i64 _ (by omega), hb]
  cases b <;> rfl
theorem half_of (n m : Nat) : n / 2 ^ m = n / 2 ^ (m + 1) + n / 2 ^ (m + 1) + n / 2 ^ m % 2 := by
  have : n / 2 ^ (m + 1) = n / 2 ^ m / 2 := by rw [Nat.pow_succ, Nat.div_div_eq_div_mul]
  omega
theorem len_pow_int (z : Int) (k n : Nat) (hk : k ≤ n) (hn : n ≤ 256) (hl : len z.natAbs ≤ 1073741824) : len (z ^ k).natAbs ≤ 274877906945 := by
  rw [Int.natAbs_pow]
  have h := len_pow z.natAbs k
  have : k * len z.natAbs ≤ 256 * 1073741824 := Nat.mul_le_mul (by omega) hl
  omega

/-- The box of the power, and all that was there before it. -/
def PowRel (W : World) (wr : World) (z : Int) : Prop := ∃ (b : Bool) (A : Option Addr) (k c : Nat), wr.heap[W.heap.size]? = some (.cells #[.bool b, .slice A k c] 27 (0, 0)) ∧ IntAt wr (.agg #[.bool b, .slice A k c]) z ∧ Below W.heap.size W wr
/-- The same, of a power whose value is known. -/
def PowAt (W wr : World) (z : Int) (b : Bool) (A : Option Addr) (k c : Nat) : Prop := wr.heap[W.heap.size]? = some (.cells #[.bool b, .slice A k c] 27 (0, 0)) ∧ IntAt wr (.agg #[.bool b, .slice A k c]) z ∧ Below W.heap.size W wr
theorem PowAt.rel {W wr : World} {z : Int} {b : Bool} {A : Option Addr} {k c : Nat} (h : PowAt W wr z b A k c) : PowRel W wr z := ⟨b, A, k, c, h⟩
theorem PowRel.next {W wr w1 : World} {z z' : Int} (h : PowRel W wr z) (hb : Below wr.heap.size wr w1) {b : Bool} {A : Option Addr} {k c : Nat} (hi : IntAt w1 (.agg #[.bool b, .slice A k c]) z') :
    PowAt W ((w1.setCell ⟨W.heap.size, 0, none⟩ (.bool b)).setCell ⟨W.heap.size, 1, none⟩ (.slice A k c)) z' b A k c := by
  obtain ⟨b0, A0, k0, c0, hg, _, hW⟩ := h
  have hlt : W.heap.size < wr.heap.size := by
    rcases Nat.lt_or_ge W.heap.size wr.heap.size with hlt | hge
    · exact hlt
    · rw [Array.getElem?_eq_none hge] at hg; cases hg
  have h1 := (hb.block _ hlt).trans hg
  have hne : (27 : TypeId) ≠ 41 := by decide
  refine ⟨?_, (hi.far h1 hne 0 _).far (block_setCell h1 0 _) hne 1 _, ?_⟩
  · have := block_setCell (block_setCell h1 0 (.bool b)) 1 (.slice A k c)
    simpa using this
  · exact ((hW.trans (hb.mono hW.size)).setCell (by simp) _).setCell (by simp) _
theorem PowRel.cellsAt {W wr w1 : World} {z : Int} (h : PowRel W wr z) (hb : Below wr.heap.size wr w1) : ∃ (b : Bool) (A : Option Addr) (k c : Nat), w1.cell? ⟨W.heap.size, 0, none⟩ = some (.bool b) ∧ w1.cell? ⟨W.heap.size, 1, none⟩ = some (.slice A k c) ∧ w1.frozen? ⟨W.heap.size, 0, none⟩ = false ∧ w1.frozen? ⟨W.heap.size, 1, none⟩ = false ∧ W.heap.size < w1.heap.size ∧ True := by
  obtain ⟨b, A, k, c, hg, hi, hW⟩ := h
  obtain ⟨a, b', c', d, e⟩ := box_in hg hb
  exact ⟨b, A, k, c, a, b', c', d, e, trivial⟩
theorem PowRel.first {W : World} {z : Int} (b : Bool) (A : Option Addr) (k c : Nat) (h : IntAt W (.agg #[.bool b, .slice A k c]) z) : PowRel W (W.alloc (.cells #[.bool b, .slice A k c] 27)) z :=
  ⟨b, A, k, c, heap1 W _, h.into (below_alloc _ _), below_alloc _ _⟩
theorem PowRel.cells {W wr : World} {z : Int} (h : PowRel W wr z) : ∃ (b : Bool) (A : Option Addr) (k c : Nat), wr.cell? ⟨W.heap.size, 0, none⟩ = some (.bool b) ∧ wr.cell? ⟨W.heap.size, 1, none⟩ = some (.slice A k c) ∧ wr.frozen? ⟨W.heap.size, 0, none⟩ = false ∧ wr.frozen? ⟨W.heap.size, 1, none⟩ = false ∧ W.heap.size < wr.heap.size ∧ Hid (IntAt wr (.agg #[.bool b, .slice A k c]) z) := by
  obtain ⟨b, A, k, c, hg, hi, hW⟩ := h
  obtain ⟨a, b', c', d, e⟩ := box_in hg (Below.refl _ _)
  exact ⟨b, A, k, c, a, b', c', d, e, hi⟩

set_option maxHeartbeats 1600000 in
theorem Pow_err (v : Value) (n : Int) (w : World) (h : ∃ (b : Bool) (A : Option Addr) (k c : Nat), v = .agg #[.bool b, .slice A k c]) (hn : n < 0 ∨ 256 < n) (h0 : -9223372036854775808 ≤ n) (h1 : n ≤ 9223372036854775807) :
    Calls Tryd.prog 13 #[v, .int .i64 n] w fun e w' => ∃ v', e = .returned (.tuple #[v', .int .i64 1]) ∧ IntAt w' v' 0 ∧ Below w.heap.size w w' := by
  obtain ⟨b, A, k, c, rfl⟩ := h
  rcases hn with hn | hn
  · have hd : decide (n < 0) = true := by simpa using hn
    go_enter Tryd.func13, Tryd.ntmps13
    go_wp2
    refine bodyPost_ret (v := .tuple #[.agg #[.bool false, .slice none 0 0], .int .i64 1]) (by simp [results, Tryd.results13, go_sem]) rfl ⟨_, rfl, IntAt.zero _ _ _, ?_⟩
    first | exact below2 _ _ _ | exact ((below2 _ _ _).setCell (by simp) _).setCell (by simp) _
  · have hd : decide (n < 0) = false := by simp; omega
    have hd2 : decide (256 < n) = true := by simpa using hn
    go_enter Tryd.func13, Tryd.ntmps13
    go_wp2
    refine bodyPost_ret (v := .tuple #[.agg #[.bool false, .slice none 0 0], .int .i64 1]) (by simp [results, Tryd.results13, go_sem]) rfl ⟨_, rfl, IntAt.zero _ _ _, ?_⟩
    first | exact below2 _ _ _ | exact ((below2 _ _ _).setCell (by simp) _).setCell (by simp) _

set_option maxHeartbeats 1600000 in
theorem Pow_any (v : Value) (z : Int) (n : Nat) (w : World) (h : IntAt w v z) (hla : len z.natAbs ≤ 1073741824) (hn : n ≤ 256) :
    Calls Tryd.prog 13 #[v, .int .i64 n] w fun e w' => ∃ v', e = .returned (.tuple #[v', .int .i64 0]) ∧ IntAt w' v' (z ^ n) ∧ Below w.heap.size w w' := by
  obtain ⟨b, A, k, c, rfl, H⟩ := h.open_
  clear h
  have hd : decide ((n : Int) < 0) = false := by simp
  have hd2 : decide ((256 : Int) < (n : Int)) = false := by simp; omega
  go_enter Tryd.func13, Tryd.ntmps13
  go_wp2_with fail
  refine (Of_any 1 _ (by omega) (by omega)).mono ?_
  rintro e w1 ⟨v1, rfl, hv1, hb1⟩
  obtain ⟨b1, A1, k1, c1, rfl, H1⟩ := hv1.open_
  have hB1 := Lib.hid hb1
  clear hb1 hv1
  have hP := PowRel.first b1 A1 k1 c1 H1.out
  have HP := Lib.hid hP
  have HW1 := Lib.hid (step_below (below2 w (.cells #[.bool b, .slice A k c] 27) (.cells #[.bool false, .slice none 0 0] 27)) hB1.out)
  clear hP
  go_wp2_with fail
  refine (Tryd.bits_Len (n : Int) _ (by omega) (by omega)).mono ?_
  rintro e w' ⟨rfl, rfl⟩
  rw [Int.toNat_natCast]
  have hbl : Lib.bitLen n ≤ 9 := bitLen_le9 hn
  have hb2n : n < 2 ^ Lib.bitLen n := bitLen_lt n (by omega)
  generalize hL : Lib.bitLen n = L at *
  have HL := Lib.hid hL
  clear hL
  have h2 := heap2 w (.cells #[.bool b, .slice A k c] 27) (.cells #[.bool false, .slice none 0 0] 27)
  have hsz := hB1.out.size
  rw [size_alloc', size_alloc'] at hsz
  have HA1 := Lib.hid ((hB1.out.block _ (by simp; omega)).trans h2.1)
  have HR1 := Lib.hid ((hB1.out.block _ (by simp)).trans h2.2)
  have hlt1 : w.heap.size < w1.heap.size := by omega
  have hlt2 : w.heap.size + 1 < w1.heap.size := by omega
  clear h2 hsz
  go_wp2_with fail
  go_loopw [7] (fun i wr => ∃ j : Nat, j ≤ L ∧ i = .int .i64 j ∧ PowRel w1 wr (z ^ (n / 2 ^ j))) (fun i _ => (intOf i).toNat)
  case atStart => exact ⟨L, Nat.le_refl _, rfl, by rw [Nat.div_eq_of_lt hb2n, Int.pow_zero]; exact HP.out⟩
  case round =>
    obtain ⟨j, hj, rfl, hR⟩ := hrel
    rcases Nat.eq_zero_or_pos j with h0 | h0
    · subst h0
      rw [Nat.pow_zero, Nat.div_one] at hR
      obtain ⟨bp, Ap, kp, cp, hc0, hc1, hf0, hf1, hs, HI⟩ := hR.cells
      obtain ⟨_, _, _, _, _, _, hbr⟩ := hR
      obtain ⟨rc0, rc1, rf0, rf1, rs⟩ := box_in HR1.out hbr
      have HE := Lib.hid (box_end (x' := .bool bp) (y' := .slice Ap kp cp) HR1.out hbr HI.out HW1.out (by omega))
      clear hbr
      go_wp2
      refine bodyPost_ret (v := .tuple #[.agg #[.bool bp, .slice Ap kp cp], .int .i64 0]) (by simp [results, Tryd.results13, go_sem, rc0, rc1]) rfl ⟨_, rfl, HE.out.1, HE.out.2⟩
    · obtain ⟨m, rfl⟩ : ∃ m, j = m + 1 := ⟨j - 1, by omega⟩
      obtain ⟨bp, Ap, kp, cp, hc0, hc1, hf0, hf1, hs, HI⟩ := hR.cells
      have HR := Lib.hid hR
      clear hR
      have hlp := len_pow_int z (n / 2 ^ (m + 1)) n (Nat.div_le_self _ _) hn hla
      go_wp2_with fail
      refine (Mul_any _ _ (z ^ (n / 2 ^ (m + 1))) (z ^ (n / 2 ^ (m + 1))) _ HI.out HI.out (by omega) (by omega)).mono ?_
      rintro e w2 ⟨v2, rfl, hv2, hb2⟩
      obtain ⟨b2, A2, k2, c2, rfl, H2⟩ := hv2.open_
      have HR2 := Lib.hid (HR.out.next hb2 H2.out)
      obtain ⟨_, _, _, _, gc0, gc1, gf0, gf1, gs, _⟩ := HR.out.cellsAt hb2
      obtain ⟨_, _, _, _, _, _, hbr⟩ := HR.out
      obtain ⟨ac0, ac1, af0, af1, as'⟩ := box_in HA1.out (step_below hbr hb2)
      have HB2 := Lib.hid (step_below hbr hb2)
      clear hc0 hc1 hf0 hf1 hs hbr hb2 hv2
      rcases Nat.mod_two_eq_zero_or_one (n / 2 ^ m) with hbit | hbit
      · have hbt := bit_is n m hn false (by simpa using hbit)
        have hz : z ^ (n / 2 ^ (m + 1)) * z ^ (n / 2 ^ (m + 1)) = z ^ (n / 2 ^ m) := by
          rw [← Int.pow_add]; congr 1; have := half_of n m; omega
        have HZ := Lib.hid hz
        clear hz hbit
        go_wp2_with fail
        go_roundw
        case rel => exact ⟨m, by omega, by first | rfl | go_num, by have := HR2.out.rel; rw [HZ.out] at this; exact this⟩
        case measure => simp [intOf]
      · have hbt := bit_is n m hn true (by simpa using hbit)
        have hz : z ^ (n / 2 ^ (m + 1)) * z ^ (n / 2 ^ (m + 1)) * z = z ^ (n / 2 ^ m) := by
          rw [← Int.pow_add, ← Int.pow_succ]; congr 1; have := half_of n m; omega
        have HZ := Lib.hid hz
        have HBIT := Lib.hid hbit
        clear hz hbit
        have hlp2 : len (z ^ (n / 2 ^ (m + 1)) * z ^ (n / 2 ^ (m + 1))).natAbs ≤ 549755813890 := by
          rw [Int.natAbs_mul]; have := len_mul (z ^ (n / 2 ^ (m + 1))).natAbs (z ^ (n / 2 ^ (m + 1))).natAbs; omega
        obtain ⟨HI2, hbr3⟩ := HR2.out.2
        have HII := Lib.hid HI2
        have HBR3 := Lib.hid hbr3
        clear HI2 hbr3
        go_wp2_with fail
        refine (Mul_any _ _ _ z _ HII.out (H.out.into (step_below HW1.out HBR3.out)) (by omega) (by omega)).mono ?_
        rintro e w3 ⟨v3, rfl, hv3, hb3⟩
        obtain ⟨b3, A3, k3, c3, rfl, H3⟩ := hv3.open_
        have HR3 := Lib.hid (HR2.out.rel.next hb3 H3.out)
        obtain ⟨_, _, _, _, sc0, sc1, sf0, sf1, ss, _⟩ := HR2.out.rel.cellsAt hb3
        clear hb3 hv3 gc0 gc1 gf0 gf1 gs ac0 ac1 af0 af1 as'
        go_wp2_with fail
        go_roundw
        case rel => exact ⟨m, by omega, by first | rfl | go_num, by have := HR3.out.rel; rw [HZ.out] at this; exact this⟩
        case measure => simp [intOf]
end Go.Proofs.YtdofolejfdfocaaDoor
