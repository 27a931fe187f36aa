/- Walks: shorten, which divides a row of limbs in place. -/
import Derived.Test.YtjajmonhcnmidaaDoorGe
namespace Go.Proofs.YtjajmonhcnmidaaDoor
open Go.RowKit

def enc32 (x : Nat) : Value := .int .u32 (x : Int)
/-- Block g begins with the limbs ms. -/
def PRow (w : World) (g : Nat) (ms : List Nat) : Prop := ∃ tl : List Value, w.heap[g]? = some (.cells (ms.map enc32 ++ tl).toArray 38 (0, 0))
theorem PRow.cell {w : World} {g : Nat} {ms : List Nat} (h : PRow w g ms) {i : Nat} (hi : i < ms.length) : w.cell? ⟨g, i, none⟩ = some (.int .u32 (ms[i] : Nat)) ∧ w.frozen? ⟨g, i, none⟩ = false := by
  obtain ⟨tl, h⟩ := h
  refine ⟨?_, frozen_of_row h i⟩
  rw [cell_of_row w g i _ _ (0, 0) h]
  simp [List.getElem?_append, hi, enc32]
theorem PRow.set_ {w : World} {g : Nat} {ms : List Nat} (h : PRow w g ms) {i : Nat} (hi : i < ms.length) (x : Nat) : PRow (w.setCell ⟨g, i, none⟩ (.int .u32 (x : Int))) g (ms.set i x) := by
  obtain ⟨tl, h⟩ := h
  refine ⟨tl, ?_⟩
  have := block_setCell h i (.int .u32 (x : Int))
  rw [this]
  congr 2
  simp [hi, List.map_set, enc32]
theorem PRow.lt {w : World} {g : Nat} {ms : List Nat} (h : PRow w g ms) : g < w.heap.size := by
  obtain ⟨tl, h⟩ := h
  rcases Nat.lt_or_ge g w.heap.size with hlt | hge
  · exact hlt
  · rw [Array.getElem?_eq_none hge] at h; cases h
theorem PRow.mem {w : World} {g : Nat} {ms : List Nat} (h : PRow w g ms) : Mem w w.heap.size (some ⟨g, 0, none⟩) ms := fun _ => ⟨_, rfl, h.lt, by obtain ⟨tl, h⟩ := h; exact ⟨_, _, h⟩, fun j x hx => by
  have hj : j < ms.length := (List.getElem?_eq_some_iff.1 hx).1
  have hx' : ms[j] = x := (List.getElem?_eq_some_iff.1 hx).2
  have e : (⟨g, 0, none⟩ : Addr).add j = ⟨g, j, none⟩ := by
    unfold Addr.add
    split
    · next h0 => rw [h0]
    · simp
  rw [e, (h.cell hj).1, hx']⟩
theorem PRow.take {w : World} {g : Nat} {ms : List Nat} (h : PRow w g ms) (k : Nat) : PRow w g (ms.take k) := by
  obtain ⟨tl, h⟩ := h
  refine ⟨(ms.drop k).map enc32 ++ tl, ?_⟩
  rw [h, ← List.append_assoc, ← List.map_append, List.take_append_drop]
theorem PRow.only {w w' : World} {g g' : Nat} {ms : List Nat} (h : PRow w g ms) (hg : w.grownBy w' (some g')) (hne : g ≠ g') : PRow w' g ms := by
  obtain ⟨tl, h'⟩ := h
  exact ⟨tl, (hg.block g (PRow.lt ⟨tl, h'⟩) (by simpa using hne)).trans h'⟩
theorem PRow.below {w w' : World} {g : Nat} {ms : List Nat} (h : PRow w g ms) (hb : Below w.heap.size w w') : PRow w' g ms := by
  obtain ⟨tl, h'⟩ := h
  exact ⟨tl, (hb.block g (PRow.lt ⟨tl, h'⟩)).trans h'⟩
theorem only_set {w wr : World} {g : Nat} (h : w.grownBy wr (some g)) (i : Nat) (u : Value) : w.grownBy (wr.setCell ⟨g, i, none⟩ u) (some g) :=
  ⟨h.os, h.tape, h.output, by simpa [World.setCell] using h.size, fun k hk hne => (Below.heap_setCell wr _ u k (by simpa using hne)).trans (h.block k hk hne)⟩

/-- The limbs from k on are divided; below k they are as they were. -/
def ShortRel (w : World) (g : Nat) (ms : List Nat) (d : Nat) (wr : World) (k r : Nat) : Prop :=
  ∃ ds : List Nat, ds.length = ms.length ∧ L32 ds ∧ PRow wr g ds ∧ ds.take k = ms.take k ∧ val (ms.drop k) = d * val (ds.drop k) + r ∧ w.grownBy wr (some g)

theorem drop_cons {ms : List Nat} {j : Nat} (h : j < ms.length) : ms.drop j = ms.getD j 0 :: ms.drop (j + 1) := by
  rw [List.drop_eq_getElem_cons h, getD_of_lt h]
theorem ShortRel.step {w wr : World} {g : Nat} {ms : List Nat} {d j r p Q R : Nat} (h : ShortRel w g ms d wr (j + 1) r) (hj : j < ms.length) (hp : ms.getD j 0 = p) (hQ : Q = (r * 4294967296 + p) / d) (hR : R = (r * 4294967296 + p) % d) (hQ32 : Q < 4294967296)
    (v : Int) (hv : v = (Q : Int)) : ShortRel w g ms d (wr.setCell ⟨g, j, none⟩ (.int .u32 v)) j R := by
  subst hv
  obtain ⟨ds, hl, h32, hrow, ht, hd, hg⟩ := h
  refine ⟨ds.set j Q, by simpa using hl, h32.set hQ32, hrow.set_ (by omega) Q, ?_, ?_, only_set hg j _⟩
  · rw [List.take_set_of_le (Nat.le_refl _)]
    have := congrArg (List.take j) ht
    rwa [List.take_take, List.take_take, Nat.min_eq_left (by omega)] at this
  · rw [drop_cons hj, hp, val, hd]
    have e : (ds.set j Q).drop j = Q :: ds.drop (j + 1) := by
      rw [drop_cons (by simp; omega)]
      congr 1
      · simp [List.getD, show j < ds.length by omega]
      · rw [List.drop_set_of_lt (by omega)]
    rw [e, val]
    have h1 := Nat.div_add_mod (r * 4294967296 + p) d
    rw [← hQ, ← hR] at h1
    generalize val (ds.drop (j + 1)) = V at *
    rw [Nat.mul_add, Nat.mul_add, Nat.mul_left_comm d 4294967296 V]
    omega
theorem ShortRel.at_ {w wr : World} {g : Nat} {ms : List Nat} {d j r : Nat} (h : ShortRel w g ms d wr (j + 1) r) (hj : j < ms.length) : wr.cell? ⟨g, j, none⟩ = some (.int .u32 ((ms.getD j 0 : Nat) : Int)) ∧ wr.frozen? ⟨g, j, none⟩ = false := by
  obtain ⟨ds, hl, h32, hrow, ht, hd, hg⟩ := h
  obtain ⟨h1, h2⟩ := hrow.cell (i := j) (by omega)
  refine ⟨?_, h2⟩
  rw [h1]
  have := congrArg (fun l => l.getD j 0) ht
  simp only [List.getD, List.getElem?_take, show j < j + 1 by omega, if_true] at this
  rw [← getD_of_lt (show j < ds.length by omega)]
  simp only [List.getD, this]

theorem or_word (r p : Nat) (hr : r < 4294967296) (hp : p < 4294967296) : bits .or .u64 ((r : Int) * 4294967296) (p : Int) = ((r * 4294967296 + p : Nat) : Int) := by
  have e : (r : Int) * 4294967296 = ((r * 4294967296 : Nat) : Int) := by omega
  rw [e, u64_or_nat _ _ (by omega) (by omega), shl_or _ _ hp]
set_option maxHeartbeats 1600000 in
theorem shorten_any (g n c : Nat) (ms : List Nat) (d : Nat) (w : World) (hn : ms.length = n) (hr : PRow w g ms) (h32 : L32 ms) (hl : n ≤ 4398046511104) (hd0 : 0 < d) (hd : d < 4294967296) :
    Calls Tryd.prog 61 #[.slice (some ⟨g, 0, none⟩) n c, .int .u32 d] w fun e w' => e = .returned (.int .u32 (val ms % d : Nat)) ∧ (∃ ds : List Nat, ds.length = n ∧ L32 ds ∧ val ds = val ms / d ∧ PRow w' g ds) ∧ w.grownBy w' (some g) := by
  have HN := Lib.hid hn
  clear hn
  go_enter Tryd.func61, Tryd.ntmps61
  go_wp2_with fail
  go_loopw [5, 6] (fun rest i wr => ∃ k r : Nat, k ≤ n ∧ i = .int .i64 ((k : Int) - 1) ∧ rest = .int .u64 r ∧ r < d ∧ ShortRel w g ms d wr k r) (fun _ i _ => (intOf i + 1).toNat)
  case atStart => exact ⟨n, 0, Nat.le_refl _, rfl, rfl, hd0, ms, rfl, h32, hr, rfl, by rw [← HN.out, List.drop_length]; simp [val], World.grownBy.refl w _⟩
  case round =>
    obtain ⟨k, r, hk, rfl, rfl, hrd, hrel⟩ := hrel
    rcases Nat.eq_zero_or_pos k with h0 | h0
    · subst h0
      obtain ⟨ds, hl', h32', hrow, ht, hv, hgrow⟩ := hrel
      rw [List.drop_zero, List.drop_zero] at hv
      have HV := Lib.hid hv
      have HL := Lib.hid hl'
      clear hv hl' ht
      go_wp2
      go_ret
      have e1 : val ms % d = r := by rw [HV.out, Nat.add_comm, Nat.add_mul_mod_self_left]; exact Nat.mod_eq_of_lt hrd
      have e2 : val ms / d = val ds := by rw [HV.out, Nat.add_comm, Nat.add_mul_div_left _ _ hd0, Nat.div_eq_of_lt hrd]; omega
      rw [e1, e2]
      exact ⟨rfl, ⟨ds, by rw [HL.out, HN.out], h32', rfl, hrow⟩, hgrow⟩
    · obtain ⟨j, rfl⟩ : ∃ j, k = j + 1 := ⟨k - 1, by omega⟩
      have hj : j < ms.length := by rw [HN.out]; omega
      obtain ⟨hc, hf⟩ := hrel.at_ hj
      have hp := h32.at_ j
      obtain ⟨p, hpe⟩ : ∃ p, ms.getD j 0 = p := ⟨_, rfl⟩
      rw [hpe] at hc hp
      have hT : r * 4294967296 + p < d * 4294967296 := by omega
      have hor : bits .or .u64 ((r : Int) * 4294967296) (p : Int) = ((r * 4294967296 + p : Nat) : Int) := by
        exact or_word r p (by omega) hp
      have hQ32 : (r * 4294967296 + p) / d < 4294967296 := Nat.div_lt_of_lt_mul hT
      have hR : (r * 4294967296 + p) % d < d := Nat.mod_lt _ hd0
      have HS := Lib.hid (hrel.step hj hpe rfl rfl hQ32 _ rfl)
      have hT64 : r * 4294967296 + p < 18446744073709551616 := by omega
      generalize r * 4294967296 + p = T at *
      have hq : IntKind.u64.wrap ((T : Int) / (d : Int)) = ((T / d : Nat) : Int) := wrap_u64_nat _ (by omega)
      have hrm : (T : Int).tmod (d : Int) = ((T % d : Nat) : Int) := rfl
      generalize T / d = Q at *
      generalize T % d = R at *
      have hdn : ¬ d = 0 := by omega
      have hcast : ((j + 1 : Nat) : Int) - 1 = (j : Int) := by omega
      have HPE := Lib.hid hpe
      have HC := Lib.hid hcast
      clear hrel hpe hcast
      rw [HC.out]
      go_wp2
      go_roundw
      case rel => exact ⟨j, R, by omega, by first | rfl | go_num, by first | rfl | go_num, hR, HS.out⟩
      case measure => simp [intOf]
end Go.Proofs.YtjajmonhcnmidaaDoor
