/- Walks: the reference's short, which divides by one limb into a new row. -/
import Derived.Test.YtdofolejfdfocaaDoorqR3
namespace Go.Proofs.YtdofolejfdfocaaDoor
open Go.RowKit

/-- The limbs from k on of the new row are the quotient's. -/
def RShortRel (w : World) (g : Nat) (ms : List Nat) (d : Nat) (wr : World) (k r : Nat) : Prop :=
  ∃ ds : List Nat, ds.length = ms.length ∧ L32 ds ∧ Row wr g ds ∧ val (ms.drop k) = d * val (ds.drop k) + r ∧ Below w.heap.size w wr
theorem RShortRel.start (w : World) (ms : List Nat) (d n : Nat) (hn : ms.length = n) : RShortRel w w.heap.size ms d (w.alloc (rowObj (List.replicate n 0))) n 0 := by
  subst hn
  exact ⟨_, by simp, L32.replicate _, Row.new _ _, by rw [List.drop_length, List.drop_of_length_le (by simp)]; simp [val], below_alloc _ _⟩
theorem RShortRel.step {w wr : World} {g : Nat} {ms : List Nat} {d j r p Q R : Nat} (h : RShortRel w g ms d wr (j + 1) r) (hg : w.heap.size ≤ g) (hj : j < ms.length) (hp : ms.getD j 0 = p) (hQ : Q = (r * 4294967296 + p) / d) (hR : R = (r * 4294967296 + p) % d) (hQ32 : Q < 4294967296)
    (v : Int) (hv : v = (Q : Int)) : RShortRel w g ms d (wr.setCell ⟨g, j, none⟩ (.int .u32 v)) j R := by
  subst hv
  obtain ⟨ds, hl, h32, hrow, hd, hb⟩ := h
  refine ⟨ds.set j Q, by simpa using hl, h32.set hQ32, hrow.set_ j Q, ?_, hb.setCell (by simpa using hg) _⟩
  rw [drop_cons hj, hp, val, hd]
  have e : (ds.set j Q).drop j = Q :: ds.drop (j + 1) := by
    rw [drop_cons (by simp; omega)]
    congr 1
    · simp [List.getD, show j < ds.length by omega]
    · rw [List.drop_set_of_lt (by omega)]
  rw [e, val]
  have h1 := Nat.div_add_mod (r * 4294967296 + p) d
  rw [← hQ, ← hR] at h1
  generalize val (ds.drop (j + 1)) = V at *
  rw [Nat.mul_add, Nat.mul_add, Nat.mul_left_comm d 4294967296 V]
  omega
theorem RShortRel.cell {w wr : World} {g : Nat} {ms : List Nat} {d k r : Nat} (h : RShortRel w g ms d wr k r) {i : Nat} (hi : i < ms.length) : ∃ x : Nat, wr.cell? ⟨g, i, none⟩ = some (.int .u32 (x : Int)) ∧ wr.frozen? ⟨g, i, none⟩ = false := by
  obtain ⟨ds, hl, h32, hr, he, hb⟩ := h
  exact ⟨_, hr.cell (by omega), hr.frozen i⟩
theorem RShortRel.bel {w wr : World} {g : Nat} {ms : List Nat} {d k r : Nat} (h : RShortRel w g ms d wr k r) : Below w.heap.size w wr := by
  obtain ⟨_, _, _, _, _, hb⟩ := h
  exact hb

set_option maxHeartbeats 1600000 in
theorem RShort_any (A : Option Addr) (n c : Nat) (ms : List Nat) (d : Nat) (w : World) (hn : ms.length = n) (hm : Mem w w.heap.size A ms) (h32 : L32 ms) (hl : n ≤ 4398046511104) (hd0 : 0 < d) (hd : d < 4294967296) :
    Calls Tryd.prog 67 #[.slice A n c, .int .u32 d] w fun e w' => ∃ ds : List Nat, e = .returned (.tuple #[.slice (some ⟨w.heap.size, 0, none⟩) n n, .int .u32 (val ms % d : Nat)]) ∧ ds.length = n ∧ L32 ds ∧ val ds = val ms / d ∧ Row w' w.heap.size ds ∧ Below w.heap.size w w' := by
  have hmk := fun W => mk32 (n : Int) (by omega) (by omega) W
  rw [Int.toNat_natCast] at hmk
  have HN := Lib.hid hn
  have HM := Lib.hid hm
  clear hn hm
  go_enter Tryd.func67, Tryd.ntmps67
  go_wp2_with fail
  go_loopw [7, 8] (fun rest i wr => ∃ k r : Nat, k ≤ n ∧ i = .int .i64 ((k : Int) - 1) ∧ rest = .int .u64 r ∧ r < d ∧ RShortRel w w.heap.size ms d wr k r) (fun _ i _ => (intOf i + 1).toNat)
  case atStart => exact ⟨n, 0, Nat.le_refl _, rfl, rfl, hd0, RShortRel.start w ms d n HN.out⟩
  case round =>
    obtain ⟨k, r, hk, rfl, rfl, hrd, hrel⟩ := hrel
    rcases Nat.eq_zero_or_pos k with h0 | h0
    · subst h0
      obtain ⟨ds, hl', h32', hrow, hv, hgrow⟩ := hrel
      rw [List.drop_zero, List.drop_zero] at hv
      have HV := Lib.hid hv
      have HL := Lib.hid hl'
      clear hv hl'
      go_wp2
      go_ret2
      have e1 : val ms % d = r := by rw [HV.out, Nat.add_comm, Nat.add_mul_mod_self_left]; exact Nat.mod_eq_of_lt hrd
      have e2 : val ms / d = val ds := by rw [HV.out, Nat.add_comm, Nat.add_mul_div_left _ _ hd0, Nat.div_eq_of_lt hrd]; omega
      rw [e1, e2]
      exact ⟨ds, rfl, by rw [HL.out, HN.out], h32', rfl, hrow, hgrow⟩
    · obtain ⟨j, rfl⟩ : ∃ j, k = j + 1 := ⟨k - 1, by omega⟩
      have hj : j < ms.length := by rw [HN.out]; omega
      obtain ⟨ad, rfl, hlt, hc0⟩ := HM.out.at_ hj
      have hc := (hrel.bel.cell (p := ad.add j) (by rw [block_of_add']; exact hlt)).trans hc0
      obtain ⟨ox, ho, hf⟩ := hrel.cell hj
      have hp := h32.get hj
      have hpe := getD_of_lt hj
      generalize ms[j]'hj = p at *
      have hT : r * 4294967296 + p < d * 4294967296 := by omega
      have hQ32 : (r * 4294967296 + p) / d < 4294967296 := Nat.div_lt_of_lt_mul hT
      have hR : (r * 4294967296 + p) % d < d := Nat.mod_lt _ hd0
      have HS := Lib.hid (hrel.step (Nat.le_refl _) hj hpe rfl rfl hQ32 _ rfl)
      have hT64 : r * 4294967296 + p < 18446744073709551616 := by omega
      have hor : (r : Int) * 4294967296 + (p : Int) = ((r * 4294967296 + p : Nat) : Int) := by omega
      generalize r * 4294967296 + p = T at *
      have hq : IntKind.u64.wrap ((T : Int) / (d : Int)) = ((T / d : Nat) : Int) := wrap_u64_nat _ (by omega)
      have hrm : (T : Int).tmod (d : Int) = ((T % d : Nat) : Int) := rfl
      generalize T / d = Q at *
      generalize T % d = R at *
      have hdn : ¬ d = 0 := by omega
      have hcast : ((j + 1 : Nat) : Int) - 1 = (j : Int) := by omega
      have HC := Lib.hid hcast
      have HPE := Lib.hid hpe
      clear hrel hpe hcast hc0
      rw [HC.out]
      go_wp2
      go_roundw
      case rel => exact ⟨j, R, by omega, by first | rfl | go_num, by first | rfl | go_num, hR, HS.out⟩
      case measure => simp [intOf]
end Go.Proofs.YtdofolejfdfocaaDoor
