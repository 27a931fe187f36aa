/- The walk of 'difference'. -/
import Derived.Test.YtjajmonhcnmidaaDoorDifP
namespace Go.Proofs.YtjajmonhcnmidaaDoor
open Go.RowKit

set_option maxHeartbeats 1000000 in
theorem difference_pos (A B : Option Addr) (c d x y : Nat) (w : World) (ha : Mem w w.heap.size A (limbs x)) (hb : Mem w w.heap.size B (limbs y)) (hx : len x ≤ 1099511627776) (hxy : y ≤ x) (hy0 : 0 < len y) :
    Calls Tryd.prog 48 #[.slice A (len x) c, .slice B (len y) d] w (GivesNat (x - y) w) := by
  have hle : len y ≤ len x := len_mono hxy
  have ht2 : ((len y : Int) == 0) = false := by simp; omega
  have hmk := fun W => mk32 ((len x : Int)) (by omega) (by omega) W
  rw [Int.toNat_natCast] at hmk
  obtain ⟨ad, rfl, _, hca⟩ := ha.at_ (show 0 < (limbs x).length by rw [len_limbs]; omega)
  obtain ⟨bd, rfl, _, hcb⟩ := hb.at_ (show 0 < (limbs y).length by rw [len_limbs]; omega)
  clear hca hcb
  go_enter Tryd.func48, Tryd.ntmps48
  go_wp2_with fail
  go_loopw [6, 21] (fun cr i wr => ∃ k c : Nat, k ≤ len y ∧ i = .int .i64 k ∧ cr = .int .u64 c ∧ c ≤ 1 ∧ DifRel w w.heap.size (len x) (limbs x) (limbs y) wr k c) (fun _ i _ => len y - (intOf i).toNat)
  case atStart => exact ⟨0, 0, by omega, rfl, rfl, by omega, DifRel.start _ _ _ _⟩
  case round =>
    obtain ⟨k, c, hk, rfl, rfl, hc1, hrel⟩ := hrel
    have HR := Lib.hid hrel
    clear hrel
    by_cases hlt : k < len y
    · obtain ⟨ad', e, _, hca⟩ := ha.at_ (show k < (limbs x).length by rw [len_limbs]; omega)
      injection e with e
      subst e
      obtain ⟨bd', e, _, hcb⟩ := hb.at_ (show k < (limbs y).length by rw [len_limbs]; omega)
      injection e with e
      subst e
      have hp := (limbs_32 x).get (show k < (limbs x).length by rw [len_limbs]; omega)
      have hq := (limbs_32 y).get (show k < (limbs y).length by rw [len_limbs]; omega)
      have gp := getD_of_lt (show k < (limbs x).length by rw [len_limbs]; omega)
      have gq := getD_of_lt (show k < (limbs y).length by rw [len_limbs]; omega)
      generalize (limbs x)[k]'(by rw [len_limbs]; omega) = p at *
      generalize (limbs y)[k]'(by rw [len_limbs]; omega) = q at *
      have GP := Lib.hid gp
      have GQ := Lib.hid gq
      clear gp gq
      obtain ⟨ds, hl, h32, hr, he, hbel⟩ := HR.out
      have hca' := (hbel.cell (p := ad.add k) (by rw [block_of_add']; omega)).trans hca
      have hcb' := (hbel.cell (p := bd.add k) (by rw [block_of_add']; omega)).trans hcb
      obtain ⟨ox, ho, hf⟩ := HR.out.cell (show k < len x by omega)
      clear hl h32 hr he hbel hca hcb
      have hw := wrap_dig hp hq hc1
      have hd := dig_lt p q c
      have ht := dig_top hp hq hc1
      have hst := Lib.hid (HR.out.step (by omega) (Nat.le_refl _) GP.out GQ.out hp hq hc1 _ rfl)
      generalize dig p q c = D at *
      clear HR
      go_wp2
      go_roundw
      case rel => exact ⟨k + 1, D / 9223372036854775808, by omega, by go_num, by go_num, by omega, hst.out⟩
      case measure => simp [intOf]; omega
    · have hk' : k = len y := by omega
      subst hk'
      go_wp2_with fail
      go_loopw [6, 10] (fun cr i wr => ∃ k c : Nat, len y ≤ k ∧ k ≤ len x ∧ i = .int .i64 k ∧ cr = .int .u64 c ∧ c ≤ 1 ∧ DifRel w w.heap.size (len x) (limbs x) (limbs y) wr k c) (fun _ i _ => len x - (intOf i).toNat)
      case atStart => exact ⟨_, c, Nat.le_refl _, by omega, rfl, rfl, hc1, HR.out⟩
      case round =>
        clear HR hc1
        obtain ⟨k, c, hk1, hk2, rfl, rfl, hc1, hrel⟩ := hrel
        have HR := Lib.hid hrel
        clear hrel
        by_cases hlt2 : k < len x
        · obtain ⟨ad', e, _, hca⟩ := ha.at_ (show k < (limbs x).length by rw [len_limbs]; omega)
          injection e with e
          subst e
          have hp := (limbs_32 x).get (show k < (limbs x).length by rw [len_limbs]; omega)
          have gp := getD_of_lt (show k < (limbs x).length by rw [len_limbs]; omega)
          have gq : (limbs y).getD k 0 = 0 := by simp [List.getD, List.getElem?_eq_none (show (limbs y).length ≤ k from hk1)]
          generalize (limbs x)[k]'(by rw [len_limbs]; omega) = p at *
          have GP := Lib.hid gp
          have GQ := Lib.hid gq
          clear gp gq
          obtain ⟨ds, hl, h32, hr, he, hbel⟩ := HR.out
          have hca' := (hbel.cell (p := ad.add k) (by rw [block_of_add']; omega)).trans hca
          obtain ⟨ox, ho, hf⟩ := HR.out.cell (show k < len x by omega)
          clear hl h32 hr he hbel hca
          have hw := wrap_dig0 hp hc1
          have hd := dig_lt p 0 c
          have ht := dig_top (q := 0) hp (by omega) hc1
          have hst := Lib.hid (HR.out.step (by omega) (Nat.le_refl _) GP.out GQ.out hp (by omega) hc1 _ rfl)
          generalize dig p 0 c = D at *
          clear HR
          go_wp2
          go_roundw
          case rel => exact ⟨k + 1, D / 9223372036854775808, by omega, by omega, by go_num, by go_num, by omega, hst.out⟩
          case measure => simp [intOf]; omega
        · have hk' : k = len x := by omega
          subst hk'
          obtain ⟨ds, hl, h32, hr, he, hbel⟩ := HR.out.finish (Nat.le_refl _) (by rw [len_limbs]; omega) (by rw [val_limbs, val_limbs]; exact hxy)
          have HE := Lib.hid he
          clear he
          go_wp2_with fail
          refine (trim_k _ _ _ ds _ hl (hr.mem hr.lt) (by omega) (by omega) h32).mono ?_
          rintro e w1 ⟨rfl, rfl⟩
          go_wp2
          go_ret
          refine ⟨_, rfl, ?_, hbel⟩
          have := hr.nat h32 (c := len x) (by omega)
          have he' := HE.out
          rw [val_limbs, val_limbs] at he'
          rw [show x - y = val ds from by omega]
          exact this

set_option maxHeartbeats 400000 in
theorem difference_any (va vb : Value) (x y : Nat) (w : World) (ha : NatAt w va x) (hb : NatAt w vb y) (hx : len x ≤ 1099511627776) (hxy : y ≤ x) :
    Calls Tryd.prog 48 #[va, vb] w (GivesNat (x - y) w) := by
  obtain ⟨A, c, rfl, hc, hma⟩ := ha
  obtain ⟨B, d, rfl, hd, hmb⟩ := hb
  rcases Nat.eq_zero_or_pos (len y) with h0 | h0
  · have hy0 : y = 0 := len_eq_zero.1 h0
    subst hy0
    have HB : Hid (NatAt w (.slice A (len x) c) x) := ⟨A, c, rfl, hc, hma⟩
    rw [Nat.sub_zero]
    rw [len_zero] at *
    go_enter Tryd.func48, Tryd.ntmps48
    go_wp2
    go_ret
    exact ⟨_, rfl, HB.out, Below.refl _ _⟩
  · exact difference_pos A B c d x y w hma hmb hx hxy h0
end Go.Proofs.YtjajmonhcnmidaaDoor
