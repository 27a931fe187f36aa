/- The walk of 'product'. -/
import Derived.Test.YtjajmonhcnmidaaDoorMulP
namespace Go.Proofs.YtjajmonhcnmidaaDoor
open Go.RowKit

set_option maxHeartbeats 2000000 in
theorem product_le (A B : Option Addr) (c d x y : Nat) (w : World) (ha : Mem w w.heap.size A (limbs x)) (hb : Mem w w.heap.size B (limbs y)) (hx : len x ≤ 1099511627776) (hy : len y ≤ 1099511627776) (hle : len x ≤ len y) (hx0 : 0 < len x) (hy0 : 0 < len y) :
    Calls Tryd.prog 49 #[.slice A (len x) c, .slice B (len y) d] w (GivesNat (x * y) w) := by
  have ht : decide (len y < len x) = false := by simp; omega
  have ht2 : ((len x : Int) == 0) = false := by simp; omega
  have ht3 : ((len y : Int) == 0) = false := by simp; omega
  have hmk := fun W => mk32 ((len x : Int) + (len y : Int)) (by omega) (by omega) W
  have e1 : ((len x : Int) + (len y : Int)).toNat = len x + len y := by omega
  rw [e1] at hmk
  clear e1
  obtain ⟨ad, rfl, _, hca⟩ := ha.at_ (show 0 < (limbs x).length by rw [len_limbs]; omega)
  obtain ⟨bd, rfl, _, hcb⟩ := hb.at_ (show 0 < (limbs y).length by rw [len_limbs]; omega)
  clear hca hcb
  go_enter Tryd.func49, Tryd.ntmps49
  go_wp2_with fail
  go_loopw [35] (fun i wr => ∃ k : Nat, k ≤ len x ∧ i = .int .i64 k ∧ MulRel w w.heap.size (len x + len y) (len y) (limbs x) (limbs y) wr k 0 0 0) (fun i _ => len x - (intOf i).toNat)
  case atStart => exact ⟨0, by omega, rfl, MulRel.start 0⟩
  case round =>
    obtain ⟨k, hk, rfl, hR0⟩ := hrel
    by_cases hlt : k < len x
    · obtain ⟨ad', e, _, hca⟩ := ha.at_ (show k < (limbs x).length by rw [len_limbs]; omega)
      injection e with e
      subst e
      have hp := (limbs_32 x).get (show k < (limbs x).length by rw [len_limbs]; omega)
      have gp := getD_of_lt (show k < (limbs x).length by rw [len_limbs]; omega)
      generalize (limbs x)[k]'(by rw [len_limbs]; omega) = p at *
      have GP := Lib.hid gp
      clear gp
      obtain ⟨ds, hl, h32, hr, he, hz, hbel⟩ := hR0
      have hca' := (hbel.cell (p := ad.add k) (by rw [block_of_add']; omega)).trans hca
      have HR : Hid (MulRel w w.heap.size (len x + len y) (len y) (limbs x) (limbs y) wr k 0 p 0) := MulRel.row ⟨ds, hl, h32, hr, he, hz, hbel⟩
      clear hl h32 hr he hz hbel hca
      have b1 : (0 : Int) ≤ (k : Int) := by omega
      have b2 : (k : Int) < (len x : Int) := by omega
      go_wp2_with fail
      go_quiet (fail)
      have HR1 := Lib.hid (HR.out.drewN nq)
      clear HR
      generalize wr.drewN nq = wo at *
      go_wp2_with fail
      go_loopw [9, 53] (fun cr i wr2 => ∃ j cc : Nat, j ≤ len y ∧ i = .int .i64 j ∧ cr = .int .u64 cc ∧ cc < 4294967296 ∧ MulRel w w.heap.size (len x + len y) (len y) (limbs x) (limbs y) wr2 k j p cc) (fun _ i _ => len y - (intOf i).toNat)
      case atStart => exact ⟨0, 0, by omega, rfl, rfl, by omega, HR1.out⟩
      case round =>
        obtain ⟨j, cc, hj, rfl, rfl, hcc, hrel⟩ := hrel
        have HR2 := Lib.hid hrel
        clear hrel HR1
        by_cases hlj : j < len y
        · obtain ⟨bd', e, _, hcb⟩ := hb.at_ (show j < (limbs y).length by rw [len_limbs]; omega)
          injection e with e
          subst e
          have hq := (limbs_32 y).get (show j < (limbs y).length by rw [len_limbs]; omega)
          have gq := getD_of_lt (show j < (limbs y).length by rw [len_limbs]; omega)
          generalize (limbs y)[j]'(by rw [len_limbs]; omega) = q at *
          have GQ := Lib.hid gq
          clear gq
          obtain ⟨ds, hl, h32, hr, he, hz, hbel⟩ := HR2.out
          have hcb' := (hbel.cell (p := bd.add j) (by rw [block_of_add']; omega)).trans hcb
          clear hl h32 hr he hz hbel hcb
          obtain ⟨r, hr, hcell, hfz, hstep⟩ := HR2.out.cell (t := k + j) (by omega)
          have HS := Lib.hid (hstep hlj q _ GQ.out rfl (Nat.le_refl _) rfl _ rfl)
          have hm := mul_bd hp hq
          have hm0 : (0 : Int) ≤ (p : Int) * (q : Int) := by rw [← Int.natCast_mul]; omega
          have hm1 : (p : Int) * (q : Int) ≤ 18446744065119617025 := by rw [← Int.natCast_mul]; omega
          clear hstep HR2 hm
          go_wp2
          go_roundw
          case rel => exact ⟨j + 1, (cc + (p * q + r)) / 4294967296, by omega, by go_num, by congr 1, by have := mul_bd hp hq; generalize p * q = pq at *; omega, HS.out⟩
          case measure => simp [intOf]; omega
        · have hj' : j = len y := by omega
          subst hj'
          obtain ⟨r, hr, hcell, hfz, hstep⟩ := HR2.out.cell (t := k + len y) (by omega)
          clear hstep
          go_wp2
          go_roundw
          case rel => exact ⟨k + 1, by omega, by go_num, HR2.out.next (Nat.le_refl _) (by omega) hcc GP.out (Nat.le_refl _) 0⟩
          case measure => simp [intOf]; omega

    · have hk' : k = len x := by omega
      subst hk'
      obtain ⟨ds, hl, h32, hr, he, hbel⟩ := hR0.finish (Nat.le_refl _)
      have HE := Lib.hid he
      clear he
      go_wp2_with fail
      refine (trim_k _ _ _ ds _ hl (hr.mem hr.lt) (by omega) (by omega) h32).mono ?_
      rintro e w1 ⟨rfl, rfl⟩
      go_wp2
      go_ret
      refine ⟨_, rfl, ?_, hbel⟩
      have := hr.nat h32 (c := len x + len y) (by omega)
      have he' := HE.out
      rw [val_limbs, val_limbs] at he'
      rw [show x * y = val ds from by rw [he']]
      exact this

set_option maxHeartbeats 2000000 in
theorem product_gt (A B : Option Addr) (c d x y : Nat) (w : World) (ha : Mem w w.heap.size A (limbs x)) (hb : Mem w w.heap.size B (limbs y)) (hx : len x ≤ 1099511627776) (hy : len y ≤ 1099511627776) (hle : len y < len x) (hx0 : 0 < len x) (hy0 : 0 < len y) :
    Calls Tryd.prog 49 #[.slice A (len x) c, .slice B (len y) d] w (GivesNat (x * y) w) := by
  have ht : decide (len y < len x) = true := by simp; omega
  have ht2 : ((len x : Int) == 0) = false := by simp; omega
  have ht3 : ((len y : Int) == 0) = false := by simp; omega
  have hmk := fun W => mk32 ((len y : Int) + (len x : Int)) (by omega) (by omega) W
  have e1 : ((len y : Int) + (len x : Int)).toNat = len y + len x := by omega
  rw [e1] at hmk
  clear e1
  obtain ⟨ad, rfl, _, hca⟩ := ha.at_ (show 0 < (limbs x).length by rw [len_limbs]; omega)
  obtain ⟨bd, rfl, _, hcb⟩ := hb.at_ (show 0 < (limbs y).length by rw [len_limbs]; omega)
  clear hca hcb
  go_enter Tryd.func49, Tryd.ntmps49
  go_wp2_with fail
  go_loopw [35] (fun i wr => ∃ k : Nat, k ≤ len y ∧ i = .int .i64 k ∧ MulRel w w.heap.size (len y + len x) (len x) (limbs y) (limbs x) wr k 0 0 0) (fun i _ => len y - (intOf i).toNat)
  case atStart => exact ⟨0, by omega, rfl, MulRel.start 0⟩
  case round =>
    obtain ⟨k, hk, rfl, hR0⟩ := hrel
    by_cases hlt : k < len y
    · obtain ⟨bd', e, _, hca⟩ := hb.at_ (show k < (limbs y).length by rw [len_limbs]; omega)
      injection e with e
      subst e
      have hp := (limbs_32 y).get (show k < (limbs y).length by rw [len_limbs]; omega)
      have gp := getD_of_lt (show k < (limbs y).length by rw [len_limbs]; omega)
      generalize (limbs y)[k]'(by rw [len_limbs]; omega) = p at *
      have GP := Lib.hid gp
      clear gp
      obtain ⟨ds, hl, h32, hr, he, hz, hbel⟩ := hR0
      have hca' := (hbel.cell (p := bd.add k) (by rw [block_of_add']; omega)).trans hca
      have HR : Hid (MulRel w w.heap.size (len y + len x) (len x) (limbs y) (limbs x) wr k 0 p 0) := MulRel.row ⟨ds, hl, h32, hr, he, hz, hbel⟩
      clear hl h32 hr he hz hbel hca
      have b1 : (0 : Int) ≤ (k : Int) := by omega
      have b2 : (k : Int) < (len y : Int) := by omega
      go_wp2_with fail
      go_quiet (fail)
      have HR1 := Lib.hid (HR.out.drewN nq)
      clear HR
      generalize wr.drewN nq = wo at *
      go_wp2_with fail
      go_loopw [9, 53] (fun cr i wr2 => ∃ j cc : Nat, j ≤ len x ∧ i = .int .i64 j ∧ cr = .int .u64 cc ∧ cc < 4294967296 ∧ MulRel w w.heap.size (len y + len x) (len x) (limbs y) (limbs x) wr2 k j p cc) (fun _ i _ => len x - (intOf i).toNat)
      case atStart => exact ⟨0, 0, by omega, rfl, rfl, by omega, HR1.out⟩
      case round =>
        obtain ⟨j, cc, hj, rfl, rfl, hcc, hrel⟩ := hrel
        have HR2 := Lib.hid hrel
        clear hrel HR1
        by_cases hlj : j < len x
        · obtain ⟨ad', e, _, hcb⟩ := ha.at_ (show j < (limbs x).length by rw [len_limbs]; omega)
          injection e with e
          subst e
          have hq := (limbs_32 x).get (show j < (limbs x).length by rw [len_limbs]; omega)
          have gq := getD_of_lt (show j < (limbs x).length by rw [len_limbs]; omega)
          generalize (limbs x)[j]'(by rw [len_limbs]; omega) = q at *
          have GQ := Lib.hid gq
          clear gq
          obtain ⟨ds, hl, h32, hr, he, hz, hbel⟩ := HR2.out
          have hcb' := (hbel.cell (p := ad.add j) (by rw [block_of_add']; omega)).trans hcb
          clear hl h32 hr he hz hbel hcb
          obtain ⟨r, hr, hcell, hfz, hstep⟩ := HR2.out.cell (t := k + j) (by omega)
          have HS := Lib.hid (hstep hlj q _ GQ.out rfl (Nat.le_refl _) rfl _ rfl)
          have hm := mul_bd hp hq
          have hm0 : (0 : Int) ≤ (p : Int) * (q : Int) := by rw [← Int.natCast_mul]; omega
          have hm1 : (p : Int) * (q : Int) ≤ 18446744065119617025 := by rw [← Int.natCast_mul]; omega
          clear hstep HR2 hm
          go_wp2
          go_roundw
          case rel => exact ⟨j + 1, (cc + (p * q + r)) / 4294967296, by omega, by go_num, by congr 1, by have := mul_bd hp hq; generalize p * q = pq at *; omega, HS.out⟩
          case measure => simp [intOf]; omega
        · have hj' : j = len x := by omega
          subst hj'
          obtain ⟨r, hr, hcell, hfz, hstep⟩ := HR2.out.cell (t := k + len x) (by omega)
          clear hstep
          go_wp2
          go_roundw
          case rel => exact ⟨k + 1, by omega, by go_num, HR2.out.next (Nat.le_refl _) (by omega) hcc GP.out (Nat.le_refl _) 0⟩
          case measure => simp [intOf]; omega

    · have hk' : k = len y := by omega
      subst hk'
      obtain ⟨ds, hl, h32, hr, he, hbel⟩ := hR0.finish (Nat.le_refl _)
      have HE := Lib.hid he
      clear he
      go_wp2_with fail
      refine (trim_k _ _ _ ds _ hl (hr.mem hr.lt) (by omega) (by omega) h32).mono ?_
      rintro e w1 ⟨rfl, rfl⟩
      go_wp2
      go_ret
      refine ⟨_, rfl, ?_, hbel⟩
      have := hr.nat h32 (c := len y + len x) (by omega)
      have he' := HE.out
      rw [val_limbs, val_limbs] at he'
      rw [show x * y = val ds from by rw [he']; exact Nat.mul_comm _ _]
      exact this

set_option maxHeartbeats 400000 in
theorem product_any (va vb : Value) (x y : Nat) (w : World) (ha : NatAt w va x) (hb : NatAt w vb y) (hx : len x ≤ 1099511627776) (hy : len y ≤ 1099511627776) :
    Calls Tryd.prog 49 #[va, vb] w (GivesNat (x * y) w) := by
  obtain ⟨A, c, rfl, hc, hma⟩ := ha
  obtain ⟨B, d, rfl, hd, hmb⟩ := hb
  rcases Nat.eq_zero_or_pos (len x) with h0 | h0
  · have hx0 : x = 0 := len_eq_zero.1 h0
    subst hx0
    rw [Nat.zero_mul]
    rw [len_zero] at *
    go_enter Tryd.func49, Tryd.ntmps49
    go_wp2
    go_ret
    exact ⟨_, rfl, NatAt.zero _ _ _, Below.refl _ _⟩
  · rcases Nat.eq_zero_or_pos (len y) with h1 | h1
    · have hy0 : y = 0 := len_eq_zero.1 h1
      subst hy0
      have ht2 : ((len x : Int) == 0) = false := by simp; omega
      rw [Nat.mul_zero]
      rw [len_zero] at *
      go_enter Tryd.func49, Tryd.ntmps49
      go_wp2
      go_ret
      exact ⟨_, rfl, NatAt.zero _ _ _, Below.refl _ _⟩
    · rcases Nat.lt_or_ge (len y) (len x) with hlt | hge
      · exact product_gt A B c d x y w hma hmb hx hy hlt h0 h1
      · exact product_le A B c d x y w hma hmb hx hy hge h0 h1

end Go.Proofs.YtjajmonhcnmidaaDoor
