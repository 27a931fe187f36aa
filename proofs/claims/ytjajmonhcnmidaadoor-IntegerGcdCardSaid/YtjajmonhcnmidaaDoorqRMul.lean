/- Walks: the reference's product. -/
import Derived.Test.YtjajmonhcnmidaaDoorGg
import Derived.Test.YtjajmonhcnmidaaDoorGc
namespace Go.Proofs.YtjajmonhcnmidaaDoor
open Go.RowKit

theorem MulRel.skip {w wr : World} {g n m : Nat} {X Y : List Nat} {i p : Nat} (h : MulRel w g n m X Y wr i m p 0) (hp : X.getD i 0 = p) (hY : Y.length ≤ m) (p' : Nat) : MulRel w g n m X Y wr (i + 1) 0 p' 0 := by
  obtain ⟨ds, hl, h32, hr, he, hz, hb⟩ := h
  refine ⟨ds, hl, h32, hr, ?_, fun t' ht' => hz t' (by omega), hb⟩
  rw [List.take_of_length_le hY, Nat.mul_zero, Nat.add_zero] at he
  rw [Nat.mul_zero, Nat.add_zero, he, val_take_succ, hp, List.take_zero, val_nil, Nat.mul_zero, Nat.mul_zero, Nat.add_zero, Nat.add_mul, Nat.mul_assoc]
theorem MulRel.zero {w wr : World} {g n m : Nat} {X Y : List Nat} {i j p c : Nat} (h : MulRel w g n m X Y wr i j p c) {t : Nat} (ht : t < n) (hm : i + m ≤ t) : wr.cell? ⟨g, t, none⟩ = some (.int .u32 0) ∧ wr.frozen? ⟨g, t, none⟩ = false := by
  obtain ⟨ds, hl, h32, hr, he, hz, hb⟩ := h
  have := hr.cell (show t < ds.length by omega)
  have gx := getD_of_lt (show t < ds.length by omega)
  rw [hz t hm] at gx
  rw [← gx] at this
  exact ⟨this, hr.frozen t⟩
theorem MulRel.bel {w wr : World} {g n m : Nat} {X Y : List Nat} {i j p c : Nat} (h : MulRel w g n m X Y wr i j p c) : Below w.heap.size w wr := by
  obtain ⟨_, _, _, _, _, _, hb⟩ := h
  exact hb

set_option maxHeartbeats 3200000 in
theorem RMul_any (va vb : Value) (a b : Int) (w : World) (ha : IntAt w va a) (hb : IntAt w vb b) (hla : len a.natAbs ≤ 1099511627776) (hlb : len b.natAbs ≤ 1099511627776) :
    Calls Tryd.prog 24 #[va, vb] w (GivesInt (a * b) w) := by
  obtain ⟨x, hx⟩ : ∃ n, a.natAbs = n := ⟨_, rfl⟩
  obtain ⟨y, hy⟩ : ∃ n, b.natAbs = n := ⟨_, rfl⟩
  obtain ⟨s, hs⟩ : ∃ s, decide (a < 0) = s := ⟨_, rfl⟩
  obtain ⟨u, hu⟩ : ∃ s, decide (b < 0) = s := ⟨_, rfl⟩
  have sa := sgn_of a
  have sb := sgn_of b
  rw [hx, hs] at sa
  rw [hy, hu] at sb
  rw [hx] at hla
  rw [hy] at hlb
  obtain ⟨A, c, rfl, HA⟩ := ha.parts_ hx hs
  obtain ⟨B, d, rfl, HB⟩ := hb.parts_ hy hu
  have SA := Lib.hid sa
  have SB := Lib.hid sb
  clear hx hy hs hu ha hb sa sb
  have HH := Lib.hid (heap3 w (.cells #[.bool s, .slice A (len x) c] 27) (.cells #[.bool u, .slice B (len y) d] 27) (.cells #[.bool false, .slice none 0 0] 27))
  have HW := Lib.hid (below3 w (.cells #[.bool s, .slice A (len x) c] 27) (.cells #[.bool u, .slice B (len y) d] 27) (.cells #[.bool false, .slice none 0 0] 27))
  obtain ⟨ca0, ca1, _, _, _⟩ := box_in HH.out.1 (Below.refl _ _)
  obtain ⟨cb0, cb1, _, _, _⟩ := box_in HH.out.2.1 (Below.refl _ _)
  have hmk := fun W => mk32 ((len x : Int) + (len y : Int) + 1) (by omega) (by omega) W
  have e1 : ((len x : Int) + (len y : Int) + 1).toNat = len x + len y + 1 := by omega
  rw [e1] at hmk
  clear e1
  have hWs : (((w.alloc (.cells #[.bool s, .slice A (len x) c] 27)).alloc (.cells #[.bool u, .slice B (len y) d] 27)).alloc (.cells #[.bool false, .slice none 0 0] 27)).heap.size = w.heap.size + 1 + 1 + 1 := by simp
  have HWS := Lib.hid hWs
  clear hWs
  go_enter Tryd.func24, Tryd.ntmps24
  go_wp2_with fail
  generalize ((w.alloc (.cells #[.bool s, .slice A (len x) c] 27)).alloc (.cells #[.bool u, .slice B (len y) d] 27)).alloc (.cells #[.bool false, .slice none 0 0] 27) = W at *
  have MA := Lib.hid (HA.out.into HW.out).mem.2.2
  have MB := Lib.hid (HB.out.into HW.out).mem.2.2
  clear ca0 ca1 cb0 cb1 hmk
  go_loopw [6] (fun i wr => ∃ k : Nat, k ≤ len x ∧ i = .int .i64 k ∧ MulRel W (w.heap.size + 1 + 1 + 1) (len x + len y + 1) (len y) (limbs x) (limbs y) wr k 0 0 0) (fun i _ => len x - (intOf i).toNat)
  case atStart => exact ⟨0, by omega, rfl, by rw [← HWS.out]; exact MulRel.start 0⟩
  case round =>
    obtain ⟨k, hk, rfl, hR0⟩ := hrel
    obtain ⟨ca0, ca1, _, _, _⟩ := box_in HH.out.1 hR0.bel
    obtain ⟨cb0, cb1, _, _, _⟩ := box_in HH.out.2.1 hR0.bel
    by_cases hlt : k < len x
    · obtain ⟨ad, eA, hlt1, _, hca⟩ : ∃ ad, A = some ad ∧ ad.block < W.heap.size ∧ True ∧ W.cell? (ad.add k) = some (.int .u32 (((limbs x)[k]'(by rw [len_limbs]; exact hlt) : Nat) : Int)) := by
        obtain ⟨ad, e, h1, h2⟩ := MA.out.at_ (show k < (limbs x).length by rw [len_limbs]; omega)
        exact ⟨ad, e, h1, trivial, h2⟩
      subst eA
      have hp := (limbs_32 x).get (show k < (limbs x).length by rw [len_limbs]; omega)
      have gp := getD_of_lt (show k < (limbs x).length by rw [len_limbs]; omega)
      generalize (limbs x)[k]'(by rw [len_limbs]; omega) = p at *
      have GP := Lib.hid gp
      clear gp
      have HR := Lib.hid (MulRel.row (p' := p) hR0)
      have HCA := Lib.hid hca
      clear hR0 hca
      go_wp2_with fail
      go_loopw [7, 8] (fun cr i wr2 => ∃ j cc : Nat, i = .int .i64 j ∧ cr = .int .u64 cc ∧ cc < 4294967296 ∧ ((j ≤ len y ∧ MulRel W (w.heap.size + 1 + 1 + 1) (len x + len y + 1) (len y) (limbs x) (limbs y) wr2 k j p cc) ∨ (j = len y + 1 ∧ cc = 0 ∧ MulRel W (w.heap.size + 1 + 1 + 1) (len x + len y + 1) (len y) (limbs x) (limbs y) wr2 (k + 1) 0 0 0))) (fun _ i _ => len y + 1 - (intOf i).toNat)
      case atStart => exact ⟨0, 0, rfl, rfl, by omega, .inl ⟨by omega, HR.out⟩⟩
      case round =>
        clear ca0 ca1 cb0 cb1
        obtain ⟨j, cc, rfl, rfl, hcc, hrel⟩ := hrel
        rcases hrel with ⟨hj, hrel⟩ | ⟨rfl, rfl, hrel⟩
        · have HR2 := Lib.hid hrel
          obtain ⟨ca0, ca1, _, _, _⟩ := box_in HH.out.1 hrel.bel
          obtain ⟨cb0, cb1, _, _, _⟩ := box_in HH.out.2.1 hrel.bel
          have hca := (hrel.bel.cell (p := ad.add k) (by rw [block_of_add']; exact hlt1)).trans HCA.out
          clear hrel HR
          by_cases hlj : j < len y
          · obtain ⟨bd, eB, hlt2, hcb0⟩ := MB.out.raw.at_ (show j < (limbs y).length by rw [len_limbs]; omega)
            subst eB
            have hq := (limbs_32 y).get (show j < (limbs y).length by rw [len_limbs]; omega)
            have gq := getD_of_lt (show j < (limbs y).length by rw [len_limbs]; omega)
            have hcb := (HR2.out.bel.cell (p := bd.add j) (by rw [block_of_add']; exact hlt2)).trans hcb0
            generalize (limbs y)[j]'(by rw [len_limbs]; omega) = q at *
            have GQ := Lib.hid gq
            clear gq hcb0
            obtain ⟨r, hr, hcell, hfz, hstep⟩ := HR2.out.cell (t := k + j) (by omega)
            clear hstep
            have hm := mul_bd hp hq
            have hm0 : (0 : Int) ≤ (p : Int) * (q : Int) := by rw [← Int.natCast_mul]; omega
            have hm1 : (p : Int) * (q : Int) ≤ 18446744065119617025 := by rw [← Int.natCast_mul]; omega
            clear hm
            have b1 : (0 : Int) ≤ (k : Int) := by omega
            have b2 : (k : Int) < (len x : Int) := by omega
            have b3 : (0 : Int) ≤ (j : Int) := by omega
            have b4 : (j : Int) < (len y : Int) := by omega
            go_wp2_with fail
            go_quiet (fail)
            have HR3 := Lib.hid (HR2.out.drewN nq)
            have hcd : (wr.drewN nq).cell? ⟨w.heap.size + 1 + 1 + 1, k + j, none⟩ = some (.int .u32 (r : Int)) := hcell
            have HCD := Lib.hid hcd
            clear HR2 hcell hfz ca0 ca1 cb0 cb1 hca hcb hcd
            generalize wr.drewN nq = wo at *
            obtain ⟨ca0, ca1, _, _, _⟩ := box_in HH.out.1 HR3.out.bel
            obtain ⟨cb0, cb1, _, _, _⟩ := box_in HH.out.2.1 HR3.out.bel
            obtain ⟨r', hr', hcell, hfz, hstep⟩ := HR3.out.cell (t := k + j) (by omega)
            obtain rfl : r' = r := by
              have := hcell.symm.trans HCD.out
              simp at this
              omega
            obtain ⟨S, hS⟩ : ∃ S, S = cc + (p * q + r') := ⟨_, rfl⟩
            have hSI : (cc : Int) + (r' : Int) + (p : Int) * (q : Int) = (S : Int) := by rw [hS, ← Int.natCast_mul]; omega
            have hS2 : S < 18446744073709551616 := by
              have := mul_bd hp hq
              rw [hS]
              generalize p * q = pq at *
              omega
            have HSI := Lib.hid hSI
            have HSN := Lib.hid hS
            have HS2 := Lib.hid hS2
            have HST := Lib.hid (hstep hlj q (S / 4294967296) GQ.out rfl (by rw [HWS.out]; exact Nat.le_refl _) (by rw [hS]) ((S : Int) % 4294967296) (by rw [← hSI]; congr 1; omega))
            clear hstep hSI hS hS2
            go_wp2_with fail
            go_roundw
            case rel => exact ⟨j + 1, S / 4294967296, by go_num, by rw [HSI.out]; rfl, by have := HS2.out; omega, .inl ⟨by omega, by rw [HSI.out]; exact HST.out⟩⟩
            case measure => (simp [intOf]; try omega)
          · have hj' : j = len y := by omega
            subst hj'
            obtain ⟨hcell, hfz⟩ := HR2.out.zero (t := k + len y) (by omega) (Nat.le_refl _)
            by_cases hc0 : cc = 0
            · subst hc0
              have HN := Lib.hid (HR2.out.skip GP.out (Nat.le_refl _) 0)
              clear HR2
              go_wp2_with fail
              go_roundw
              case rel => exact ⟨k + 1, by omega, by go_num, HN.out⟩
              case measure => (simp [intOf]; try omega)
            · have hpos : decide (0 < cc) = true := by simp; omega
              have HN := Lib.hid (HR2.out.next (by rw [HWS.out]; exact Nat.le_refl _) (by omega) hcc GP.out (Nat.le_refl _) 0)
              clear HR2
              go_wp2_with fail
              go_roundw
              case rel => exact ⟨len y + 1, 0, by go_num, by go_num, by omega, .inr ⟨rfl, rfl, by first | exact HN.out | (rw [show ((cc : Int) % 4294967296) = (cc : Int) from by omega]; exact HN.out)⟩⟩
              case measure => (simp [intOf]; try omega)
        · obtain ⟨ca0, ca1, _, _, _⟩ := box_in HH.out.1 hrel.bel
          obtain ⟨cb0, cb1, _, _, _⟩ := box_in HH.out.2.1 hrel.bel
          have HN := Lib.hid hrel
          clear hrel HR
          go_wp2_with fail
          go_roundw
          case rel => exact ⟨k + 1, by omega, by go_num, HN.out⟩
          case measure => (simp [intOf]; try omega)
    · have hk' : k = len x := by omega
      subst hk'
      obtain ⟨ds, hl, h32, hrow, he, hbel⟩ := hR0.finish (Nat.le_refl _)
      have HE := Lib.hid he
      have HBL := Lib.hid hbel
      have HL := Lib.hid hl
      have H32 := Lib.hid h32
      have HROW := Lib.hid hrow
      clear he hbel hl h32 hrow hR0
      go_wp2_with fail
      refine (Made_any _ _ _ ds (s != u) _ HL.out (HROW.out.mem HROW.out.lt).raw (by omega) (Nat.le_refl _) H32.out).mono ?_
      rintro e w2 ⟨v2, rfl, hv2, hb2⟩
      obtain ⟨b2, A2, k2, c2, rfl, H2⟩ := hv2.open_
      have HB2 := Lib.hid (step_below HBL.out hb2)
      obtain ⟨dc0, dc1, df0, df1, ds'⟩ := box_in HH.out.2.2 HB2.out
      have hz : sgn (s != u) (val ds) = a * b := by
        rw [HE.out, val_limbs, val_limbs, ← SA.out, ← SB.out]
        cases s <;> cases u <;> simp [sgn, Int.mul_neg, Int.neg_mul, Int.natCast_mul]
      have HEE := box_end (x' := .bool b2) (y' := .slice A2 k2 c2) HH.out.2.2 HB2.out H2.out HW.out (by omega)
      rw [hz] at HEE
      have HE2 := Lib.hid HEE
      clear hb2 hv2 HEE hz
      go_wp2
      refine bodyPost_ret (v := .agg #[.bool b2, .slice A2 k2 c2]) (by simp [results, Tryd.results24, go_sem, dc0, dc1]) rfl ⟨_, rfl, HE2.out.1, HE2.out.2⟩
end Go.Proofs.YtjajmonhcnmidaaDoor
