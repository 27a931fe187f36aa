/- The walk of shiftLeft. -/
import Derived.Test.YtjajmonhcnmidaaDoorGk
namespace Go.Proofs.YtjajmonhcnmidaaDoor
open Go.RowKit

theorem pow32 {h : Nat} (hh : h < 32) : 2 ^ h ≤ 2147483648 := Nat.le_trans (Nat.pow_le_pow_right (by decide) (show h ≤ 31 by omega)) (by decide)
theorem mul_pow_bd {p h : Nat} (hp : p < 4294967296) (hh : h < 32) : p * 2 ^ h ≤ 9223372034707292160 := by
  have := Nat.mul_le_mul (show p ≤ 4294967295 by omega) (pow32 hh)
  omega
theorem or_shl (c p h : Nat) (hc : c < 2 ^ h) (hp : p < 4294967296) (hh : h < 32) : bits .or .u64 (c : Int) (IntKind.u64.wrap ((p : Int) * 2 ^ h)) = ((c + p * 2 ^ h : Nat) : Int) := by
  have hb := mul_pow_bd hp hh
  have h2 := pow32 hh
  have e : (p : Int) * 2 ^ h = ((p * 2 ^ h : Nat) : Int) := by rw [Int.natCast_mul, Int.natCast_pow]; rfl
  rw [e, wrap_u64_nat _ (by omega), u64_or_nat _ _ (by omega) (by omega)]
  congr 1
  have := Nat.shiftLeft_add_eq_or_of_lt hc p
  rw [Nat.shiftLeft_eq] at this
  rw [Nat.or_comm, ← this, Nat.add_comm]
set_option maxHeartbeats 1600000 in
theorem shiftLeft_any (A : Option Addr) (n c h : Nat) (ms : List Nat) (w : World) (hn : ms.length = n) (hm : Mem w w.heap.size A ms) (h32 : L32 ms) (hl : n ≤ 1099511627776) (h0 : 0 < n) (hh : h < 32) :
    Calls Tryd.prog 80 #[.slice A n c, .int .i64 h] w fun e w' => ∃ (g : Nat) (ds : List Nat), e = .returned (.slice (some ⟨g, 0, none⟩) (n + 1) (n + 1)) ∧ ds.length = n + 1 ∧ L32 ds ∧ Row w' g ds ∧ val ds = val ms * 2 ^ h ∧ Below w.heap.size w w' ∧ w.heap.size ≤ g := by
  have hmk := fun W => mk32 ((n : Int) + 1) (by omega) (by omega) W
  have e1 : ((n : Int) + 1).toNat = n + 1 := by omega
  rw [e1] at hmk
  clear e1
  have HN := Lib.hid hn
  have H32 := Lib.hid h32
  obtain ⟨ad, rfl, _, hca⟩ := hm.at_ (show 0 < ms.length by omega)
  clear hca hn h32
  go_enter Tryd.func80, Tryd.ntmps80
  go_wp2_with fail
  go_loopw [6, 15] (fun cr i wr => ∃ k c : Nat, k ≤ n ∧ i = .int .i64 k ∧ cr = .int .u64 c ∧ c < 2 ^ h ∧ ShlRel w w.heap.size n (2 ^ h) ms wr k c) (fun _ i _ => n - (intOf i).toNat)
  case atStart => exact ⟨0, 0, by omega, rfl, rfl, Nat.pow_pos (by decide), ShlRel.start _ _ _ _⟩
  case round =>
    obtain ⟨k, c, hk, rfl, rfl, hc, hrel⟩ := hrel
    have HR := Lib.hid hrel
    have HC := Lib.hid hc
    clear hrel hc
    by_cases hlt : k < n
    · obtain ⟨ad', e, hb0, hca⟩ := hm.at_ (show k < ms.length by have := HN.out; omega)
      injection e with e
      subst e
      have hp := H32.out.get (show k < ms.length by have := HN.out; omega)
      have gp := getD_of_lt (show k < ms.length by have := HN.out; omega)
      generalize ms[k]'(by have := HN.out; omega) = p at *
      have GP := Lib.hid gp
      clear gp
      obtain ⟨ds, hl', h32', hr, he, hbel⟩ := HR.out
      have hca' := (hbel.cell (p := ad.add k) (by rw [block_of_add']; omega)).trans hca
      obtain ⟨ox, ho, hf⟩ := HR.out.cell (show k < n + 1 by omega)
      clear hl' h32' hr he hbel hca
      have hor := or_shl c p h HC.out hp hh
      have hb := mul_pow_bd hp hh
      have h2 := pow32 hh
      have hc2 := HC.out
      obtain ⟨s, hs⟩ : ∃ s, c + p * 2 ^ h = s := ⟨_, rfl⟩
      rw [hs] at hor
      have hs64 : s < 18446744073709551616 := by omega
      have hsd : s / 4294967296 < 2 ^ h := by
        rw [Nat.div_lt_iff_lt_mul (by decide)]
        have := Nat.mul_le_mul_right (2 ^ h) (show p + 1 ≤ 4294967296 by omega)
        rw [Nat.add_mul] at this
        omega
      have HS := Lib.hid hs
      have HSD := Lib.hid hsd
      clear hb h2 hc2 hs hsd
      go_wp2
      go_roundw
      case rel => exact ⟨k + 1, s / 4294967296, by omega, by go_num, by go_num, HSD.out, HR.out.step (by omega) (Nat.le_refl _) GP.out HS.out.symm _ rfl⟩
      case measure => simp [intOf]; omega
    · have hk' : k = n := by omega
      subst hk'
      have h2 := pow32 hh
      have hc2 := HC.out
      have hc32 : c < 4294967296 := by omega
      obtain ⟨ox, ho, hf⟩ := HR.out.cell (show k < k + 1 by omega)
      clear h2 hc2
      go_wp2
      go_ret
      obtain ⟨ds, d1, d2, d3, d4, d5⟩ := HR.out.finish (Nat.le_refl _) hc32 HN.out (c : Int) rfl
      refine ⟨w.heap.size, ds, rfl, d1, d2, ?_, d4, ?_, Nat.le_refl _⟩
      · first | exact d3 | (rw [show ((c : Int) % 4294967296) = (c : Int) from by omega]; exact d3)
      · first | exact d5 | (rw [show ((c : Int) % 4294967296) = (c : Int) from by omega]; exact d5)
end Go.Proofs.YtjajmonhcnmidaaDoor
namespace Go.Proofs.YtjajmonhcnmidaaDoor
open Go.RowKit

theorem and_mask (s : Nat) (hs : s < 18446744073709551616) : bits .and .u64 (s : Int) 4294967295 = ((s % 4294967296 : Nat) : Int) := by
  have e1 : (BitVec.ofInt 64 (s : Int)).toNat = s := by rw [BitVec.ofInt_natCast, BitVec.toNat_ofNat]; exact Nat.mod_eq_of_lt (by omega)
  have e2 : (BitVec.ofInt 64 (4294967295 : Int)).toNat = 4294967295 := by decide
  show IntKind.u64.wrap ((BitVec.ofInt 64 (s : Int) &&& BitVec.ofInt 64 (4294967295 : Int)).toNat : Int) = _
  rw [BitVec.toNat_and, e1, e2, show 4294967295 = 2 ^ 32 - 1 from rfl, Nat.and_two_pow_sub_one_eq_mod, IntKind.wrap_u64]
  omega
theorem sub_word (p lo b : Nat) (hp : p < 4294967296) (hlo : lo < 4294967296) (hb : b ≤ 1) : ∃ v b' : Nat, v < 4294967296 ∧ b' ≤ 1 ∧ v + lo + b = p + 4294967296 * b' ∧ IntKind.u64.wrap (IntKind.u64.wrap ((p : Int) - (lo : Int)) - (b : Int)) / 9223372036854775808 = (b' : Int) ∧ IntKind.u64.wrap (IntKind.u64.wrap ((p : Int) - (lo : Int)) - (b : Int)) % 4294967296 = (v : Int) := by
  rw [IntKind.wrap_u64, IntKind.wrap_u64]
  by_cases h : p < lo + b
  · exact ⟨p + 4294967296 - lo - b, 1, by omega, by omega, by omega, by omega, by omega⟩
  · exact ⟨p - lo - b, 0, by omega, by omega, by omega, by omega, by omega⟩
set_option maxHeartbeats 1600000 in
theorem subm_any (g i n cap d q : Nat) (rs X : List Nat) (B : Option Addr) (w : World) (hX : X.length = n) (hn0 : 0 < n) (hr : Row w g rs) (h32 : L32 rs) (hi : i + n < rs.length) (hB : MemN w g B X) (hX32 : L32 X) (hq : q < 4294967296) (hl : rs.length ≤ 1099511627776) :
    Calls Tryd.prog 82 #[.slice (some ⟨g, i, none⟩) (n + 1) cap, .slice B n d, .int .u32 q] w fun e w' => ∃ (ds : List Nat) (neg : Bool), e = .returned (.bool neg) ∧ ds.length = rs.length ∧ L32 ds ∧ Row w' g ds ∧ ds.take i = rs.take i ∧ ds.drop (i + (n + 1)) = rs.drop (i + (n + 1)) ∧
      val ((ds.drop i).take (n + 1)) + q * val X = val ((rs.drop i).take (n + 1)) + 4294967296 ^ (n + 1) * (if neg then 1 else 0) ∧ w.grownBy w' (some g) := by
  have HX := Lib.hid hX
  have HI := Lib.hid hi
  have H32 := Lib.hid h32
  have HX32 := Lib.hid hX32
  have HB := Lib.hid hB
  have hST := Lib.hid (SubmRel.start (q := q) (X := X) (i := i) hr h32)
  obtain ⟨bd, rfl, _, hcb⟩ := hB.at_ (show 0 < X.length by omega)
  clear hcb hX hi h32 hX32 hB
  go_enter Tryd.func82, Tryd.ntmps82
  go_wp2_with fail
  go_loopw [7, 8, 15] (fun cr br j wr => ∃ k c b : Nat, k ≤ n ∧ j = .int .i64 k ∧ cr = .int .u64 c ∧ br = .int .u64 b ∧ c < 4294967296 ∧ b ≤ 1 ∧ SubmRel w g i rs X q wr k c b) (fun _ _ j _ => n - (intOf j).toNat)
  case atStart => exact ⟨0, 0, 0, by omega, rfl, rfl, rfl, by omega, by omega, hST.out⟩
  case round =>
    obtain ⟨k, c, b, hk, rfl, rfl, rfl, hc, hb1, hrel⟩ := hrel
    have HR := Lib.hid hrel
    clear hrel hST
    by_cases hlt : k < n
    · obtain ⟨ds, d1, d2, d3, d4, d5, d6, d7⟩ := HR.out
      obtain ⟨bd', e, _, hcb⟩ := (HB.out.only d7).at_ (show k < X.length by have := HX.out; omega)
      injection e with e
      subst e
      clear d1 d2 d3 d4 d5 d6 d7
      have hx := HX32.out.get (show k < X.length by have := HX.out; omega)
      have gx := getD_of_lt (show k < X.length by have := HX.out; omega)
      generalize X[k]'(by have := HX.out; omega) = x at *
      have GX := Lib.hid gx
      clear gx
      obtain ⟨hcp, hfz⟩ := HR.out.cell (Nat.le_refl k) (show i + k < rs.length by have := HI.out; omega)
      have hp := H32.out.at_ (i + k)
      obtain ⟨p, gp⟩ : ∃ p, rs.getD (i + k) 0 = p := ⟨_, rfl⟩
      rw [gp] at hp hcp
      have GP := Lib.hid gp
      clear gp
      have hm := mul_bd hq hx
      have hm0 : (0 : Int) ≤ (q : Int) * (x : Int) := by rw [← Int.natCast_mul]; omega
      have hm1 : (q : Int) * (x : Int) ≤ 18446744065119617025 := by rw [← Int.natCast_mul]; omega
      obtain ⟨s, hs⟩ : ∃ s, c + q * x = s := ⟨_, rfl⟩
      have hsI : (c : Int) + (q : Int) * (x : Int) = (s : Int) := by rw [← hs, ← Int.natCast_mul]; omega
      have hs64 : s < 18446744073709551616 := by omega
      have hand := and_mask s hs64
      obtain ⟨v, b', hv, hb', hvb, hT1, hT2⟩ := sub_word p (s % 4294967296) b hp (by omega) hb1
      have HS := Lib.hid hs
      have HVB := Lib.hid hvb
      have hkn : n ≤ 1099511627775 := by have := HI.out; omega
      clear hm hs hvb
      generalize hlo : s % 4294967296 = lo at *
      have HLO := Lib.hid hlo
      clear hlo
      go_wp2
      go_roundw
      case rel => exact ⟨k + 1, s / 4294967296, b', by omega, by go_num, by go_num, rfl, by omega, hb', HR.out.step (by have := HI.out; omega) GP.out GX.out hv (by rw [HS.out, ← HLO.out]; omega) HVB.out _ rfl⟩
      case measure => simp [intOf]; omega
    · have hk' : k = n := by omega
      subst hk'
      obtain ⟨hcp, hfz⟩ := HR.out.cell (Nat.le_refl k) (show i + k < rs.length by have := HI.out; omega)
      have hp := H32.out.at_ (i + k)
      obtain ⟨p, gp⟩ : ∃ p, rs.getD (i + k) 0 = p := ⟨_, rfl⟩
      rw [gp] at hp hcp
      have GP := Lib.hid gp
      clear gp
      obtain ⟨v, b', hv, hb', hvb, hT1, hT2⟩ := sub_word p c b hp hc hb1
      have HVB := Lib.hid hvb
      clear hvb
      have hkn : k ≤ 1099511627775 := by have := HI.out; omega
      rcases (show b' = 0 ∨ b' = 1 by omega) with rfl | rfl
      · go_wp2
        go_ret
        have e := HX.out
        subst e
        obtain ⟨ds, d1, d2, d3, d4, d5, d6, d7⟩ := HR.out.finish (neg := false) HI.out GP.out hv (by simpa using HVB.out) (v : Int) rfl
        exact ⟨ds, false, rfl, d1, d2, d3, d4, d5, d6, d7⟩
      · go_wp2
        go_ret
        have e := HX.out
        subst e
        obtain ⟨ds, d1, d2, d3, d4, d5, d6, d7⟩ := HR.out.finish (neg := true) HI.out GP.out hv (by simpa using HVB.out) (v : Int) rfl
        exact ⟨ds, true, rfl, d1, d2, d3, d4, d5, d6, d7⟩

set_option maxHeartbeats 1600000 in
theorem addb_any (g i n cap d : Nat) (rs X : List Nat) (B : Option Addr) (w : World) (hX : X.length = n) (hn0 : 0 < n) (hr : Row w g rs) (h32 : L32 rs) (hi : i + n < rs.length) (hB : MemN w g B X) (hX32 : L32 X) (hl : rs.length ≤ 1099511627776) :
    Calls Tryd.prog 83 #[.slice (some ⟨g, i, none⟩) (n + 1) cap, .slice B n d] w fun e w' => ∃ (ds : List Nat) (f : Nat), (∃ v, e = .returned v) ∧ ds.length = rs.length ∧ L32 ds ∧ Row w' g ds ∧ ds.take i = rs.take i ∧ ds.drop (i + (n + 1)) = rs.drop (i + (n + 1)) ∧
      val ((ds.drop i).take (n + 1)) + 4294967296 ^ (n + 1) * f = val ((rs.drop i).take (n + 1)) + val X ∧ w.grownBy w' (some g) := by
  have HX := Lib.hid hX
  have HI := Lib.hid hi
  have H32 := Lib.hid h32
  have HX32 := Lib.hid hX32
  have HB := Lib.hid hB
  have hST := Lib.hid (AddbRel.start (X := X) (i := i) hr h32)
  obtain ⟨bd, rfl, _, hcb⟩ := hB.at_ (show 0 < X.length by omega)
  have hkn : n ≤ 1099511627775 := by omega
  clear hcb hX hi h32 hX32 hB
  go_enter Tryd.func83, Tryd.ntmps83
  go_wp2_with fail
  go_loopw [4, 9] (fun cr j wr => ∃ k c : Nat, k ≤ n ∧ j = .int .i64 k ∧ cr = .int .u64 c ∧ c ≤ 1 ∧ AddbRel w g i rs X wr k c) (fun _ j _ => n - (intOf j).toNat)
  case atStart => exact ⟨0, 0, by omega, rfl, rfl, by omega, hST.out⟩
  case round =>
    obtain ⟨k, c, hk, rfl, rfl, hc1, hrel⟩ := hrel
    have HR := Lib.hid hrel
    clear hrel hST
    by_cases hlt : k < n
    · obtain ⟨ds, d1, d2, d3, d4, d5, d6, d7⟩ := HR.out
      obtain ⟨bd', e, _, hcb⟩ := (HB.out.only d7).at_ (show k < X.length by have := HX.out; omega)
      injection e with e
      subst e
      clear d1 d2 d3 d4 d5 d6 d7
      have hx := HX32.out.get (show k < X.length by have := HX.out; omega)
      have gx := getD_of_lt (show k < X.length by have := HX.out; omega)
      generalize X[k]'(by have := HX.out; omega) = x at *
      have GX := Lib.hid gx
      clear gx
      obtain ⟨hcp, hfz⟩ := HR.out.cell (Nat.le_refl k) (show i + k < rs.length by have := HI.out; omega)
      have hp := H32.out.at_ (i + k)
      obtain ⟨p, gp⟩ : ∃ p, rs.getD (i + k) 0 = p := ⟨_, rfl⟩
      rw [gp] at hp hcp
      have GP := Lib.hid gp
      clear gp
      go_wp2
      go_roundw
      case rel => exact ⟨k + 1, (c + (p + x)) / 4294967296, by omega, by go_num, by go_num, by omega, HR.out.step (by have := HI.out; omega) GP.out GX.out (v := (c + (p + x)) % 4294967296) (by omega) (by omega) _ (by omega)⟩
      case measure => simp [intOf]; omega
    · have hk' : k = n := by omega
      subst hk'
      obtain ⟨hcp, hfz⟩ := HR.out.cell (Nat.le_refl k) (show i + k < rs.length by have := HI.out; omega)
      have hp := H32.out.at_ (i + k)
      obtain ⟨p, gp⟩ : ∃ p, rs.getD (i + k) 0 = p := ⟨_, rfl⟩
      rw [gp] at hp hcp
      have GP := Lib.hid gp
      clear gp
      go_wp2
      have e := HX.out
      subst e
      obtain ⟨ds, f, d1, d2, d3, d4, d5, d6, d7⟩ := HR.out.finish HI.out GP.out (v := (p + c) % 4294967296) (by omega) ⟨(p + c) / 4294967296, by omega⟩ (((p : Int) + (c : Int)) % 4294967296) (by omega)
      exact bodyPost_end (results_none rfl _ _ _) rfl ⟨ds, f, ⟨_, rfl⟩, d1, d2, d3, d4, d5, d6, d7⟩
end Go.Proofs.YtjajmonhcnmidaaDoor
