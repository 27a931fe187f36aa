/- Walks of the smallest functions on limbs. -/
import Derived.Test.YtjajmonhcnmidaaDoorGa
import Derived.Deep.QuietTactic
import Derived.BigQuiet
import Derived.Outline
namespace Go.Proofs.YtjajmonhcnmidaaDoor
open Go.RowKit

theorem order_any (b : Bool) (w : World) : Calls Tryd.prog 66 #[.bool b] w fun e w' => e = .returned (.int .i64 (if b then -1 else 1)) ∧ w = w' := by
  cases b
  all_goals
    go_enter Tryd.func66, Tryd.ntmps66
    go_wp2
    go_ret
    exact ⟨rfl, rfl⟩

set_option maxHeartbeats 400000 in
theorem limb_any (A : Option Addr) (c : Nat) (ms : List Nat) (i : Nat) (w : World) (hm : Mem w w.heap.size A ms) (_hl : ms.length ≤ 4398046511104) (_hi : i ≤ 4398046511104) :
    Calls Tryd.prog 65 #[.slice A ms.length c, .int .i64 i] w fun e w' => e = .returned (.int .u32 ((ms.getD i 0 : Nat) : Int)) ∧ w = w' := by
  by_cases hlt : i < ms.length
  · obtain ⟨ad, rfl, _, hc⟩ := hm.at_ hlt
    have hg : ms.getD i 0 = ms[i] := by simp [List.getD, List.getElem?_eq_getElem hlt]
    have HG := Lib.hid hg
    clear hg
    go_enter Tryd.func65, Tryd.ntmps65
    go_wp2
    go_ret
    rw [HG.out]
    exact ⟨rfl, rfl⟩
  · have hg : ms.getD i 0 = 0 := by simp [List.getD, List.getElem?_eq_none (by omega : ms.length ≤ i)]
    have HG := Lib.hid hg
    clear hg
    go_enter Tryd.func65, Tryd.ntmps65
    go_wp2
    go_ret
    rw [HG.out]
    exact ⟨rfl, rfl⟩
theorem limb_is (A : Option Addr) (n c : Nat) (ms : List Nat) (i : Int) (x : Nat) (w : World) (hn : ms.length = n) (hm : Mem w w.heap.size A ms) (hl : n ≤ 4398046511104) (h0 : 0 ≤ i) (hi : i ≤ 4398046511104) (hx : ms.getD i.toNat 0 = x) :
    Calls Tryd.prog 65 #[.slice A n c, .int .i64 i] w fun e w' => e = .returned (.int .u32 (x : Int)) ∧ w = w' := by
  subst hn hx
  obtain ⟨k, rfl⟩ := Int.eq_ofNat_of_zero_le h0
  exact limb_any A c ms k w hm hl (by omega)
end Go.Proofs.YtjajmonhcnmidaaDoor
namespace Go.Proofs.YtjajmonhcnmidaaDoor
open Go.RowKit

theorem len_val_eq {ms : List Nat} (h : L32 ms) {k : Nat} (_hk : k ≤ ms.length) (h0 : ∀ i, k ≤ i → ms.getD i 0 = 0) (h1 : k = 0 ∨ ms.getD (k - 1) 0 ≠ 0) : len (val ms) = k := by
  obtain ⟨e1, e2, e3⟩ := limbs_val h
  rcases Nat.lt_trichotomy (len (val ms)) k with h2 | h2 | h2
  · rcases h1 with h1 | h1
    · omega
    · exact absurd (e3 (k - 1) (by omega)) h1
  · exact h2
  · have hp : 0 < val ms := by
      rcases Nat.eq_zero_or_pos (val ms) with h | h
      · rw [h, len_zero] at h2; omega
      · exact h
    have := limbs_last hp
    rw [e1] at this
    rw [List.getD, List.getElem?_take, if_pos (by omega)] at this
    exact absurd (h0 (len (val ms) - 1) (by omega)) this

set_option maxHeartbeats 400000 in
theorem trim_any (A : Option Addr) (c : Nat) (ms : List Nat) (w : World) (hm : Mem w w.heap.size A ms) (hl : ms.length ≤ 4398046511104) (hc : ms.length ≤ c) (h32 : L32 ms) :
    Calls Tryd.prog 62 #[.slice A ms.length c] w fun e w' => e = .returned (.slice A (len (val ms)) c) ∧ w = w' := by
  go_enter Tryd.func62, Tryd.ntmps62
  go_wp2
  go_step3
  go_wp2
  go_step3
  go_wp2
  go_loop [3] (fun n => ∃ k : Nat, k ≤ ms.length ∧ n = .int .i64 k ∧ ∀ i, k ≤ i → ms.getD i 0 = 0) (fun n => (intOf n).toNat)
  case atStart => exact ⟨ms.length, Nat.le_refl _, rfl, fun i hi => by simp [List.getD, List.getElem?_eq_none hi]⟩
  case round =>
    obtain ⟨k, hk, rfl, h0⟩ := hrel
    by_cases hk0 : 0 < k
    · obtain ⟨ad, rfl, _, hcell⟩ := hm.at_ (show k - 1 < ms.length by omega)
      have hcast : ((k - 1 : Nat) : Int) = (k : Int) - 1 := by omega
      have H0 := Lib.hid h0
      have HC := Lib.hid hcast
      clear h0 hcast
      have hg : ms.getD (k - 1) 0 = ms[k-1] := by simp [List.getD, List.getElem?_eq_getElem (show k - 1 < ms.length by omega)]
      have HG := Lib.hid hg
      clear hg
      by_cases hz : ms[k-1] = 0
      · go_wp2
        go_round
        case rel =>
          refine ⟨k - 1, by omega, by rw [HC.out], fun i hi => ?_⟩
          rcases Nat.lt_or_ge i k with h | h
          · have : i = k - 1 := by omega
            rw [this, HG.out, hz]
          · exact H0.out i h
        case measure => simp [intOf]; omega
      · go_wp2
        go_ret
        have hk' : len (val ms) = k := len_val_eq h32 hk H0.out (.inr (by rw [HG.out]; exact hz))
        rw [hk']
        exact ⟨rfl, rfl⟩
    · have hk' : k = 0 := by omega
      subst hk'
      have hv := len_val_eq h32 hk h0 (.inl rfl)
      have HV := Lib.hid hv
      clear hv
      go_wp2
      go_ret
      rw [HV.out]
      exact ⟨rfl, rfl⟩
end Go.Proofs.YtjajmonhcnmidaaDoor
namespace Go.Proofs.YtjajmonhcnmidaaDoor
open Go.RowKit

theorem trim_k (A : Option Addr) (n c : Nat) (ms : List Nat) (w : World) (hn : ms.length = n) (hm : Mem w w.heap.size A ms) (hl : n ≤ 4398046511104) (hc : n ≤ c) (h32 : L32 ms) :
    Calls Tryd.prog 62 #[.slice A n c] w fun e w' => e = .returned (.slice A (len (val ms)) c) ∧ w = w' := by
  subst hn; exact trim_any A c ms w hm hl hc h32
/-- trim on a slice that is already without zeros at its end -/
theorem trim_nat (A : Option Addr) (c n : Nat) (w : World) (hm : Mem w w.heap.size A (limbs n)) (hl : len n ≤ 4398046511104) (hc : len n ≤ c) :
    Calls Tryd.prog 62 #[.slice A (len n) c] w fun e w' => e = .returned (.slice A (len n) c) ∧ w = w' := by
  have := trim_k A (len n) c (limbs n) w rfl hm hl hc (limbs_32 n)
  rwa [val_limbs] at this

theorem two_mem (n : Nat) (w : World) : Mem (w.alloc (.cells #[.int .u32 ((n : Int) % 4294967296), .int .u32 ((n : Int) / 4294967296)] 38)) (w.heap.size + 1) (some ⟨w.heap.size, 0, none⟩) [n % 4294967296, n / 4294967296] := by
  have h := (Row.new w [n % 4294967296, n / 4294967296]).mem (B := w.heap.size + 1) (by omega)
  exact h

set_option maxHeartbeats 400000 in
theorem fromWord_any (n : Nat) (w : World) (hn : n < 18446744073709551616) :
    Calls Tryd.prog 53 #[.int .u64 n] w (GivesNat n w) := by
  have hm := two_mem n w
  have h32 : L32 [n % 4294967296, n / 4294967296] := L32.mk (by omega) (L32.mk (by omega) L32.nil_)
  have hv : val [n % 4294967296, n / 4294967296] = n := by simp only [val]; omega
  obtain ⟨l1, l2, _⟩ := limbs_val h32
  rw [hv] at l1 l2
  have HV := Lib.hid hv
  have HL := Lib.hid l1
  clear hv l1
  go_enter Tryd.func53, Tryd.ntmps53
  go_wp2_with fail
  refine (trim_k _ 2 2 [n % 4294967296, n / 4294967296] _ rfl (by simpa using hm) (by omega) (by omega) h32).mono ?_
  rintro e w' ⟨rfl, rfl⟩
  rw [HV.out]
  go_wp2
  go_ret
  refine ⟨_, rfl, ⟨_, _, rfl, l2, ?_⟩, (Below.refl _ _).alloc (Nat.le_refl _) _⟩
  have := hm.take (len n)
  rw [← HL.out] at this
  simpa using this

theorem val_split (ms : List Nat) (k : Nat) (hk : k ≤ ms.length) : val ms = val (ms.take k) + 4294967296 ^ k * val (ms.drop k) := by
  have := val_append (ms.take k) (ms.drop k)
  rw [List.take_append_drop, List.length_take, Nat.min_eq_left hk] at this
  exact this
theorem drop_eq_of {xs ys : List Nat} (hl : xs.length = ys.length) (k : Nat) (h : ∀ i, k ≤ i → xs.getD i 0 = ys.getD i 0) : xs.drop k = ys.drop k := by
  apply List.ext_getElem
  · simp [hl]
  · intro i h1 h2
    have := h (k + i) (by omega)
    rw [List.length_drop] at h1 h2
    simpa [List.getD, List.getElem?_eq_getElem (show k + i < xs.length by omega), List.getElem?_eq_getElem (show k + i < ys.length by omega)] using this
theorem val_lt_of {xs ys : List Nat} (ha : L32 xs) (_hb : L32 ys) (hl : xs.length = ys.length) (k : Nat) (hk : k < xs.length) (h : ∀ i, k + 1 ≤ i → xs.getD i 0 = ys.getD i 0)
    (hlt : xs.getD k 0 < ys.getD k 0) : val xs < val ys := by
  rw [val_split xs (k + 1) (by omega), val_split ys (k + 1) (by omega), drop_eq_of hl (k + 1) h, val_take_succ, val_take_succ]
  have h1 := val_lt (ha.take k)
  rw [List.length_take, Nat.min_eq_left (by omega)] at h1
  have h2 : 4294967296 ^ k * xs.getD k 0 + 4294967296 ^ k ≤ 4294967296 ^ k * ys.getD k 0 := by
    rw [← Nat.mul_succ]; exact Nat.mul_le_mul_left _ hlt
  omega
theorem order_q (b : Bool) (w : World) : Calls Tryd.prog 66 #[.bool b] w fun e w' => e = .returned (.int .i64 (if b then -1 else 1)) ∧ ∃ m, w' = w.drewN m := (order_any b w).mono fun _ _ ⟨he, hw⟩ => ⟨he, 0, hw ▸ rfl⟩
theorem getD_of_lt {ms : List Nat} {k : Nat} (h : k < ms.length) : ms.getD k 0 = ms[k] := by simp [List.getD, List.getElem?_eq_getElem h]

def cmpN (x y : Nat) : Int := if x < y then -1 else if x = y then 0 else 1
theorem cmpN_lt {x y : Nat} (h : x < y) : cmpN x y = -1 := by simp [cmpN, h]
theorem cmpN_eq {x y : Nat} (h : x = y) : cmpN x y = 0 := by simp [cmpN, h]
theorem cmpN_gt {x y : Nat} (h : y < x) : cmpN x y = 1 := by unfold cmpN; rw [if_neg (by omega), if_neg (by omega)]

set_option maxHeartbeats 800000 in
theorem compare_any (A B : Option Addr) (c d x y : Nat) (w : World) (ha : Mem w w.heap.size A (limbs x)) (hb : Mem w w.heap.size B (limbs y)) (hx : len x ≤ 1099511627776) (_hy : len y ≤ 1099511627776) :
    Calls Tryd.prog 47 #[.slice A (len x) c, .slice B (len y) d] w fun e w' => e = .returned (.int .i64 (cmpN x y)) ∧ ∃ k, w.drewN k = w' := by
  by_cases hl : len x = len y
  · go_enter Tryd.func47, Tryd.ntmps47
    have hne : ((len x : Int) != (len y : Int)) = false := by simp [hl]
    have HL := Lib.hid hl
    clear hl
    go_wp2_with fail
    go_loopw [5] (fun i wr => ∃ k : Nat, k ≤ len x ∧ i = .int .i64 ((k : Int) - 1) ∧ (∀ j, k ≤ j → (limbs x).getD j 0 = (limbs y).getD j 0) ∧ ∃ n, w.drewN n = wr) (fun i _ => (intOf i + 1).toNat)
    case atStart => exact ⟨len x, Nat.le_refl _, rfl, fun j hj => by simp [List.getD, List.getElem?_eq_none (show (limbs x).length ≤ j from hj), List.getElem?_eq_none (show (limbs y).length ≤ j from by rw [len_limbs, ← HL.out]; exact hj)], 0, rfl⟩
    case round =>
      obtain ⟨k, hk, rfl, heq, n, rfl⟩ := hrel
      by_cases hk0 : 0 < k
      · obtain ⟨ad, rfl, _, hca⟩ := ha.at_ (show k - 1 < (limbs x).length by rw [len_limbs]; omega)
        obtain ⟨bd, rfl, _, hcb⟩ := hb.at_ (show k - 1 < (limbs y).length by rw [len_limbs, ← HL.out]; omega)
        have h1 : (0 : Int) ≤ (k : Int) - 1 := by omega
        have h2 : (k : Int) - 1 < (len x : Int) := by omega
        have h3 : (k : Int) - 1 < (len y : Int) := by rw [← HL.out]; omega
        have hcast : (k : Int) - 1 - 1 = ((k - 1 : Nat) : Int) - 1 := by omega
        have HC := Lib.hid hcast
        have HEQ := Lib.hid heq
        have hgx := getD_of_lt (show k - 1 < (limbs x).length by rw [len_limbs]; omega)
        have hgy := getD_of_lt (show k - 1 < (limbs y).length by rw [len_limbs, ← HL.out]; omega)
        generalize (limbs x)[k - 1]'(by rw [len_limbs]; omega) = p at *
        generalize (limbs y)[k - 1]'(by rw [len_limbs, ← HL.out]; omega) = q at *
        have HX := Lib.hid hgx
        have HY := Lib.hid hgy
        clear hcast heq hgx hgy
        rcases Nat.lt_trichotomy p q with hpq | hpq | hpq
        · have ht : ((p : Int) != (q : Int)) = true := by simp; omega
          have ht2 : decide (p < q) = true := by simp; omega
          go_wp2_with fail
          go_quiet (fail)
          generalize hw1 : (w.drewN n).drewN nq = w1
          have hca1 : w1.cell? (ad.add (k - 1)) = some (Value.int IntKind.u32 (p : Int)) := by rw [← hw1]; exact hca
          have hcb1 : w1.cell? (bd.add (k - 1)) = some (Value.int IntKind.u32 (q : Int)) := by rw [← hw1]; exact hcb
          have HW := Lib.hid hw1
          clear hw1 hca hcb
          go_wp2_with fail
          go_quiet ((go_at_call 66; exact Calls.quiet_of (order_q _ _)))
          go_wp2
          go_ret
          have hv := val_lt_of (limbs_32 x) (limbs_32 y) HL.out (k - 1) (by rw [len_limbs]; omega) (fun i hi => HEQ.out i (by omega)) (by rw [HX.out, HY.out]; exact hpq)
          rw [val_limbs, val_limbs] at hv
          rw [cmpN_lt hv, ← HW.out]
          simp [World.drewN_drewN]
        · subst hpq
          have ht : ((p : Int) != (p : Int)) = false := by simp
          go_wp2_with fail
          go_quiet (fail)
          go_wp2
          go_roundw
          case rel =>
            refine ⟨k - 1, by omega, by rw [HC.out], fun j hj => ?_, n + nq, rfl⟩
            rcases Nat.lt_or_ge j k with h | h
            · have : j = k - 1 := by omega
              rw [this, HX.out, HY.out]
            · exact HEQ.out j h
          case measure => simp [intOf]; omega
        · have ht : ((p : Int) != (q : Int)) = true := by simp; omega
          have ht2 : decide (p < q) = false := by simp; omega
          go_wp2_with fail
          go_quiet (fail)
          generalize hw1 : (w.drewN n).drewN nq = w1
          have hca1 : w1.cell? (ad.add (k - 1)) = some (Value.int IntKind.u32 (p : Int)) := by rw [← hw1]; exact hca
          have hcb1 : w1.cell? (bd.add (k - 1)) = some (Value.int IntKind.u32 (q : Int)) := by rw [← hw1]; exact hcb
          have HW := Lib.hid hw1
          clear hw1 hca hcb
          go_wp2_with fail
          go_quiet ((go_at_call 66; exact Calls.quiet_of (order_q _ _)))
          go_wp2
          go_ret
          have hv := val_lt_of (limbs_32 y) (limbs_32 x) HL.out.symm (k - 1) (by rw [len_limbs, ← HL.out]; omega) (fun i hi => (HEQ.out i (by omega)).symm) (by rw [HX.out, HY.out]; exact hpq)
          rw [val_limbs, val_limbs] at hv
          rw [cmpN_gt hv, ← HW.out]
          simp [World.drewN_drewN]
      · have hk' : k = 0 := by omega
        subst hk'
        have HEQ := Lib.hid heq
        clear heq
        go_wp2
        go_ret
        have e : limbs x = limbs y := by
          have := drop_eq_of (show (limbs x).length = (limbs y).length from HL.out) 0 HEQ.out
          simpa using this
        rw [cmpN_eq (limbs_inj e)]
        exact ⟨rfl, n, rfl⟩
  · rcases Nat.lt_or_gt_of_ne hl with h | h
    · have hne : ((len x : Int) != (len y : Int)) = true := by simp; omega
      have hlt : decide (len x < len y) = true := by simp; omega
      have hv := cmpN_lt (len_lt_lt h)
      have HV := Lib.hid hv
      clear hv hl
      go_enter Tryd.func47, Tryd.ntmps47
      go_wp2_with (go_at_call 66; refine (order_any _ _).mono ?_; rintro e w' ⟨rfl, rfl⟩)
      go_ret
      rw [HV.out]
      exact ⟨rfl, 0, rfl⟩
    · have hne : ((len x : Int) != (len y : Int)) = true := by simp; omega
      have hlt : decide (len x < len y) = false := by simp; omega
      have hv := cmpN_gt (len_lt_lt h)
      have HV := Lib.hid hv
      clear hv hl
      go_enter Tryd.func47, Tryd.ntmps47
      go_wp2_with (go_at_call 66; refine (order_any _ _).mono ?_; rintro e w' ⟨rfl, rfl⟩)
      go_ret
      rw [HV.out]
      exact ⟨rfl, 0, rfl⟩
end Go.Proofs.YtjajmonhcnmidaaDoor
