/- Walks: the reference's Made. -/
import Derived.Test.YtjajmonhcnmidaaDoorMatchCB01
import Derived.Deep.RegionHeld3
import Derived.Deep.DeepFit
import Derived.WalkSpells
import Derived.Lib.MakeNoZero
import Derived.Lib.BufferWrite
import Derived.Laws.CopyOwn
import Derived.Test.YtjajmonhcnmidaaDoorShelf
namespace Go.Proofs.YtjajmonhcnmidaaDoor
open Go.RowKit

theorem val_zeros (ms : List Nat) (h : ∀ i, ms.getD i 0 = 0) : val ms = 0 := by
  induction ms with
  | nil => rfl
  | cons x r ih =>
    have h0 : x = 0 := by simpa using h 0
    have h1 := ih (fun i => by simpa using h (i + 1))
    simp only [val, h0, h1]
theorem zeros_of_val (ms : List Nat) (h : val ms = 0) (i : Nat) : ms.getD i 0 = 0 := by
  induction ms generalizing i with
  | nil => simp
  | cons x r ih =>
    simp only [val] at h
    match i with
    | 0 => simp; omega
    | i + 1 => simpa using ih (by omega) i
theorem val_take_zeros (ms : List Nat) (k : Nat) (h : ∀ i, k ≤ i → ms.getD i 0 = 0) : val (ms.take k) = val ms := by
  rcases Nat.lt_or_ge k ms.length with hk | hk
  · have := val_split ms k (by omega)
    have hd : val (ms.drop k) = 0 := val_zeros _ (fun i => by
      rw [List.getD_eq_getElem?_getD, List.getElem?_drop, ← List.getD_eq_getElem?_getD]; exact h (k + i) (by omega))
    rw [hd] at this
    omega
  · rw [List.take_of_length_le hk]
theorem IntAt.mk_sgn {w : World} {s : Value} {n : Nat} {b : Bool} (h : NatAt w s n) (h0 : n = 0 → b = false) : IntAt w (.agg #[.bool b, s]) (sgn b n) := IntAt.mk h h0

set_option maxHeartbeats 1000000 in
theorem Made_false (A : Option Addr) (n c : Nat) (ms : List Nat) (w : World) (hn : ms.length = n) (hm : RawMem w w.heap.size A ms) (hl : n ≤ 4398046511104) (hc : n ≤ c) (h32 : L32 ms) :
    Calls Tryd.prog 32 #[.slice A n c, .bool false] w (GivesInt (sgn false (val ms)) w) := by
  have HN := Lib.hid hn
  clear hn
  go_enter Tryd.func32, Tryd.ntmps32
  go_wp2_with fail
  go_loop [5] (fun n' => ∃ k : Nat, k ≤ n ∧ n' = .int .i64 k ∧ ∀ i, k ≤ i → ms.getD i 0 = 0) (fun n' => (intOf n').toNat)
  case atStart => exact ⟨n, Nat.le_refl _, rfl, fun i hi => by simp [List.getD, List.getElem?_eq_none (show ms.length ≤ i from by rw [HN.out]; exact hi)]⟩
  case round =>
    obtain ⟨k, hk, rfl, h0⟩ := hrel
    have H0 := Lib.hid h0
    clear h0
    rcases Nat.eq_zero_or_pos k with hk0 | hk0
    · subst hk0
      have hval0 := val_zeros ms (fun i => H0.out i (Nat.zero_le _))
      have HV := Lib.hid hval0
      clear hval0
      · have hown0 := Owns.empty (w.alloc (.cells #[.bool false, .slice none 0 0] 27)) (base := w.heap.size + 1) (by simp)
        have hr0 := ((hm.below (below2 w (.cells #[.bool false, .slice none 0 0] 27) (.cells #[] 38))).take 0)
        rw [size_alloc'] at hown0
        have HO := Lib.hid hown0
        have HR := Lib.hid hr0
        have hlen : (ms.take 0).length = 0 := by rw [List.length_take, HN.out]; omega
        have HL := Lib.hid hlen
        clear hown0 hr0 hlen
        go_wp2_with (at_builtin; refine wpList_append_limbs rfl (.tmp 25) (.tmp 28) rfl (w.heap.size + 1) (.slice (some ⟨w.heap.size + 1, 0, none⟩) 0 0) [] rfl HO.out w.heap.size A 0 c (ms.take 0) rfl HR.out HL.out (by simp only [List.length_nil]; omega) (by simp) ?_; rintro v' w1 hown hgrow hat; obtain ⟨A', L, c', rfl, HLL, hc', _, hm'⟩ := hown.shapeL; have hbb := (below_alloc (w.alloc (.cells #[.bool false, .slice none 0 0] 27)) (.cells #[] 38)).grown hgrow (by simp) (by intro g hg; simp [Value.ownBlock] at hg; subst hg; simp); have HB := Lib.hid hbb; obtain ⟨hc0, hc1, hf0, hf1, hs⟩ := box2 HB.out; clear hbb hgrow hat)
        have hnat := hown.nat ((h32.take 0)) (by
          left; simp)
        rw [List.nil_append, val_take_zeros ms 0 H0.out] at hnat
        have hint : IntAt w1 (.agg #[.bool false, .slice A' L c']) (sgn false (val ms)) := by
          exact IntAt.mk_sgn hnat (fun _ => rfl)
        have HE := Lib.hid (box2_end (x' := .bool false) (y' := .slice A' L c') HB.out hint)
        go_wp2
        refine bodyPost_ret (v := .agg #[.bool false, .slice A' L c']) (by simp [results, Tryd.results32, go_sem, hs, hc0, hc1]) rfl ⟨_, rfl, HE.out.1, HE.out.2⟩
    · have hp : decide (0 < k) = true := by simpa using hk0
      have hlk : k - 1 < ms.length := by rw [HN.out]; omega
      obtain ⟨ad, rfl, hlt, hcell0⟩ := hm.at_ hlk
      have hcell := (Below.cell (below_alloc w (.cells #[.bool false, .slice none 0 0] 27)) (p := ad.add (k - 1)) (by rw [block_of_add']; exact hlt)).trans hcell0
      clear hcell0
      have hg := getD_of_lt hlk
      generalize ms[k - 1]'hlk = p at *
      have HG := Lib.hid hg
      clear hg
      have hcast : (k : Int) - 1 = ((k - 1 : Nat) : Int) := by omega
      have HC := Lib.hid hcast
      clear hcast
      by_cases hp0 : p = 0
      · subst hp0
        go_wp2_with fail
        go_round
        case rel =>
          refine ⟨k - 1, by omega, by rw [HC.out], fun i hi => ?_⟩
          rcases Nat.lt_or_ge i k with h | h
          · have : i = k - 1 := by omega
            rw [this, HG.out]
          · exact H0.out i h
        case measure => simp [intOf]; omega
      · have ht : ((p : Int) == 0) = false := by simp; omega
        have hne : val ms ≠ 0 := fun h => hp0 (by rw [← HG.out]; exact zeros_of_val ms h _)
        have hown0 := Owns.empty (w.alloc (.cells #[.bool false, .slice none 0 0] 27)) (base := w.heap.size + 1) (by simp)
        have hr0 := ((hm.below (below2 w (.cells #[.bool false, .slice none 0 0] 27) (.cells #[] 38))).take k)
        rw [size_alloc'] at hown0
        have HO := Lib.hid hown0
        have HR := Lib.hid hr0
        have hlen : (ms.take k).length = k := by rw [List.length_take, HN.out]; omega
        have HL := Lib.hid hlen
        clear hown0 hr0 hlen
        go_wp2_with (at_builtin; refine wpList_append_limbs rfl (.tmp 25) (.tmp 28) rfl (w.heap.size + 1) (.slice (some ⟨w.heap.size + 1, 0, none⟩) 0 0) [] rfl HO.out w.heap.size (some ad) k c (ms.take k) rfl HR.out HL.out (by simp only [List.length_nil]; omega) (by simp) ?_; rintro v' w1 hown hgrow hat; obtain ⟨A', L, c', rfl, HLL, hc', _, hm'⟩ := hown.shapeL; have hbb := (below_alloc (w.alloc (.cells #[.bool false, .slice none 0 0] 27)) (.cells #[] 38)).grown hgrow (by simp) (by intro g hg; simp [Value.ownBlock] at hg; subst hg; simp); have HB := Lib.hid hbb; obtain ⟨hc0, hc1, hf0, hf1, hs⟩ := box2 HB.out; clear hbb hgrow hat)
        have hnat := hown.nat ((h32.take k)) (by
          right; rw [List.nil_append, List.length_take, HN.out, Nat.min_eq_left hk, List.getD_eq_getElem?_getD, List.getElem?_take, if_pos (by omega), ← List.getD_eq_getElem?_getD, HG.out]; exact hp0)
        rw [List.nil_append, val_take_zeros ms k H0.out] at hnat
        have hint : IntAt w1 (.agg #[.bool false, .slice A' L c']) (sgn false (val ms)) := by
          exact IntAt.mk_sgn hnat (fun _ => rfl)
        have HE := Lib.hid (box2_end (x' := .bool false) (y' := .slice A' L c') HB.out hint)
        go_wp2
        refine bodyPost_ret (v := .agg #[.bool false, .slice A' L c']) (by simp [results, Tryd.results32, go_sem, hs, hc0, hc1]) rfl ⟨_, rfl, HE.out.1, HE.out.2⟩

set_option maxHeartbeats 1000000 in
theorem Made_true (A : Option Addr) (n c : Nat) (ms : List Nat) (w : World) (hn : ms.length = n) (hm : RawMem w w.heap.size A ms) (hl : n ≤ 4398046511104) (hc : n ≤ c) (h32 : L32 ms) :
    Calls Tryd.prog 32 #[.slice A n c, .bool true] w (GivesInt (sgn true (val ms)) w) := by
  have HN := Lib.hid hn
  clear hn
  go_enter Tryd.func32, Tryd.ntmps32
  go_wp2_with fail
  go_loop [5] (fun n' => ∃ k : Nat, k ≤ n ∧ n' = .int .i64 k ∧ ∀ i, k ≤ i → ms.getD i 0 = 0) (fun n' => (intOf n').toNat)
  case atStart => exact ⟨n, Nat.le_refl _, rfl, fun i hi => by simp [List.getD, List.getElem?_eq_none (show ms.length ≤ i from by rw [HN.out]; exact hi)]⟩
  case round =>
    obtain ⟨k, hk, rfl, h0⟩ := hrel
    have H0 := Lib.hid h0
    clear h0
    rcases Nat.eq_zero_or_pos k with hk0 | hk0
    · subst hk0
      have hval0 := val_zeros ms (fun i => H0.out i (Nat.zero_le _))
      have HV := Lib.hid hval0
      clear hval0
      · have hown0 := Owns.empty (w.alloc (.cells #[.bool false, .slice none 0 0] 27)) (base := w.heap.size + 1) (by simp)
        have hr0 := ((hm.below (below2 w (.cells #[.bool false, .slice none 0 0] 27) (.cells #[] 38))).take 0)
        rw [size_alloc'] at hown0
        have HO := Lib.hid hown0
        have HR := Lib.hid hr0
        have hlen : (ms.take 0).length = 0 := by rw [List.length_take, HN.out]; omega
        have HL := Lib.hid hlen
        clear hown0 hr0 hlen
        go_wp2_with (at_builtin; refine wpList_append_limbs rfl (.tmp 25) (.tmp 28) rfl (w.heap.size + 1) (.slice (some ⟨w.heap.size + 1, 0, none⟩) 0 0) [] rfl HO.out w.heap.size A 0 c (ms.take 0) rfl HR.out HL.out (by simp only [List.length_nil]; omega) (by simp) ?_; rintro v' w1 hown hgrow hat; obtain ⟨A', L, c', rfl, HLL, hc', _, hm'⟩ := hown.shapeL; have hbb := (below_alloc (w.alloc (.cells #[.bool false, .slice none 0 0] 27)) (.cells #[] 38)).grown hgrow (by simp) (by intro g hg; simp [Value.ownBlock] at hg; subst hg; simp); have HB := Lib.hid hbb; obtain ⟨hc0, hc1, hf0, hf1, hs⟩ := box2 HB.out; clear hbb hgrow hat)
        have hnat := hown.nat ((h32.take 0)) (by
          left; simp)
        rw [List.nil_append, val_take_zeros ms 0 H0.out] at hnat
        have hint : IntAt w1 (.agg #[.bool false, .slice A' L c']) (sgn true (val ms)) := by
          rw [HV.out, sgn_zero]; rw [HV.out] at hnat; exact IntAt.mk_sgn (b := false) hnat (fun _ => rfl)
        have HE := Lib.hid (box2_end (x' := .bool false) (y' := .slice A' L c') HB.out hint)
        go_wp2
        refine bodyPost_ret (v := .agg #[.bool false, .slice A' L c']) (by simp [results, Tryd.results32, go_sem, hs, hc0, hc1]) rfl ⟨_, rfl, HE.out.1, HE.out.2⟩
    · have hp : decide (0 < k) = true := by simpa using hk0
      have hlk : k - 1 < ms.length := by rw [HN.out]; omega
      obtain ⟨ad, rfl, hlt, hcell0⟩ := hm.at_ hlk
      have hcell := (Below.cell (below_alloc w (.cells #[.bool false, .slice none 0 0] 27)) (p := ad.add (k - 1)) (by rw [block_of_add']; exact hlt)).trans hcell0
      clear hcell0
      have hg := getD_of_lt hlk
      generalize ms[k - 1]'hlk = p at *
      have HG := Lib.hid hg
      clear hg
      have hcast : (k : Int) - 1 = ((k - 1 : Nat) : Int) := by omega
      have HC := Lib.hid hcast
      clear hcast
      by_cases hp0 : p = 0
      · subst hp0
        go_wp2_with fail
        go_round
        case rel =>
          refine ⟨k - 1, by omega, by rw [HC.out], fun i hi => ?_⟩
          rcases Nat.lt_or_ge i k with h | h
          · have : i = k - 1 := by omega
            rw [this, HG.out]
          · exact H0.out i h
        case measure => simp [intOf]; omega
      · have ht : ((p : Int) == 0) = false := by simp; omega
        have hne : val ms ≠ 0 := fun h => hp0 (by rw [← HG.out]; exact zeros_of_val ms h _)
        have hown0 := Owns.empty (w.alloc (.cells #[.bool false, .slice none 0 0] 27)) (base := w.heap.size + 1) (by simp)
        have hr0 := ((hm.below (below2 w (.cells #[.bool false, .slice none 0 0] 27) (.cells #[] 38))).take k)
        rw [size_alloc'] at hown0
        have HO := Lib.hid hown0
        have HR := Lib.hid hr0
        have hlen : (ms.take k).length = k := by rw [List.length_take, HN.out]; omega
        have HL := Lib.hid hlen
        clear hown0 hr0 hlen
        go_wp2_with (at_builtin; refine wpList_append_limbs rfl (.tmp 25) (.tmp 28) rfl (w.heap.size + 1) (.slice (some ⟨w.heap.size + 1, 0, none⟩) 0 0) [] rfl HO.out w.heap.size (some ad) k c (ms.take k) rfl HR.out HL.out (by simp only [List.length_nil]; omega) (by simp) ?_; rintro v' w1 hown hgrow hat; obtain ⟨A', L, c', rfl, HLL, hc', _, hm'⟩ := hown.shapeL; have hbb := (below_alloc (w.alloc (.cells #[.bool false, .slice none 0 0] 27)) (.cells #[] 38)).grown hgrow (by simp) (by intro g hg; simp [Value.ownBlock] at hg; subst hg; simp); have HB := Lib.hid hbb; obtain ⟨hc0, hc1, hf0, hf1, hs⟩ := box2 HB.out; clear hbb hgrow hat)
        have hnat := hown.nat ((h32.take k)) (by
          right; rw [List.nil_append, List.length_take, HN.out, Nat.min_eq_left hk, List.getD_eq_getElem?_getD, List.getElem?_take, if_pos (by omega), ← List.getD_eq_getElem?_getD, HG.out]; exact hp0)
        rw [List.nil_append, val_take_zeros ms k H0.out] at hnat
        have hint : IntAt w1 (.agg #[.bool true, .slice A' L c']) (sgn true (val ms)) := by
          exact IntAt.mk_sgn hnat (fun h => absurd h (hne))
        have HE := Lib.hid (box2_end (x' := .bool true) (y' := .slice A' L c') HB.out hint)
        go_wp2
        refine bodyPost_ret (v := .agg #[.bool true, .slice A' L c']) (by simp [results, Tryd.results32, go_sem, hs, hc0, hc1]) rfl ⟨_, rfl, HE.out.1, HE.out.2⟩

theorem Made_any (A : Option Addr) (n c : Nat) (ms : List Nat) (neg : Bool) (w : World) (hn : ms.length = n) (hm : RawMem w w.heap.size A ms) (hl : n ≤ 4398046511104) (hc : n ≤ c) (h32 : L32 ms) :
    Calls Tryd.prog 32 #[.slice A n c, .bool neg] w (GivesInt (sgn neg (val ms)) w) := by
  cases neg
  · exact Made_false A n c ms w hn hm hl hc h32
  · exact Made_true A n c ms w hn hm hl hc h32
end Go.Proofs.YtjajmonhcnmidaaDoor
/- Walks: the reference's less, Same, Of, Neg, Sign, Valid; Valid and Small. -/
namespace Go.Proofs.YtjajmonhcnmidaaDoor
open Go.RowKit

set_option maxHeartbeats 800000 in
theorem less_any (A B : Option Addr) (c d x y : Nat) (w : World) (ha : Mem w w.heap.size A (limbs x)) (hb : Mem w w.heap.size B (limbs y)) (hx : len x ≤ 1099511627776) (hy : len y ≤ 1099511627776) :
    Calls Tryd.prog 50 #[.slice A (len x) c, .slice B (len y) d] w fun e w' => e = .returned (.bool (decide (x < y))) ∧ ∃ k, w.drewN k = w' := by
  by_cases hl : len x = len y
  · go_enter Tryd.func50, Tryd.ntmps50
    have hne : ((len x : Int) != (len y : Int)) = false := by simp [hl]
    have HL := Lib.hid hl
    clear hl
    go_wp2_with fail
    go_loopw [5] (fun i wr => ∃ k : Nat, k ≤ len x ∧ i = .int .i64 ((k : Int) - 1) ∧ (∀ j, k ≤ j → (limbs x).getD j 0 = (limbs y).getD j 0) ∧ ∃ n, w.drewN n = wr) (fun i _ => (intOf i + 1).toNat)
    case atStart => exact ⟨len x, Nat.le_refl _, rfl, fun j hj => by simp [List.getD, List.getElem?_eq_none (show (limbs x).length ≤ j from hj), List.getElem?_eq_none (show (limbs y).length ≤ j from by rw [len_limbs, ← HL.out]; exact hj)], 0, rfl⟩
    case round =>
      obtain ⟨k, hk, rfl, heq, n, rfl⟩ := hrel
      by_cases hk0 : 0 < k
      · obtain ⟨ad, rfl, _, hca⟩ := ha.at_ (show k - 1 < (limbs x).length by rw [len_limbs]; omega)
        obtain ⟨bd, rfl, _, hcb⟩ := hb.at_ (show k - 1 < (limbs y).length by rw [len_limbs, ← HL.out]; omega)
        have h1 : (0 : Int) ≤ (k : Int) - 1 := by omega
        have h2 : (k : Int) - 1 < (len x : Int) := by omega
        have h3 : (k : Int) - 1 < (len y : Int) := by rw [← HL.out]; omega
        have hcast : (k : Int) - 1 - 1 = ((k - 1 : Nat) : Int) - 1 := by omega
        have HC := Lib.hid hcast
        have HEQ := Lib.hid heq
        have hgx := getD_of_lt (show k - 1 < (limbs x).length by rw [len_limbs]; omega)
        have hgy := getD_of_lt (show k - 1 < (limbs y).length by rw [len_limbs, ← HL.out]; omega)
        generalize (limbs x)[k - 1]'(by rw [len_limbs]; omega) = p at *
        generalize (limbs y)[k - 1]'(by rw [len_limbs, ← HL.out]; omega) = q at *
        have HX := Lib.hid hgx
        have HY := Lib.hid hgy
        clear hcast heq hgx hgy
        rcases Nat.lt_trichotomy p q with hpq | hpq | hpq
        · have ht : ((p : Int) != (q : Int)) = true := by simp; omega
          have ht2 : decide (p < q) = true := by simp; omega
          go_wp2_with fail
          go_quiet (fail)
          generalize hw1 : (w.drewN n).drewN nq = w1
          have hca1 : w1.cell? (ad.add (k - 1)) = some (Value.int IntKind.u32 (p : Int)) := by rw [← hw1]; exact hca
          have hcb1 : w1.cell? (bd.add (k - 1)) = some (Value.int IntKind.u32 (q : Int)) := by rw [← hw1]; exact hcb
          have HW := Lib.hid hw1
          clear hw1 hca hcb
          go_wp2_with fail
          go_quiet (fail)
          go_wp2
          go_ret
          have hv := val_lt_of (limbs_32 x) (limbs_32 y) HL.out (k - 1) (by rw [len_limbs]; omega) (fun i hi => HEQ.out i (by omega)) (by rw [HX.out, HY.out]; exact hpq)
          rw [val_limbs, val_limbs] at hv
          rw [decide_eq_true hv, ← HW.out]
          exact ⟨rfl, _, by simp [World.drewN_drewN]; rfl⟩
        · subst hpq
          have ht : ((p : Int) != (p : Int)) = false := by simp
          go_wp2_with fail
          go_quiet (fail)
          go_wp2
          go_roundw
          case rel =>
            refine ⟨k - 1, by omega, by rw [HC.out], fun j hj => ?_, n + nq, rfl⟩
            rcases Nat.lt_or_ge j k with h | h
            · have : j = k - 1 := by omega
              rw [this, HX.out, HY.out]
            · exact HEQ.out j h
          case measure => simp [intOf]; omega
        · have ht : ((p : Int) != (q : Int)) = true := by simp; omega
          have ht2 : decide (p < q) = false := by simp; omega
          go_wp2_with fail
          go_quiet (fail)
          generalize hw1 : (w.drewN n).drewN nq = w1
          have hca1 : w1.cell? (ad.add (k - 1)) = some (Value.int IntKind.u32 (p : Int)) := by rw [← hw1]; exact hca
          have hcb1 : w1.cell? (bd.add (k - 1)) = some (Value.int IntKind.u32 (q : Int)) := by rw [← hw1]; exact hcb
          have HW := Lib.hid hw1
          clear hw1 hca hcb
          go_wp2_with fail
          go_quiet (fail)
          go_wp2
          go_ret
          have hv := val_lt_of (limbs_32 y) (limbs_32 x) HL.out.symm (k - 1) (by rw [len_limbs, ← HL.out]; omega) (fun i hi => (HEQ.out i (by omega)).symm) (by rw [HX.out, HY.out]; exact hpq)
          rw [val_limbs, val_limbs] at hv
          rw [decide_eq_false (Nat.not_lt_of_gt hv), ← HW.out]
          exact ⟨rfl, _, by simp [World.drewN_drewN]; rfl⟩
      · have hk' : k = 0 := by omega
        subst hk'
        have HEQ := Lib.hid heq
        clear heq
        go_wp2
        go_ret
        have e : limbs x = limbs y := by
          have := drop_eq_of (show (limbs x).length = (limbs y).length from HL.out) 0 HEQ.out
          simpa using this
        rw [decide_eq_false (by rw [limbs_inj e]; omega)]
        exact ⟨rfl, n, rfl⟩
  · rcases Nat.lt_or_gt_of_ne hl with h | h
    · have hne : ((len x : Int) != (len y : Int)) = true := by simp; omega
      have hlt : decide (len x < len y) = true := by simp; omega
      have hv := decide_eq_true (len_lt_lt h)
      have HV := Lib.hid hv
      clear hv hl
      go_enter Tryd.func50, Tryd.ntmps50
      go_wp2
      go_ret
      rw [HV.out]
      exact ⟨rfl, 0, rfl⟩
    · have hne : ((len x : Int) != (len y : Int)) = true := by simp; omega
      have hlt : decide (len x < len y) = false := by simp; omega
      have hv := decide_eq_false (Nat.not_lt_of_gt (len_lt_lt h))
      have HV := Lib.hid hv
      clear hv hl
      go_enter Tryd.func50, Tryd.ntmps50
      go_wp2
      go_ret
      rw [HV.out]
      exact ⟨rfl, 0, rfl⟩


theorem Made_nat (v : Value) (n : Nat) (neg : Bool) (w : World) (h : NatAt w v n) (hl : len n ≤ 4398046511104) :
    Calls Tryd.prog 32 #[v, .bool neg] w (GivesInt (sgn neg n) w) := by
  obtain ⟨A, c, rfl, hc, hm⟩ := h
  have := Made_any A (len n) c (limbs n) neg w rfl hm.raw hl hc (limbs_32 n)
  rwa [val_limbs] at this

theorem less_q (A B : Option Addr) (c d x y : Nat) (w : World) (ha : NatAt w (.slice A (len x) c) x) (hb : NatAt w (.slice B (len y) d) y) (hx : len x ≤ 1099511627776) (hy : len y ≤ 1099511627776) :
    Calls Tryd.prog 50 #[.slice A (len x) c, .slice B (len y) d] w fun e w' => e = .returned (.bool (decide (x < y))) ∧ Below w.heap.size w w' ∧ w'.heap = w.heap :=
  (less_any A B c d x y w ha.mem.2.2 hb.mem.2.2 hx hy).mono fun _ _ ⟨he, k, hk⟩ => ⟨he, hk ▸ below_drewN w k, hk ▸ rfl⟩

set_option maxHeartbeats 1000000 in
theorem Same_any (va vb : Value) (a b : Int) (w : World) (ha : IntAt w va a) (hb : IntAt w vb b) (hla : len a.natAbs ≤ 1099511627776) (hlb : len b.natAbs ≤ 1099511627776) :
    Calls Tryd.prog 21 #[va, vb] w fun e w' => e = .returned (.bool (decide (a = b))) ∧ Below w.heap.size w w' := by
  obtain ⟨x, hx⟩ : ∃ n, a.natAbs = n := ⟨_, rfl⟩
  obtain ⟨y, hy⟩ : ∃ n, b.natAbs = n := ⟨_, rfl⟩
  obtain ⟨p, hp⟩ : ∃ s, decide (a < 0) = s := ⟨_, rfl⟩
  obtain ⟨q, hq⟩ : ∃ s, decide (b < 0) = s := ⟨_, rfl⟩
  have sa := sgn_of a
  have sb := sgn_of b
  rw [hx, hp] at sa
  rw [hy, hq] at sb
  rw [hx] at hla
  rw [hy] at hlb
  obtain ⟨A, c, rfl, HA⟩ := ha.parts_ hx hp
  obtain ⟨B, d, rfl, HB⟩ := hb.parts_ hy hq
  have HP := Lib.hid hp
  have HQ := Lib.hid hq
  have SA := Lib.hid sa
  have SB := Lib.hid sb
  have HX := Lib.hid hx
  have HY := Lib.hid hy
  have HW := Lib.hid (below2 w (.cells #[.bool p, .slice A (len x) c] 27) (.cells #[.bool q, .slice B (len y) d] 27))
  have HH := heap2 w (.cells #[.bool p, .slice A (len x) c] 27) (.cells #[.bool q, .slice B (len y) d] 27)
  clear hx hy hp hq ha hb sa sb
  by_cases hpq : p = q
  · subst hpq
    have HE : Hid (a = b ↔ x = y) := ⟨fun h => by rw [← HX.out, ← HY.out, h], fun h => by rw [← SA.out, ← SB.out, h]⟩
    have hbeq : (p == p) = true := by simp
    go_enter Tryd.func21, Tryd.ntmps21
    go_wp2_with fail
    refine (less_q A B c d x y _ (HA.out.into HW.out) (HB.out.into HW.out) hla hlb).mono ?_
    rintro e w1 ⟨rfl, hb1, hh1⟩
    have HB1 := Lib.hid hb1
    obtain ⟨ca0, ca1, cf0, cf1, cs⟩ := box_in HH.1 hb1
    obtain ⟨da0, da1, df0, df1, ds⟩ := box_in HH.2 hb1
    clear hb1 hh1 HH
    by_cases hlt : x < y
    · have hd : decide (x < y) = true := decide_eq_true hlt
      go_wp2
      go_ret
      rw [decide_eq_false (fun h => by have := HE.out.1 h; omega)]
      exact ⟨rfl, step_below HW.out HB1.out⟩
    · have hd : decide (x < y) = false := decide_eq_false hlt
      go_wp2_with fail
      refine (less_q B A d c y x _ (HB.out.into (step_below HW.out HB1.out)) (HA.out.into (step_below HW.out HB1.out)) hlb hla).mono ?_
      rintro e w2 ⟨rfl, hb2, hh2⟩
      have HB2 := Lib.hid (step_below HB1.out hb2)
      clear hb2 hh2
      by_cases hgt : y < x
      · have hd2 : decide (y < x) = true := decide_eq_true hgt
        go_wp2
        go_ret
        rw [decide_eq_false (fun h => by have := HE.out.1 h; omega)]
        exact ⟨rfl, step_below HW.out HB2.out⟩
      · have hd2 : decide (y < x) = false := decide_eq_false hgt
        go_wp2
        go_ret
        rw [decide_eq_true (HE.out.2 (by omega))]
        exact ⟨rfl, step_below HW.out HB2.out⟩
  · have hbeq : (p == q) = false := by simpa using hpq
    have hne : a ≠ b := fun h => hpq (by rw [← HP.out, ← HQ.out, h])
    have HN := Lib.hid hne
    clear hpq hne HH
    go_enter Tryd.func21, Tryd.ntmps21
    go_wp2_with fail
    go_ret
    rw [decide_eq_false HN.out]
    exact ⟨rfl, HW.out⟩

set_option maxHeartbeats 400000 in
theorem ROf_nonneg (n : Nat) (w : World) (hn : n < 9223372036854775808) :
    Calls Tryd.prog 42 #[.int .i64 n] w (GivesInt (sgn false n) w) := by
  have h0 : decide ((n : Int) < 0) = false := by simp
  have h32 : L32 [n % 4294967296, n / 4294967296] := L32.mk (by omega) (L32.mk (by omega) L32.nil_)
  have hv : val [n % 4294967296, n / 4294967296] = n := by simp only [val]; omega
  have HV := Lib.hid hv
  clear hv
  have hm := two_mem n (w.alloc (.cells #[.bool false, .slice none 0 0] 27))
  rw [size_alloc'] at hm
  have HM := Lib.hid hm.raw
  clear hm
  go_enter Tryd.func42, Tryd.ntmps42
  go_wp2_with fail
  refine (Made_any _ 2 2 [n % 4294967296, n / 4294967296] false _ rfl (by have := HM.out; simpa using this) (by omega) (by omega) h32).mono ?_
  rintro e w2 ⟨v2, rfl, hv2, hb2⟩
  rw [HV.out] at hv2
  obtain ⟨b, A, k, c, rfl, H⟩ := hv2.open_
  have hB := step_below (below_alloc (w.alloc (.cells #[.bool false, .slice none 0 0] 27)) _) hb2
  obtain ⟨hc0, hc1, hf0, hf1, hs⟩ := box2 hB
  have HE := Lib.hid (box2_end (x' := .bool b) (y' := .slice A k c) hB H.out)
  clear hB hb2
  go_wp2
  refine bodyPost_ret (v := .agg #[.bool b, .slice A k c]) (by simp [results, Tryd.results42, go_sem, hs, hc0, hc1]) rfl ⟨_, rfl, HE.out.1, HE.out.2⟩

set_option maxHeartbeats 400000 in
theorem ROf_neg (n : Nat) (w : World) (hn : n ≤ 9223372036854775808) (h1 : 0 < n) :
    Calls Tryd.prog 42 #[.int .i64 (-(n : Int))] w (GivesInt (sgn true n) w) := by
  have h0 : decide (-(n : Int) < 0) = true := by simp; omega
  have h32 : L32 [n % 4294967296, n / 4294967296] := L32.mk (by omega) (L32.mk (by omega) L32.nil_)
  have hv : val [n % 4294967296, n / 4294967296] = n := by simp only [val]; omega
  have HV := Lib.hid hv
  clear hv
  have hm := two_mem n (w.alloc (.cells #[.bool false, .slice none 0 0] 27))
  rw [size_alloc'] at hm
  have HM := Lib.hid hm.raw
  clear hm
  have hw := wrap_neg n hn h1
  go_enter Tryd.func42, Tryd.ntmps42
  go_wp2_with fail
  refine (Made_any _ 2 2 [n % 4294967296, n / 4294967296] true _ rfl (by have := HM.out; simpa using this) (by omega) (by omega) h32).mono ?_
  rintro e w2 ⟨v2, rfl, hv2, hb2⟩
  rw [HV.out] at hv2
  obtain ⟨b, A, k, c, rfl, H⟩ := hv2.open_
  have hB := step_below (below_alloc (w.alloc (.cells #[.bool false, .slice none 0 0] 27)) _) hb2
  obtain ⟨hc0, hc1, hf0, hf1, hs⟩ := box2 hB
  have HE := Lib.hid (box2_end (x' := .bool b) (y' := .slice A k c) hB H.out)
  clear hB hb2
  go_wp2
  refine bodyPost_ret (v := .agg #[.bool b, .slice A k c]) (by simp [results, Tryd.results42, go_sem, hs, hc0, hc1]) rfl ⟨_, rfl, HE.out.1, HE.out.2⟩

theorem ROf_any (z : Int) (w : World) (h0 : -9223372036854775808 ≤ z) (h1 : z ≤ 9223372036854775807) : Calls Tryd.prog 42 #[.int .i64 z] w (GivesInt z w) := by
  rcases Int.lt_or_le z 0 with h | h
  · obtain ⟨n, rfl⟩ : ∃ n : Nat, z = -(n : Int) := ⟨z.natAbs, by omega⟩
    exact ROf_neg n w (by omega) (by omega)
  · obtain ⟨n, rfl⟩ := Int.eq_ofNat_of_zero_le h
    exact ROf_nonneg n w (by omega)
end Go.Proofs.YtjajmonhcnmidaaDoor
/- Walks: the reference's Neg, Sign, Valid; Valid; Sub. -/
namespace Go.Proofs.YtjajmonhcnmidaaDoor
open Go.RowKit

set_option maxHeartbeats 400000 in
theorem RNeg_any (v : Value) (z : Int) (w : World) (h : IntAt w v z) (hl : len z.natAbs ≤ 1099511627776) :
    Calls Tryd.prog 25 #[v] w (GivesInt (-z) w) := by
  obtain ⟨n, hn⟩ : ∃ n, z.natAbs = n := ⟨_, rfl⟩
  obtain ⟨b, hb⟩ : ∃ b, decide (z < 0) = b := ⟨_, rfl⟩
  obtain ⟨A, c, rfl, H⟩ := h.parts_ hn hb
  have hz : sgn (!b) n = -z := by
    subst hn hb
    by_cases h : z < 0
    · simp [sgn, h]; omega
    · simp [sgn, h]; omega
  have HZ := Lib.hid hz
  rw [hn] at hl
  clear hn hb h hz
  go_enter Tryd.func25, Tryd.ntmps25
  go_wp2_with fail
  refine (Made_nat _ n (!b) _ (H.out.into (below2 _ _ _)) (by omega)).mono ?_
  rintro e w2 ⟨v2, rfl, hv2, hb2⟩
  rw [HZ.out] at hv2
  obtain ⟨b', A', k', c', rfl, H'⟩ := hv2.open_
  have hg := (heap2 w (.cells #[.bool b, .slice A (len n) c] 27) (.cells #[.bool false, .slice none 0 0] 27)).2
  obtain ⟨hc0, hc1, hf0, hf1, hs⟩ := box_in hg hb2
  have HE := Lib.hid (box_end (x' := .bool b') (y' := .slice A' k' c') hg hb2 H'.out (below2 _ _ _) (by omega))
  clear hg hb2
  go_wp2
  refine bodyPost_ret (v := .agg #[.bool b', .slice A' k' c']) (by simp [results, Tryd.results25, go_sem, hs, hc0, hc1]) rfl ⟨_, rfl, HE.out.1, HE.out.2⟩

set_option maxHeartbeats 400000 in
theorem RSign_any (v : Value) (z : Int) (w : World) (h : IntAt w v z) (hl : len z.natAbs ≤ 1099511627776) :
    Calls Tryd.prog 29 #[v] w fun e w' => e = .returned (.int .i64 z.sign) ∧ Below w.heap.size w w' := by
  obtain ⟨n, hn⟩ : ∃ n, z.natAbs = n := ⟨_, rfl⟩
  obtain ⟨b, hb⟩ : ∃ b, decide (z < 0) = b := ⟨_, rfl⟩
  obtain ⟨A, c, rfl, H⟩ := h.parts_ hn hb
  rw [hn] at hl
  rcases Nat.eq_zero_or_pos n with h0 | h0
  · have hz : z.sign = 0 := by have : z = 0 := by omega
                               rw [this]; rfl
    have HZ := Lib.hid hz
    subst h0
    clear hz hn hb h H
    rw [len_zero] at *
    go_enter Tryd.func29, Tryd.ntmps29
    go_wp2
    go_ret
    rw [HZ.out]
    exact ⟨rfl, below_alloc _ _⟩
  · have hne : ((len n : Int) == 0) = false := by
      have : len n ≠ 0 := fun h => by have := len_eq_zero.1 h; omega
      simp; omega
    have hz : z.sign = if b then -1 else 1 := by
      subst hb
      by_cases h : z < 0
      · simp [h, Int.sign_eq_neg_one_of_neg h]
      · simp [h]; omega
    have HZ := Lib.hid hz
    clear hz hn hb h
    cases b
    all_goals
      go_enter Tryd.func29, Tryd.ntmps29
      go_wp2
      go_ret
      rw [HZ.out]
      exact ⟨rfl, below_alloc _ _⟩

/-- Valid agrees with the definition, of limbs that came in. -/
def validB (b : Bool) (ms : List Nat) : Bool := if ms.length = 0 then !b else decide (ms.getD (ms.length - 1) 0 ≠ 0)

set_option maxHeartbeats 400000 in
theorem Valid_raw (b : Bool) (A : Option Addr) (n c : Nat) (ms : List Nat) (w : World) (hn : ms.length = n) (hm : RawMem w w.heap.size A ms) (hl : n ≤ 2305843009213693952) :
    Calls Tryd.prog 19 #[.agg #[.bool b, .slice A n c]] w fun e w' => e = .returned (.bool (validB b ms)) ∧ Below w.heap.size w w' := by
  rcases Nat.eq_zero_or_pos n with h0 | h0
  · have hv : validB b ms = !b := by simp [validB, hn, h0]
    have HV := Lib.hid hv
    subst h0
    clear hv hn
    go_enter Tryd.func19, Tryd.ntmps19
    go_wp2
    go_ret
    rw [HV.out]
    exact ⟨rfl, below_alloc _ _⟩
  · have hlk : n - 1 < ms.length := by omega
    obtain ⟨ad, rfl, hlt, hcell0⟩ := hm.at_ hlk
    have hcell := (Below.cell (below_alloc w (.cells #[.bool b, .slice (some ad) n c] 27)) (p := ad.add (n - 1)) (by rw [block_of_add']; exact hlt)).trans hcell0
    have hg := getD_of_lt hlk
    have hv : validB b ms = ((ms[n - 1]'hlk : Int) != 0) := by
      unfold validB
      rw [if_neg (by omega), hn, hg, Bool.eq_iff_iff]
      simp
    generalize ms[n - 1]'hlk = p at *
    have HV := Lib.hid hv
    have hne : ((n : Int) == 0) = false := by simp; omega
    clear hv hn hcell0 hg
    go_enter Tryd.func19, Tryd.ntmps19
    go_wp2
    go_ret
    rw [HV.out]
    exact ⟨rfl, below_alloc _ _⟩
set_option maxHeartbeats 400000 in
theorem RValid_raw (b : Bool) (A : Option Addr) (n c : Nat) (ms : List Nat) (w : World) (hn : ms.length = n) (hm : RawMem w w.heap.size A ms) (hl : n ≤ 2305843009213693952) :
    Calls Tryd.prog 20 #[.agg #[.bool b, .slice A n c]] w fun e w' => e = .returned (.bool (validB b ms)) ∧ Below w.heap.size w w' := by
  rcases Nat.eq_zero_or_pos n with h0 | h0
  · have hv : validB b ms = !b := by simp [validB, hn, h0]
    have HV := Lib.hid hv
    subst h0
    clear hv hn
    go_enter Tryd.func20, Tryd.ntmps20
    go_wp2
    go_ret
    rw [HV.out]
    exact ⟨rfl, below_alloc _ _⟩
  · have hlk : n - 1 < ms.length := by omega
    obtain ⟨ad, rfl, hlt, hcell0⟩ := hm.at_ hlk
    have hcell := (Below.cell (below_alloc w (.cells #[.bool b, .slice (some ad) n c] 27)) (p := ad.add (n - 1)) (by rw [block_of_add']; exact hlt)).trans hcell0
    have hg := getD_of_lt hlk
    have hv : validB b ms = ((ms[n - 1]'hlk : Int) != 0) := by
      unfold validB
      rw [if_neg (by omega), hn, hg, Bool.eq_iff_iff]
      simp
    generalize ms[n - 1]'hlk = p at *
    have HV := Lib.hid hv
    have hne : ((n : Int) == 0) = false := by simp; omega
    clear hv hn hcell0 hg
    go_enter Tryd.func20, Tryd.ntmps20
    go_wp2
    go_ret
    rw [HV.out]
    exact ⟨rfl, below_alloc _ _⟩

theorem validB_int {z : Int} : validB (decide (z < 0)) (limbs z.natAbs) = true := by
  unfold validB
  rw [len_limbs]
  by_cases h : len z.natAbs = 0
  · rw [if_pos h]
    have := len_eq_zero.1 h
    have : z = 0 := by omega
    subst this
    rfl
  · rw [if_neg h]
    have hp : 0 < z.natAbs := by
      rcases Nat.eq_zero_or_pos z.natAbs with h0 | h0
      · exact absurd (by rw [h0, len_zero]) h
      · exact h0
    simpa using limbs_last hp
theorem Valid_int (v : Value) (z : Int) (w : World) (h : IntAt w v z) (hl : len z.natAbs ≤ 1099511627776) :
    Calls Tryd.prog 19 #[v] w fun e w' => e = .returned (.bool true) ∧ Below w.heap.size w w' := by
  obtain ⟨s, rfl, A, c, rfl, hc, hm⟩ := h
  have := Valid_raw (decide (z < 0)) A (len z.natAbs) c (limbs z.natAbs) w rfl hm.raw (by omega)
  rwa [validB_int] at this
theorem RValid_int (v : Value) (z : Int) (w : World) (h : IntAt w v z) (hl : len z.natAbs ≤ 1099511627776) :
    Calls Tryd.prog 20 #[v] w fun e w' => e = .returned (.bool true) ∧ Below w.heap.size w w' := by
  obtain ⟨s, rfl, A, c, rfl, hc, hm⟩ := h
  have := RValid_raw (decide (z < 0)) A (len z.natAbs) c (limbs z.natAbs) w rfl hm.raw (by omega)
  rwa [validB_int] at this
end Go.Proofs.YtjajmonhcnmidaaDoor
/- Walks: Sub. -/
namespace Go.Proofs.YtjajmonhcnmidaaDoor
open Go.RowKit

set_option maxHeartbeats 1600000 in
theorem Sub_any (va vb : Value) (a b : Int) (w : World) (ha : IntAt w va a) (hb : IntAt w vb b) (hla : len a.natAbs ≤ 1099511627775) (hlb : len b.natAbs ≤ 1099511627775) :
    Calls Tryd.prog 16 #[va, vb] w (GivesInt (a - b) w) := by
  obtain ⟨x, hx⟩ : ∃ n, a.natAbs = n := ⟨_, rfl⟩
  obtain ⟨y, hy⟩ : ∃ n, b.natAbs = n := ⟨_, rfl⟩
  obtain ⟨p, hp⟩ : ∃ s, decide (a < 0) = s := ⟨_, rfl⟩
  obtain ⟨q, hq⟩ : ∃ s, decide (b < 0) = s := ⟨_, rfl⟩
  have sa := sgn_of a
  have sb := sgn_of b
  rw [hx, hp] at sa
  rw [hy, hq] at sb
  rw [hx] at hla
  rw [hy] at hlb
  obtain ⟨A, c, rfl, HA⟩ := ha.parts_ hx hp
  obtain ⟨B, d, rfl, HB⟩ := hb.parts_ hy hq
  have HIA := Lib.hid (IntAt.back HA.out hx hp)
  have HIB := Lib.hid (IntAt.back HB.out hy hq)
  have HX := Lib.hid hx
  have HY := Lib.hid hy
  have HP := Lib.hid hp
  have HQ := Lib.hid hq
  have SA := Lib.hid sa
  have SB := Lib.hid sb
  clear hx hy hp hq ha hb HA HB sa sb
  have HH := Lib.hid (heap3 w (.cells #[.bool p, .slice A (len x) c] 27) (.cells #[.bool q, .slice B (len y) d] 27) (.cells #[.bool false, .slice none 0 0] 27))
  have HW := Lib.hid (below3 w (.cells #[.bool p, .slice A (len x) c] 27) (.cells #[.bool q, .slice B (len y) d] 27) (.cells #[.bool false, .slice none 0 0] 27))
  obtain ⟨ca0, ca1, _, _, _⟩ := box_in HH.out.1 (Below.refl _ _)
  obtain ⟨cb0, cb1, _, _, _⟩ := box_in HH.out.2.1 (Below.refl _ _)
  obtain ⟨cc0, cc1, cf0, cf1, cs⟩ := box_in HH.out.2.2 (Below.refl _ _)
  go_enter Tryd.func16, Tryd.ntmps16
  go_wp2_with fail
  generalize ((w.alloc (.cells #[.bool p, .slice A (len x) c] 27)).alloc (.cells #[.bool q, .slice B (len y) d] 27)).alloc (.cells #[.bool false, .slice none 0 0] 27) = W at *
  have HELD : ∀ w' : World, Below W.heap.size W w' → w'.cell? ⟨w.heap.size, 0, none⟩ = some (.bool p) ∧ w'.cell? ⟨w.heap.size, 1, none⟩ = some (.slice A (len x) c) ∧ w'.cell? ⟨w.heap.size + 1, 0, none⟩ = some (.bool q) ∧ w'.cell? ⟨w.heap.size + 1, 1, none⟩ = some (.slice B (len y) d) := fun w' hb => by
    obtain ⟨a0, a1, _, _, _⟩ := box_in HH.out.1 hb
    obtain ⟨b0, b1, _, _, _⟩ := box_in HH.out.2.1 hb
    exact ⟨a0, a1, b0, b1⟩
  have HELD2 : ∀ w' : World, Below W.heap.size W w' → ∀ (i j : Nat) (u v : Value), ((w'.setCell ⟨w.heap.size + 1 + 1, i, none⟩ u).setCell ⟨w.heap.size + 1 + 1, j, none⟩ v).cell? ⟨w.heap.size, 0, none⟩ = some (.bool p) ∧ ((w'.setCell ⟨w.heap.size + 1 + 1, i, none⟩ u).setCell ⟨w.heap.size + 1 + 1, j, none⟩ v).cell? ⟨w.heap.size, 1, none⟩ = some (.slice A (len x) c) ∧ ((w'.setCell ⟨w.heap.size + 1 + 1, i, none⟩ u).setCell ⟨w.heap.size + 1 + 1, j, none⟩ v).cell? ⟨w.heap.size + 1, 0, none⟩ = some (.bool q) ∧ ((w'.setCell ⟨w.heap.size + 1 + 1, i, none⟩ u).setCell ⟨w.heap.size + 1 + 1, j, none⟩ v).cell? ⟨w.heap.size + 1, 1, none⟩ = some (.slice B (len y) d) := fun w' hb i j u v => by
    obtain ⟨a0, a1, b0, b1⟩ := HELD w' hb
    refine ⟨?_, ?_, ?_, ?_⟩
    all_goals
      rw [World.cell?_setCell_far _ _ _ _ (by simp; try omega), World.cell?_setCell_far _ _ _ _ (by simp; try omega)]
      assumption
  have HELD' := Lib.hid HELD
  have HELD2' := Lib.hid HELD2
  clear HELD2
  have HWW := Lib.hid (Below.refl W.heap.size W)
  clear HELD
  go_region_held3 (fun w' => w'.cell? ⟨w.heap.size, 0, none⟩ = some (.bool p) ∧ w'.cell? ⟨w.heap.size, 1, none⟩ = some (.slice A (len x) c) ∧ w'.cell? ⟨w.heap.size + 1, 0, none⟩ = some (.bool q) ∧ w'.cell? ⟨w.heap.size + 1, 1, none⟩ = some (.slice B (len y) d))
    (first | (go_keep; done) | exact HELD'.out _ HB1.out | exact HELD'.out _ HB1.out.drew | exact HELD'.out _ HB2.out | exact HELD'.out _ HB2.out.drew | exact HELD2'.out _ HB2.out _ _ _ _)
    (first
      | (go_at_call 18
         refine (Neg_any _ b _ (HIB.out.into (by first | exact HW.out | exact HW.out.drew | exact HW.out.drew.drew)) (by rw [HY.out]; omega)).mono ?_
         rintro e w1 ⟨v1, rfl, hv1, hb1⟩
         obtain ⟨b1, A1, k1, c1, rfl, H1⟩ := hv1.open_
         have HB1 : Hid (Below W.heap.size W w1) := step_below (by first | exact HWW.out | exact HWW.out.drew | exact HWW.out.drew.drew) hb1
         clear hb1 hv1)
      | (go_at_call 15
         refine (Add_any _ _ a (-b) _ (HIA.out.into (step_below HW.out HB1.out)) H1.out (by rw [HX.out]; omega) (by rw [Int.natAbs_neg, HY.out]; omega)).mono ?_
         rintro e w2 ⟨v2, rfl, hv2, hb2⟩
         obtain ⟨b2, A2, k2, c2, rfl, H2⟩ := hv2.open_
         have HB2 : Hid (Below W.heap.size W w2) := step_below HB1.out hb2
         obtain ⟨dc0, dc1, df0, df1, ds⟩ := box_in HH.out.2.2 HB2.out
         have HE := Lib.hid (box_end (x' := .bool b2) (y' := .slice A2 k2 c2) HH.out.2.2 HB2.out H2.out HW.out (by omega))
         clear hb2 hv2))
  go_wp2
  refine bodyPost_ret (v := .agg #[.bool b2, .slice A2 k2 c2]) (by simp [results, Tryd.results16, go_sem, ds, dc0, dc1]) rfl ⟨_, rfl, HE.out.1, HE.out.2⟩
end Go.Proofs.YtjajmonhcnmidaaDoor
/- Walks: divide on numbers of at most two limbs; DivMod, wherever divide is right. -/
namespace Go.Proofs.YtjajmonhcnmidaaDoor
open Go.RowKit

def GivesDiv (q r : Nat) (w : World) (e : Ending) (w' : World) : Prop := ∃ vq vr, e = .returned (.tuple #[vq, vr]) ∧ NatAt w' vq q ∧ NatAt w' vr r ∧ Below w.heap.size w w'

set_option maxHeartbeats 1000000 in
theorem divide_lt (va vb : Value) (x y : Nat) (w : World) (ha : NatAt w va x) (hb : NatAt w vb y) (hla : len x ≤ 1099511627776) (hlb : len y ≤ 1099511627776) (hlt : x < y) :
    Calls Tryd.prog 54 #[va, vb] w (GivesDiv (x / y) (x % y) w) := by
  obtain ⟨A, c, rfl, HA⟩ := ha.open_
  obtain ⟨B, d, rfl, HB⟩ := hb.open_
  have hc := cmpN_lt hlt
  have HC := Lib.hid hc
  have H0 : Hid (x / y = 0 ∧ x % y = x) := ⟨Nat.div_eq_of_lt hlt, Nat.mod_eq_of_lt hlt⟩
  clear hc
  go_enter Tryd.func54, Tryd.ntmps54
  go_wp2_with fail
  refine (compare_any _ _ _ _ x y _ HA.out.mem.2.2 HB.out.mem.2.2 hla hlb).mono ?_
  rintro e w1 ⟨rfl, k, rfl⟩
  rw [HC.out]
  go_wp2
  go_ret2
  rw [H0.out.1, H0.out.2]
  exact ⟨_, _, rfl, NatAt.zero _ _ _, HA.out.into (below_drewN w k), below_drewN w k⟩

theorem compare_b (A B : Option Addr) (c d x y : Nat) (w : World) (ha : NatAt w (.slice A (len x) c) x) (hb : NatAt w (.slice B (len y) d) y) (hx : len x ≤ 1099511627776) (hy : len y ≤ 1099511627776) :
    Calls Tryd.prog 47 #[.slice A (len x) c, .slice B (len y) d] w fun e w' => e = .returned (.int .i64 (cmpN x y)) ∧ Below w.heap.size w w' :=
  (compare_any A B c d x y w ha.mem.2.2 hb.mem.2.2 hx hy).mono fun _ _ ⟨he, k, hk⟩ => ⟨he, hk ▸ below_drewN w k⟩
theorem run_quo_u64 (T : TypeId) (x y : Nat) (W : World) (hy : 0 < y) (hx : x < 18446744073709551616) : (binOp .quo T (.int .u64 (x : Int)) (.int .u64 (y : Int))).run Tryd.prog W = .ok (.int .u64 ((x / y : Nat) : Int)) W := by
  have hn : ¬ y = 0 := by omega
  have h : x / y < 18446744073709551616 := Nat.lt_of_le_of_lt (Nat.div_le_self x y) hx
  simp [binOp, go_sem, hn]
  rw [show (x : Int) / (y : Int) = ((x / y : Nat) : Int) from rfl, wrap_u64_nat _ h]
theorem run_rem_u64 (T : TypeId) (x y : Nat) (W : World) (hy : 0 < y) : (binOp .rem T (.int .u64 (x : Int)) (.int .u64 (y : Int))).run Tryd.prog W = .ok (.int .u64 ((x % y : Nat) : Int)) W := by
  have hn : ¬ y = 0 := by omega
  simp [binOp, go_sem, hn]
  rfl

set_option maxHeartbeats 1000000 in
theorem divide_small (va vb : Value) (x y : Nat) (w : World) (ha : NatAt w va x) (hb : NatAt w vb y) (hy : 0 < y) (hle : y ≤ x) (hx : x < 18446744073709551616) :
    Calls Tryd.prog 54 #[va, vb] w (GivesDiv (x / y) (x % y) w) := by
  obtain ⟨A, c, rfl, HA⟩ := ha.open_
  obtain ⟨B, d, rfl, HB⟩ := hb.open_
  have hlx := len_le_two hx
  have hly := len_le_two (show y < 18446744073709551616 by omega)
  obtain ⟨v, hc, hv0⟩ : ∃ v : Int, cmpN x y = v ∧ 0 ≤ v := ⟨_, rfl, by rcases Nat.lt_or_ge y x with h | h; rw [cmpN_gt h]; omega; rw [cmpN_eq (by omega)]; omega⟩
  have HC := Lib.hid hc
  clear hc
  have hq : x / y < 18446744073709551616 := Nat.lt_of_le_of_lt (Nat.div_le_self x y) hx
  have hr : x % y < 18446744073709551616 := Nat.lt_of_le_of_lt (Nat.mod_le x y) hx
  go_enter Tryd.func54, Tryd.ntmps54
  go_wp2_with fail
  refine (compare_b _ _ _ _ x y _ HA.out HB.out (by omega) (by omega)).mono ?_
  rintro e w1 ⟨rfl, hb1⟩
  have HB1 := Lib.hid hb1
  clear hb1
  rw [HC.out]
  have hl2 : decide ((len x : Int) ≤ 2) = true := by simp; omega
  have hv2 : decide (v < 0) = false := by simp; omega
  go_wp2_with fail
  refine (toWord_any A c x _ (HA.out.into HB1.out).mem.2.2 hx).mono ?_
  rintro e w2 ⟨rfl, rfl⟩
  go_wp2_with fail
  refine (toWord_any B d y _ (HB.out.into HB1.out).mem.2.2 (by omega)).mono ?_
  rintro e w2 ⟨rfl, rfl⟩
  have tok : True := trivial
  have hn : ¬ y = 0 := by omega
  have hwq : IntKind.u64.wrap ((x : Int) / (y : Int)) = ((x / y : Nat) : Int) := wrap_u64_nat _ hq
  have hwr : (x : Int).tmod (y : Int) = ((x % y : Nat) : Int) := rfl
  go_wp2_with fail
  go_region_held3 (fun w' => Below w1.heap.size w1 w')
    (first | exact Below.refl _ _ | exact (Below.refl _ _).drew | exact HF1.out | exact HF1.out.drew | exact HF2.out | exact HF2.out.drew)
    (first
      | (go_at_call 53
         have tok0 := tok
         clear tok
         refine (fromWord_any (x / y) _ hq).mono ?_
         rintro e w3 ⟨v3, rfl, hv3, hb3⟩
         obtain ⟨A3, c3, rfl, H3⟩ := hv3.open_
         have HF1 : Hid (Below w1.heap.size w1 w3) := step_below (by first | exact Below.refl _ _ | exact (Below.refl _ _).drew | exact (Below.refl _ _).drew.drew) hb3
         clear hb3 hv3)
      | (go_at_call 53
         refine (fromWord_any (x % y) _ hr).mono ?_
         rintro e w4 ⟨v4, rfl, hv4, hb4⟩
         obtain ⟨A4, c4, rfl, H4⟩ := hv4.open_
         have H3' := Lib.hid (H3.out.into (by first | exact hb4 | exact (Below.refl _ _).drew.trans hb4))
         have HF2 : Hid (Below w1.heap.size w1 w4) := step_below (by first | exact HF1.out | exact HF1.out.drew | exact HF1.out.drew.drew) hb4
         clear hb4 hv4))
  go_wp2
  go_ret2
  exact ⟨_, _, rfl, H3'.out, H4.out, step_below HB1.out HF2.out⟩
end Go.Proofs.YtjajmonhcnmidaaDoor
/- Walks: wordDivisor; divisor on at most two limbs; Gcd, wherever divisor is right. -/
namespace Go.Proofs.YtjajmonhcnmidaaDoor
open Go.RowKit

set_option maxHeartbeats 1000000 in
theorem wordDivisor_any (x y : Nat) (w : World) (hx : x < 18446744073709551616) (hy : y < 18446744073709551616) :
    Calls Tryd.prog 70 #[.int .u64 x, .int .u64 y] w fun e w' => e = .returned (.int .u64 (Nat.gcd x y : Nat)) ∧ Below w.heap.size w w' := by
  go_enter Tryd.func70, Tryd.ntmps70
  go_wp2_with fail
  go_loopw [0, 1] (fun a b wr => ∃ p q : Nat, a = .int .u64 p ∧ b = .int .u64 q ∧ p < 18446744073709551616 ∧ q < 18446744073709551616 ∧ Nat.gcd p q = Nat.gcd x y ∧ Below w.heap.size w wr) (fun _ b _ => (intOf b).toNat)
  case atStart => exact ⟨x, y, rfl, rfl, hx, hy, rfl, Below.refl _ _⟩
  case round =>
    obtain ⟨p, q, rfl, rfl, hp, hq, hg, hb⟩ := hrel
    have HG := Lib.hid hg
    clear hg
    rcases Nat.eq_zero_or_pos q with h0 | h0
    · subst h0
      have hgp : Nat.gcd p 0 = p := Nat.gcd_zero_right p
      have hg' := HG.out
      rw [hgp] at hg'
      have HG' := Lib.hid hg'
      clear hgp hg'
      go_wp2
      go_ret
      rw [← HG'.out]
      exact ⟨rfl, hb⟩
    · have ht : ((q : Int) != 0) = true := by simp; omega
      have hn : ¬ q = 0 := by omega
      have hwr : (p : Int).tmod (q : Int) = ((p % q : Nat) : Int) := rfl
      have hlt : p % q < q := Nat.mod_lt _ h0
      go_wp2_with fail
      go_quiet (fail)
      go_wp2_with fail
      go_roundw
      case rel => exact ⟨q, p % q, rfl, by first | rfl | go_num, hq, by omega, by rw [← HG.out, Nat.gcd_comm p q, Nat.gcd_rec q p, Nat.gcd_comm], by exact ⟨hb.os, hb.tape, hb.output, hb.size, hb.block⟩⟩
      case measure => simp [intOf]; omega

set_option maxHeartbeats 1600000 in
theorem divisor_small (va vb : Value) (x y : Nat) (w : World) (ha : NatAt w va x) (hb : NatAt w vb y) (hx : x < 18446744073709551616) (hy : y < 18446744073709551616) :
    Calls Tryd.prog 55 #[va, vb] w (GivesNat (Nat.gcd x y) w) := by
  obtain ⟨A, c, rfl, HA⟩ := ha.open_
  obtain ⟨B, d, rfl, HB⟩ := hb.open_
  have hlx := len_le_two hx
  have hly := len_le_two hy
  clear ha hb
  go_enter Tryd.func55, Tryd.ntmps55
  go_wp2_with fail
  refine (compare_b _ _ _ _ x y _ HA.out HB.out (by omega) (by omega)).mono ?_
  rintro e w1 ⟨rfl, hb1⟩
  have HB1 := Lib.hid hb1
  clear hb1
  rcases Nat.lt_or_ge x y with hlt | hge
  · rw [cmpN_lt hlt]
    go_wp2_with fail
    go_loopw [0, 1] (fun a b wr => a = .slice B (len y) d ∧ b = .slice A (len x) c ∧ Below w.heap.size w wr) (fun _ _ _ => 0)
    case atStart => exact ⟨rfl, rfl, HB1.out⟩
    case round =>
      obtain ⟨rfl, rfl, hbr⟩ := hrel
      have HBR := Lib.hid hbr
      clear hbr
      have hgt : decide (2 < (len x : Int)) = false := by simp; omega
      rcases Nat.eq_zero_or_pos x with h0 | h0
      · have hq0 : ((len x : Int) == 0) = true := by rw [h0, len_zero]; rfl
        have HG : Hid (Nat.gcd x y = y) := by rw [h0]; exact Nat.gcd_zero_left y
        have HN : Hid (NatAt wr (.slice B (len y) d) y) := HB.out.into HBR.out
        clear h0
        go_wp2
        go_ret
        rw [HG.out]
        exact ⟨_, rfl, HN.out, HBR.out⟩
      · have hq0 : ((len x : Int) == 0) = false := by
          have : len x ≠ 0 := fun h => by have := len_eq_zero.1 h; omega
          simp; omega
        have hr := Nat.mod_lt y h0
        go_wp2_with fail
        refine (divide_small _ _ y x _ (HB.out.into HBR.out) (HA.out.into HBR.out) h0 (by omega) (by omega)).mono ?_
        rintro e w2 ⟨vq, vr, rfl, hvq, hvr, hb2⟩
        obtain ⟨A2, c2, rfl, H2⟩ := hvr.open_
        have HB2 := Lib.hid (step_below HBR.out hb2)
        clear hvq hvr hb2
        go_wp2_with fail
        refine (toWord_any A c x _ (HA.out.into HB2.out).mem.2.2 (by omega)).mono ?_
        rintro e w3 ⟨rfl, rfl⟩
        go_wp2_with fail
        refine (toWord_any A2 c2 (y % x) _ H2.out.mem.2.2 (by omega)).mono ?_
        rintro e w3 ⟨rfl, rfl⟩
        go_wp2_with fail
        refine (wordDivisor_any x (y % x) _ (by omega) (by omega)).mono ?_
        rintro e w3 ⟨rfl, hb3⟩
        have HB3 := Lib.hid (step_below HB2.out hb3)
        clear hb3
        go_wp2_with fail
        refine (fromWord_any (Nat.gcd x (y % x)) _ (by have := Nat.gcd_le_left (y % x) h0; omega)).mono ?_
        rintro e w4 ⟨v4, rfl, hv4, hb4⟩
        have HB4 := Lib.hid (step_below HB3.out hb4)
        obtain ⟨A4, c4, rfl, H4⟩ := hv4.open_
        have HG : Hid (Nat.gcd x y = Nat.gcd x (y % x)) := by
          rw [Nat.gcd_rec x y, Nat.gcd_comm]; exact rfl
        clear hb4 hv4
        generalize Nat.gcd x (y % x) = g at *
        go_wp2
        go_ret
        rw [HG.out]
        exact ⟨_, rfl, H4.out, HB4.out⟩
  · obtain ⟨v, hc, hv0⟩ : ∃ v : Int, cmpN x y = v ∧ 0 ≤ v := ⟨_, rfl, by rcases Nat.lt_or_ge y x with h | h; rw [cmpN_gt h]; omega; rw [cmpN_eq (by omega)]; omega⟩
    rw [hc]
    clear hc
    have hv2 : decide (v < 0) = false := by simp; omega
    go_wp2_with fail
    go_loopw [0, 1] (fun a b wr => a = .slice A (len x) c ∧ b = .slice B (len y) d ∧ Below w.heap.size w wr) (fun _ _ _ => 0)
    case atStart => exact ⟨rfl, rfl, HB1.out⟩
    case round =>
      obtain ⟨rfl, rfl, hbr⟩ := hrel
      have HBR := Lib.hid hbr
      clear hbr
      have hgt : decide (2 < (len y : Int)) = false := by simp; omega
      rcases Nat.eq_zero_or_pos y with h0 | h0
      · have hq0 : ((len y : Int) == 0) = true := by rw [h0, len_zero]; rfl
        have HG : Hid (Nat.gcd x y = x) := by rw [h0]; exact Nat.gcd_zero_right x
        have HN : Hid (NatAt wr (.slice A (len x) c) x) := HA.out.into HBR.out
        clear h0
        go_wp2
        go_ret
        rw [HG.out]
        exact ⟨_, rfl, HN.out, HBR.out⟩
      · have hq0 : ((len y : Int) == 0) = false := by
          have : len y ≠ 0 := fun h => by have := len_eq_zero.1 h; omega
          simp; omega
        have hr := Nat.mod_lt x h0
        go_wp2_with fail
        refine (divide_small _ _ x y _ (HA.out.into HBR.out) (HB.out.into HBR.out) h0 (by omega) (by omega)).mono ?_
        rintro e w2 ⟨vq, vr, rfl, hvq, hvr, hb2⟩
        obtain ⟨A2, c2, rfl, H2⟩ := hvr.open_
        have HB2 := Lib.hid (step_below HBR.out hb2)
        clear hvq hvr hb2
        go_wp2_with fail
        refine (toWord_any B d y _ (HB.out.into HB2.out).mem.2.2 (by omega)).mono ?_
        rintro e w3 ⟨rfl, rfl⟩
        go_wp2_with fail
        refine (toWord_any A2 c2 (x % y) _ H2.out.mem.2.2 (by omega)).mono ?_
        rintro e w3 ⟨rfl, rfl⟩
        go_wp2_with fail
        refine (wordDivisor_any y (x % y) _ (by omega) (by omega)).mono ?_
        rintro e w3 ⟨rfl, hb3⟩
        have HB3 := Lib.hid (step_below HB2.out hb3)
        clear hb3
        go_wp2_with fail
        refine (fromWord_any (Nat.gcd y (x % y)) _ (by have := Nat.gcd_le_left (x % y) h0; omega)).mono ?_
        rintro e w4 ⟨v4, rfl, hv4, hb4⟩
        have HB4 := Lib.hid (step_below HB3.out hb4)
        obtain ⟨A4, c4, rfl, H4⟩ := hv4.open_
        have HG : Hid (Nat.gcd x y = Nat.gcd y (x % y)) := by
          rw [Nat.gcd_comm x y, Nat.gcd_rec y x, Nat.gcd_comm]; exact rfl
        clear hb4 hv4
        generalize Nat.gcd y (x % y) = g at *
        go_wp2
        go_ret
        rw [HG.out]
        exact ⟨_, rfl, H4.out, HB4.out⟩


set_option maxHeartbeats 1600000 in
theorem Gcd_from (va vb : Value) (a b : Int) (w : World) (ha : IntAt w va a) (hb : IntAt w vb b) (hla : len a.natAbs ≤ 1099511627776) (hlb : len b.natAbs ≤ 1099511627776)
    (hD : ∀ (u v : Value) (W : World), NatAt W u a.natAbs → NatAt W v b.natAbs → Calls Tryd.prog 55 #[u, v] W (GivesNat (Nat.gcd a.natAbs b.natAbs) W)) :
    Calls Tryd.prog 33 #[va, vb] w (GivesInt (Nat.gcd a.natAbs b.natAbs : Nat) w) := by
  obtain ⟨x, hx⟩ : ∃ n, a.natAbs = n := ⟨_, rfl⟩
  obtain ⟨y, hy⟩ : ∃ n, b.natAbs = n := ⟨_, rfl⟩
  obtain ⟨p, hp⟩ : ∃ s, decide (a < 0) = s := ⟨_, rfl⟩
  obtain ⟨q, hq⟩ : ∃ s, decide (b < 0) = s := ⟨_, rfl⟩
  have sa := sgn_of a
  have sb := sgn_of b
  rw [hx, hp] at sa
  rw [hy, hq] at sb
  rw [hx] at hla hD
  rw [hy] at hlb hD
  rw [hx, hy]
  have HDD := Lib.hid hD
  clear hD
  obtain ⟨A, c, rfl, HA⟩ := ha.parts_ hx hp
  obtain ⟨B, d, rfl, HB⟩ := hb.parts_ hy hq
  have HIA := Lib.hid (IntAt.back HA.out hx hp)
  have HIB := Lib.hid (IntAt.back HB.out hy hq)
  have HX := Lib.hid hx
  have HY := Lib.hid hy
  have HP := Lib.hid hp
  have HQ := Lib.hid hq
  have SA := Lib.hid sa
  have SB := Lib.hid sb
  clear hx hy hp hq ha hb HA HB sa sb
  have HH := Lib.hid (heap3 w (.cells #[.bool p, .slice A (len x) c] 27) (.cells #[.bool q, .slice B (len y) d] 27) (.cells #[.bool false, .slice none 0 0] 27))
  have HW := Lib.hid (below3 w (.cells #[.bool p, .slice A (len x) c] 27) (.cells #[.bool q, .slice B (len y) d] 27) (.cells #[.bool false, .slice none 0 0] 27))
  go_enter Tryd.func33, Tryd.ntmps33
  go_wp2_with fail
  generalize ((w.alloc (.cells #[.bool p, .slice A (len x) c] 27)).alloc (.cells #[.bool q, .slice B (len y) d] 27)).alloc (.cells #[.bool false, .slice none 0 0] 27) = W at *
  refine (parts_is _ a x p _ (HIA.out.into HW.out) HX.out HP.out (by omega)).mono ?_
  rintro e w1 ⟨A1, c1, rfl, H1, hb1⟩
  have hB1 := Lib.hid hb1
  obtain ⟨hc0, hc1, hf0, hf1, hs⟩ := box_in HH.out.2.1 hb1
  clear hb1
  go_wp2_with fail
  refine (parts_is _ b y q _ (HIB.out.into (step_below HW.out hB1.out)) HY.out HQ.out (by omega)).mono ?_
  rintro e w2 ⟨B1, d1, rfl, H2, hb2⟩
  have hB2 := Lib.hid (step_below hB1.out hb2)
  have H1' := Lib.hid (H1.out.into hb2)
  clear hb2 hc0 hc1 hf0 hf1 hs hB1 H1
  go_wp2_with fail
  refine (HDD.out _ _ _ H1'.out H2.out).mono ?_
  rintro e w3 ⟨v3, rfl, hv3, hb3⟩
  have hB3 := Lib.hid (step_below hB2.out hb3)
  clear hb3 hB2
  go_wp2_with fail
  refine (build_any false v3 (Nat.gcd x y) _ hv3 (by
    rcases Nat.eq_zero_or_pos x with h | h
    · rw [h, Nat.gcd_zero_left]; omega
    · have := len_mono (Nat.gcd_le_left y h); omega)).mono ?_
  rintro e w4 ⟨v4, rfl, hv4, hb4⟩
  obtain ⟨b', A', k', c', rfl, H'⟩ := hv4.open_
  have hb := step_below hB3.out hb4
  obtain ⟨hc0, hc1, hf0, hf1, hs⟩ := box_in HH.out.2.2 hb
  have HE := Lib.hid (box_end (x' := .bool b') (y' := .slice A' k' c') HH.out.2.2 hb H'.out HW.out (by omega))
  clear hb hb4
  go_wp2
  refine bodyPost_ret (v := .agg #[.bool b', .slice A' k' c']) (by simp [results, Tryd.results33, go_sem, hs, hc0, hc1]) rfl ⟨_, rfl, HE.out.1, HE.out.2⟩

theorem Gcd_small (va vb : Value) (a b : Int) (w : World) (ha : IntAt w va a) (hb : IntAt w vb b) (hx : a.natAbs < 18446744073709551616) (hy : b.natAbs < 18446744073709551616) :
    Calls Tryd.prog 33 #[va, vb] w (GivesInt (Nat.gcd a.natAbs b.natAbs : Nat) w) :=
  Gcd_from va vb a b w ha hb (by have := len_le_two hx; omega) (by have := len_le_two hy; omega) fun u v W hu hv => divisor_small u v _ _ W hu hv hx hy
end Go.Proofs.YtjajmonhcnmidaaDoor
/- Walks: DivMod, wherever divide is right. -/
namespace Go.Proofs.YtjajmonhcnmidaaDoor
open Go.RowKit

theorem heap4 (w : World) (o1 o2 o3 o4 : Obj) : ((((w.alloc o1).alloc o2).alloc o3).alloc o4).heap[w.heap.size]? = some o1 ∧ ((((w.alloc o1).alloc o2).alloc o3).alloc o4).heap[w.heap.size + 1]? = some o2 ∧ ((((w.alloc o1).alloc o2).alloc o3).alloc o4).heap[w.heap.size + 2]? = some o3 ∧ ((((w.alloc o1).alloc o2).alloc o3).alloc o4).heap[w.heap.size + 3]? = some o4 :=
  ⟨(Below.heap_alloc _ _ _ (by simp; try omega)).trans (heap3 w o1 o2 o3).1, (Below.heap_alloc _ _ _ (by simp; try omega)).trans (heap3 w o1 o2 o3).2.1, (Below.heap_alloc _ _ _ (by simp; try omega)).trans (heap3 w o1 o2 o3).2.2, by have := heap1 (((w.alloc o1).alloc o2).alloc o3) o4; rwa [size_alloc', size_alloc', size_alloc'] at this⟩
theorem below4 (w : World) (o1 o2 o3 o4 : Obj) : Below w.heap.size w ((((w.alloc o1).alloc o2).alloc o3).alloc o4) := (below3 w o1 o2 o3).alloc (by simp; omega) o4
/-- The end of a function with two integers in boxes of its own. -/
theorem box_end2 {w W w1 : World} {g g2 : Nat} {x y x' y' x2 y2 x'' y'' v v2 : Value} {z z2 : Int} (hg : W.heap[g]? = some (.cells #[x, y] 27 (0, 0))) (hg2 : W.heap[g2]? = some (.cells #[x2, y2] 27 (0, 0)))
    (hb : Below W.heap.size W w1) (h : IntAt w1 v z) (h2 : IntAt w1 v2 z2) (hw : Below w.heap.size w W) (hgw : w.heap.size ≤ g) (hne2 : g < g2) :
    IntAt ((((w1.setCell ⟨g, 0, none⟩ x').setCell ⟨g, 1, none⟩ y').setCell ⟨g2, 0, none⟩ x'').setCell ⟨g2, 1, none⟩ y'') v z ∧ IntAt ((((w1.setCell ⟨g, 0, none⟩ x').setCell ⟨g, 1, none⟩ y').setCell ⟨g2, 0, none⟩ x'').setCell ⟨g2, 1, none⟩ y'') v2 z2 ∧
      Below w.heap.size w ((((w1.setCell ⟨g, 0, none⟩ x').setCell ⟨g, 1, none⟩ y').setCell ⟨g2, 0, none⟩ x'').setCell ⟨g2, 1, none⟩ y'') := by
  have lt_of : ∀ {k : Nat} {o : Obj}, W.heap[k]? = some o → k < W.heap.size := fun {k o} hk => by
    rcases Nat.lt_or_ge k W.heap.size with hlt | hge
    · exact hlt
    · rw [Array.getElem?_eq_none hge] at hk; cases hk
  have h1 : w1.heap[g]? = some (.cells #[x, y] 27 (0, 0)) := (hb.block g (lt_of hg)).trans hg
  have h1' : w1.heap[g2]? = some (.cells #[x2, y2] 27 (0, 0)) := (hb.block g2 (lt_of hg2)).trans hg2
  have hne : (27 : TypeId) ≠ 38 := by decide
  have e1 := block_setCell h1 0 x'
  have k1 : (w1.setCell ⟨g, 0, none⟩ x').heap[g2]? = some (.cells #[x2, y2] 27 (0, 0)) := (Below.heap_setCell _ _ _ _ (by simp; omega)).trans h1'
  have k2 : ((w1.setCell ⟨g, 0, none⟩ x').setCell ⟨g, 1, none⟩ y').heap[g2]? = some (.cells #[x2, y2] 27 (0, 0)) := (Below.heap_setCell _ _ _ _ (by simp; omega)).trans k1
  have k3 := block_setCell k2 0 x''
  refine ⟨(((h.far h1 hne 0 x').far e1 hne 1 y').far k2 hne 0 x'').far k3 hne 1 y'', (((h2.far h1 hne 0 x').far e1 hne 1 y').far k2 hne 0 x'').far k3 hne 1 y'', ?_⟩
  exact ((((step_below hw hb).setCell (by simpa using hgw) _).setCell (by simpa using hgw) _).setCell (by simp; omega) _).setCell (by simp; omega) _
theorem one_nat (w : World) : NatAt (w.alloc (.cells #[.int .u32 1] 38)) (.slice (some ⟨w.heap.size, 0, none⟩) 1 1) 1 := by
  have h := (Row.new w [1]).nat (L32.mk (by decide) L32.nil_) (c := 1) (by decide)
  have e : val [1] = 1 := rfl
  rw [e] at h
  have e2 : len 1 = 1 := by rw [len_pos (by decide)]; simp [len_zero]
  rw [e2] at h
  exact h
theorem div_of {a b q r : Int} (h : a = b * q + r) (h0 : 0 ≤ r) (h1 : r < b ∨ r < -b) : q = a / b ∧ r = a % b := by
  have hb : b ≠ 0 := by omega
  have hr : r / b = 0 ∧ r % b = r := by
    rcases h1 with h1 | h1
    · exact ⟨Int.ediv_eq_zero_of_lt h0 h1, Int.emod_eq_of_lt h0 h1⟩
    · have e : b = -(-b) := by omega
      constructor
      · rw [e, Int.ediv_neg, Int.ediv_eq_zero_of_lt h0 h1]; rfl
      · rw [e, Int.emod_neg]; exact Int.emod_eq_of_lt h0 h1
  subst h
  constructor
  · rw [Int.mul_comm, Int.add_comm, Int.add_mul_ediv_right _ _ hb, hr.1]; omega
  · rw [Int.mul_comm, Int.add_comm, Int.add_mul_emod_self_right, hr.2]
theorem dm_false_false {a b : Int} {x y : Nat} (h1 : sgn false x = a) (h2 : sgn false y = b) (hy : 0 < y) : sgn false (x / y) = a / b ∧ sgn false (x % y) = a % b := by
  have h3 := Nat.div_add_mod x y
  have h4 := Nat.mod_lt x hy
  generalize x / y = d at *
  generalize x % y = r at *
  have hx : (x : Int) = (y : Int) * (d : Int) + (r : Int) := by rw [← Int.natCast_mul]; omega
  refine div_of ?_ ?_ ?_
  · rw [← h1, ← h2]
    simp only [sgn, Bool.false_eq_true, if_false, if_true, reduceIte, Int.natCast_add, Int.mul_neg, Int.neg_mul, Int.mul_add, Int.neg_neg]
    omega
  · simp only [sgn, Bool.false_eq_true, if_false, reduceIte]; omega
  · rw [← h2]
    simp only [sgn, Bool.false_eq_true, if_false, if_true, reduceIte]
    omega
theorem dm_false_true {a b : Int} {x y : Nat} (h1 : sgn false x = a) (h2 : sgn true y = b) (hy : 0 < y) : sgn true (x / y) = a / b ∧ sgn false (x % y) = a % b := by
  have h3 := Nat.div_add_mod x y
  have h4 := Nat.mod_lt x hy
  generalize x / y = d at *
  generalize x % y = r at *
  have hx : (x : Int) = (y : Int) * (d : Int) + (r : Int) := by rw [← Int.natCast_mul]; omega
  refine div_of ?_ ?_ ?_
  · rw [← h1, ← h2]
    simp only [sgn, Bool.false_eq_true, if_false, if_true, reduceIte, Int.natCast_add, Int.mul_neg, Int.neg_mul, Int.mul_add, Int.neg_neg]
    omega
  · simp only [sgn, Bool.false_eq_true, if_false, reduceIte]; omega
  · rw [← h2]
    simp only [sgn, Bool.false_eq_true, if_false, if_true, reduceIte]
    omega
theorem dm0_true_false {a b : Int} {x y : Nat} (h1 : sgn true x = a) (h2 : sgn false y = b) (hy : 0 < y) (hr : x % y = 0) : sgn true (x / y) = a / b ∧ sgn false (x % y) = a % b := by
  have h3 := Nat.div_add_mod x y
  have h4 := Nat.mod_lt x hy
  generalize x / y = d at *
  generalize x % y = r at *
  have hx : (x : Int) = (y : Int) * (d : Int) + (r : Int) := by rw [← Int.natCast_mul]; omega
  refine div_of ?_ ?_ ?_
  · rw [← h1, ← h2]
    simp only [sgn, Bool.false_eq_true, if_false, if_true, reduceIte, Int.natCast_add, Int.mul_neg, Int.neg_mul, Int.mul_add, Int.neg_neg]
    omega
  · simp only [sgn, Bool.false_eq_true, if_false, reduceIte]; omega
  · rw [← h2]
    simp only [sgn, Bool.false_eq_true, if_false, if_true, reduceIte]
    omega
theorem dm0_true_true {a b : Int} {x y : Nat} (h1 : sgn true x = a) (h2 : sgn true y = b) (hy : 0 < y) (hr : x % y = 0) : sgn false (x / y) = a / b ∧ sgn false (x % y) = a % b := by
  have h3 := Nat.div_add_mod x y
  have h4 := Nat.mod_lt x hy
  generalize x / y = d at *
  generalize x % y = r at *
  have hx : (x : Int) = (y : Int) * (d : Int) + (r : Int) := by rw [← Int.natCast_mul]; omega
  refine div_of ?_ ?_ ?_
  · rw [← h1, ← h2]
    simp only [sgn, Bool.false_eq_true, if_false, if_true, reduceIte, Int.natCast_add, Int.mul_neg, Int.neg_mul, Int.mul_add, Int.neg_neg]
    omega
  · simp only [sgn, Bool.false_eq_true, if_false, reduceIte]; omega
  · rw [← h2]
    simp only [sgn, Bool.false_eq_true, if_false, if_true, reduceIte]
    omega
theorem dm1_true_false {a b : Int} {x y : Nat} (h1 : sgn true x = a) (h2 : sgn false y = b) (hy : 0 < y) (hr : 0 < x % y) : sgn true (x / y + 1) = a / b ∧ sgn false (y - x % y) = a % b := by
  have h3 := Nat.div_add_mod x y
  have h4 := Nat.mod_lt x hy
  generalize x / y = d at *
  generalize x % y = r at *
  have hx : (x : Int) = (y : Int) * (d : Int) + (r : Int) := by rw [← Int.natCast_mul]; omega
  refine div_of ?_ ?_ ?_
  · rw [← h1, ← h2]
    simp only [sgn, Bool.false_eq_true, if_false, if_true, reduceIte, Int.natCast_add, Int.mul_neg, Int.neg_mul, Int.mul_add, Int.neg_neg]
    omega
  · simp only [sgn, Bool.false_eq_true, if_false, reduceIte]; omega
  · rw [← h2]
    simp only [sgn, Bool.false_eq_true, if_false, if_true, reduceIte]
    omega
theorem dm1_true_true {a b : Int} {x y : Nat} (h1 : sgn true x = a) (h2 : sgn true y = b) (hy : 0 < y) (hr : 0 < x % y) : sgn false (x / y + 1) = a / b ∧ sgn false (y - x % y) = a % b := by
  have h3 := Nat.div_add_mod x y
  have h4 := Nat.mod_lt x hy
  generalize x / y = d at *
  generalize x % y = r at *
  have hx : (x : Int) = (y : Int) * (d : Int) + (r : Int) := by rw [← Int.natCast_mul]; omega
  refine div_of ?_ ?_ ?_
  · rw [← h1, ← h2]
    simp only [sgn, Bool.false_eq_true, if_false, if_true, reduceIte, Int.natCast_add, Int.mul_neg, Int.neg_mul, Int.mul_add, Int.neg_neg]
    omega
  · simp only [sgn, Bool.false_eq_true, if_false, reduceIte]; omega
  · rw [← h2]
    simp only [sgn, Bool.false_eq_true, if_false, if_true, reduceIte]
    omega

def GivesDM (q r ec : Int) (w : World) (e : Ending) (w' : World) : Prop := ∃ vq vr, e = .returned (.tuple #[vq, vr, .int .i64 ec]) ∧ IntAt w' vq q ∧ IntAt w' vr r ∧ Below w.heap.size w w'
end Go.Proofs.YtjajmonhcnmidaaDoor
/- Walks: DivMod, wherever divide is right. -/
namespace Go.Proofs.YtjajmonhcnmidaaDoor
open Go.RowKit

set_option maxHeartbeats 3200000 in
theorem DivMod_from (va vb : Value) (a b : Int) (w : World) (ha : IntAt w va a) (hb : IntAt w vb b) (hla : len a.natAbs ≤ 549755813888) (hlb : len b.natAbs ≤ 549755813888) (hb0 : b ≠ 0)
    (hD : ∀ (u v : Value) (W : World), NatAt W u a.natAbs → NatAt W v b.natAbs → Calls Tryd.prog 54 #[u, v] W (GivesDiv (a.natAbs / b.natAbs) (a.natAbs % b.natAbs) W)) :
    Calls Tryd.prog 31 #[va, vb] w (GivesDM (a / b) (a % b) 0 w) := by
  have hy0 : 0 < b.natAbs := by omega
  obtain ⟨x, hx⟩ : ∃ n, a.natAbs = n := ⟨_, rfl⟩
  obtain ⟨y, hy⟩ : ∃ n, b.natAbs = n := ⟨_, rfl⟩
  obtain ⟨p, hp⟩ : ∃ s, decide (a < 0) = s := ⟨_, rfl⟩
  obtain ⟨q, hq⟩ : ∃ s, decide (b < 0) = s := ⟨_, rfl⟩
  have sa := sgn_of a
  have sb := sgn_of b
  rw [hx, hp] at sa
  rw [hy, hq] at sb
  rw [hx] at hla hD
  rw [hy] at hlb hD hy0
  have HDD := Lib.hid hD
  clear hD hb0
  obtain ⟨A, c, rfl, HA⟩ := ha.parts_ hx hp
  obtain ⟨B, d, rfl, HB⟩ := hb.parts_ hy hq
  have HIA := Lib.hid (IntAt.back HA.out hx hp)
  have HIB := Lib.hid (IntAt.back HB.out hy hq)
  have HX := Lib.hid hx
  have HY := Lib.hid hy
  have HP := Lib.hid hp
  have HQ := Lib.hid hq
  have SA := Lib.hid sa
  have SB := Lib.hid sb
  clear hx hy hp hq ha hb HA HB sa sb
  cases p <;> cases q
  · have HH := Lib.hid (heap4 w (.cells #[.bool false, .slice A (len x) c] 27) (.cells #[.bool false, .slice B (len y) d] 27) (.cells #[.bool false, .slice none 0 0] 27) (.cells #[.bool false, .slice none 0 0] 27))
    have HW := Lib.hid (below4 w (.cells #[.bool false, .slice A (len x) c] 27) (.cells #[.bool false, .slice B (len y) d] 27) (.cells #[.bool false, .slice none 0 0] 27) (.cells #[.bool false, .slice none 0 0] 27))
    go_enter Tryd.func31, Tryd.ntmps31
    go_wp2_with fail
    generalize (((w.alloc (.cells #[.bool false, .slice A (len x) c] 27)).alloc (.cells #[.bool false, .slice B (len y) d] 27)).alloc (.cells #[.bool false, .slice none 0 0] 27)).alloc (.cells #[.bool false, .slice none 0 0] 27) = W at *
    refine (parts_is _ a x false _ (HIA.out.into HW.out) HX.out HP.out (by omega)).mono ?_
    rintro e w1 ⟨A1, c1, rfl, H1, hb1⟩
    have hB1 := Lib.hid hb1
    obtain ⟨hc0, hc1, hf0, hf1, hs⟩ := box_in HH.out.2.1 hb1
    clear hb1
    go_wp2_with fail
    refine (parts_is _ b y false _ (HIB.out.into (step_below HW.out hB1.out)) HY.out HQ.out (by omega)).mono ?_
    rintro e w2 ⟨B1, d1, rfl, H2, hb2⟩
    have hB2 := Lib.hid (step_below hB1.out hb2)
    have H1' := Lib.hid (H1.out.into hb2)
    clear hb2 hc0 hc1 hf0 hf1 hs hB1 H1
    have hle : len (x / y) ≤ len x := len_mono (Nat.div_le_self x y)
    have hle2 : len (x % y) ≤ len y := len_mono (Nat.le_of_lt (Nat.mod_lt x hy0))
    have hyn : ((len y : Int) == 0) = false := by
      have : len y ≠ 0 := fun h => by have := len_eq_zero.1 h; omega
      simp; omega
    go_wp2_with fail
    refine (HDD.out _ _ _ H1'.out H2.out).mono ?_
    rintro e w3 ⟨vq, vr, rfl, hvq, hvr, hb3⟩
    obtain ⟨Aq, cq, rfl, Hq⟩ := hvq.open_
    obtain ⟨Ar, cr, rfl, Hr⟩ := hvr.open_
    have H2' := Lib.hid (H2.out.into hb3)
    have hB3 := Lib.hid (step_below hB2.out hb3)
    clear hb3 hvq hvr hB2
    go_wp2_with fail
    refine (build_any false _ (x / y) _ Hq.out (by first | omega | (have := len_add (x / y) 1; have := len_le_one (show 1 < 4294967296 by decide); omega))).mono ?_
    rintro e w5 ⟨v5, rfl, hv5, hb5⟩
    rw [show sgn false (x / y) = a / b from (dm_false_false SA.out SB.out hy0).1] at hv5
    obtain ⟨b5, A5, k5, c5, rfl, H5⟩ := hv5.open_
    have HR5 := Lib.hid (Hr.out.into hb5)
    have hB5 := Lib.hid (step_below hB3.out hb5)
    clear hb5 hv5
    go_wp2_with fail
    refine (build_any false _ (x % y) _ HR5.out (by omega)).mono ?_
    rintro e w6 ⟨v6, rfl, hv6, hb6⟩
    rw [show sgn false (x % y) = a % b from (dm_false_false SA.out SB.out hy0).2] at hv6
    obtain ⟨b6, A6, k6, c6, rfl, H6⟩ := hv6.open_
    have H5' := Lib.hid (H5.out.into hb6)
    have hB6 := step_below hB5.out hb6
    obtain ⟨hc0, hc1, hf0, hf1, hs⟩ := box_in HH.out.2.2.1 hB6
    obtain ⟨gc0, gc1, gf0, gf1, gs⟩ := box_in HH.out.2.2.2 hB6
    have HE := Lib.hid (box_end2 (x' := .bool b5) (y' := .slice A5 k5 c5) (x'' := .bool b6) (y'' := .slice A6 k6 c6) HH.out.2.2.1 HH.out.2.2.2 hB6 H5'.out H6.out HW.out (by omega) (by omega))
    clear hB6 hb6 hv6
    go_wp2
    refine bodyPost_ret (v := .tuple #[.agg #[.bool b5, .slice A5 k5 c5], .agg #[.bool b6, .slice A6 k6 c6], .int .i64 0]) (by simp [results, Tryd.results31, go_sem, hs, hc0, hc1, gs, gc0, gc1]) rfl ⟨_, _, rfl, HE.out.1, HE.out.2.1, HE.out.2.2⟩
  · have HH := Lib.hid (heap4 w (.cells #[.bool false, .slice A (len x) c] 27) (.cells #[.bool true, .slice B (len y) d] 27) (.cells #[.bool false, .slice none 0 0] 27) (.cells #[.bool false, .slice none 0 0] 27))
    have HW := Lib.hid (below4 w (.cells #[.bool false, .slice A (len x) c] 27) (.cells #[.bool true, .slice B (len y) d] 27) (.cells #[.bool false, .slice none 0 0] 27) (.cells #[.bool false, .slice none 0 0] 27))
    go_enter Tryd.func31, Tryd.ntmps31
    go_wp2_with fail
    generalize (((w.alloc (.cells #[.bool false, .slice A (len x) c] 27)).alloc (.cells #[.bool true, .slice B (len y) d] 27)).alloc (.cells #[.bool false, .slice none 0 0] 27)).alloc (.cells #[.bool false, .slice none 0 0] 27) = W at *
    refine (parts_is _ a x false _ (HIA.out.into HW.out) HX.out HP.out (by omega)).mono ?_
    rintro e w1 ⟨A1, c1, rfl, H1, hb1⟩
    have hB1 := Lib.hid hb1
    obtain ⟨hc0, hc1, hf0, hf1, hs⟩ := box_in HH.out.2.1 hb1
    clear hb1
    go_wp2_with fail
    refine (parts_is _ b y true _ (HIB.out.into (step_below HW.out hB1.out)) HY.out HQ.out (by omega)).mono ?_
    rintro e w2 ⟨B1, d1, rfl, H2, hb2⟩
    have hB2 := Lib.hid (step_below hB1.out hb2)
    have H1' := Lib.hid (H1.out.into hb2)
    clear hb2 hc0 hc1 hf0 hf1 hs hB1 H1
    have hle : len (x / y) ≤ len x := len_mono (Nat.div_le_self x y)
    have hle2 : len (x % y) ≤ len y := len_mono (Nat.le_of_lt (Nat.mod_lt x hy0))
    have hyn : ((len y : Int) == 0) = false := by
      have : len y ≠ 0 := fun h => by have := len_eq_zero.1 h; omega
      simp; omega
    go_wp2_with fail
    refine (HDD.out _ _ _ H1'.out H2.out).mono ?_
    rintro e w3 ⟨vq, vr, rfl, hvq, hvr, hb3⟩
    obtain ⟨Aq, cq, rfl, Hq⟩ := hvq.open_
    obtain ⟨Ar, cr, rfl, Hr⟩ := hvr.open_
    have H2' := Lib.hid (H2.out.into hb3)
    have hB3 := Lib.hid (step_below hB2.out hb3)
    clear hb3 hvq hvr hB2
    go_wp2_with fail
    refine (build_any true _ (x / y) _ Hq.out (by first | omega | (have := len_add (x / y) 1; have := len_le_one (show 1 < 4294967296 by decide); omega))).mono ?_
    rintro e w5 ⟨v5, rfl, hv5, hb5⟩
    rw [show sgn true (x / y) = a / b from (dm_false_true SA.out SB.out hy0).1] at hv5
    obtain ⟨b5, A5, k5, c5, rfl, H5⟩ := hv5.open_
    have HR5 := Lib.hid (Hr.out.into hb5)
    have hB5 := Lib.hid (step_below hB3.out hb5)
    clear hb5 hv5
    go_wp2_with fail
    refine (build_any false _ (x % y) _ HR5.out (by omega)).mono ?_
    rintro e w6 ⟨v6, rfl, hv6, hb6⟩
    rw [show sgn false (x % y) = a % b from (dm_false_true SA.out SB.out hy0).2] at hv6
    obtain ⟨b6, A6, k6, c6, rfl, H6⟩ := hv6.open_
    have H5' := Lib.hid (H5.out.into hb6)
    have hB6 := step_below hB5.out hb6
    obtain ⟨hc0, hc1, hf0, hf1, hs⟩ := box_in HH.out.2.2.1 hB6
    obtain ⟨gc0, gc1, gf0, gf1, gs⟩ := box_in HH.out.2.2.2 hB6
    have HE := Lib.hid (box_end2 (x' := .bool b5) (y' := .slice A5 k5 c5) (x'' := .bool b6) (y'' := .slice A6 k6 c6) HH.out.2.2.1 HH.out.2.2.2 hB6 H5'.out H6.out HW.out (by omega) (by omega))
    clear hB6 hb6 hv6
    go_wp2
    refine bodyPost_ret (v := .tuple #[.agg #[.bool b5, .slice A5 k5 c5], .agg #[.bool b6, .slice A6 k6 c6], .int .i64 0]) (by simp [results, Tryd.results31, go_sem, hs, hc0, hc1, gs, gc0, gc1]) rfl ⟨_, _, rfl, HE.out.1, HE.out.2.1, HE.out.2.2⟩
  · have HH := Lib.hid (heap4 w (.cells #[.bool true, .slice A (len x) c] 27) (.cells #[.bool false, .slice B (len y) d] 27) (.cells #[.bool false, .slice none 0 0] 27) (.cells #[.bool false, .slice none 0 0] 27))
    have HW := Lib.hid (below4 w (.cells #[.bool true, .slice A (len x) c] 27) (.cells #[.bool false, .slice B (len y) d] 27) (.cells #[.bool false, .slice none 0 0] 27) (.cells #[.bool false, .slice none 0 0] 27))
    go_enter Tryd.func31, Tryd.ntmps31
    go_wp2_with fail
    generalize (((w.alloc (.cells #[.bool true, .slice A (len x) c] 27)).alloc (.cells #[.bool false, .slice B (len y) d] 27)).alloc (.cells #[.bool false, .slice none 0 0] 27)).alloc (.cells #[.bool false, .slice none 0 0] 27) = W at *
    refine (parts_is _ a x true _ (HIA.out.into HW.out) HX.out HP.out (by omega)).mono ?_
    rintro e w1 ⟨A1, c1, rfl, H1, hb1⟩
    have hB1 := Lib.hid hb1
    obtain ⟨hc0, hc1, hf0, hf1, hs⟩ := box_in HH.out.2.1 hb1
    clear hb1
    go_wp2_with fail
    refine (parts_is _ b y false _ (HIB.out.into (step_below HW.out hB1.out)) HY.out HQ.out (by omega)).mono ?_
    rintro e w2 ⟨B1, d1, rfl, H2, hb2⟩
    have hB2 := Lib.hid (step_below hB1.out hb2)
    have H1' := Lib.hid (H1.out.into hb2)
    clear hb2 hc0 hc1 hf0 hf1 hs hB1 H1
    have hle : len (x / y) ≤ len x := len_mono (Nat.div_le_self x y)
    have hle2 : len (x % y) ≤ len y := len_mono (Nat.le_of_lt (Nat.mod_lt x hy0))
    have hyn : ((len y : Int) == 0) = false := by
      have : len y ≠ 0 := fun h => by have := len_eq_zero.1 h; omega
      simp; omega
    go_wp2_with fail
    refine (HDD.out _ _ _ H1'.out H2.out).mono ?_
    rintro e w3 ⟨vq, vr, rfl, hvq, hvr, hb3⟩
    obtain ⟨Aq, cq, rfl, Hq⟩ := hvq.open_
    obtain ⟨Ar, cr, rfl, Hr⟩ := hvr.open_
    have H2' := Lib.hid (H2.out.into hb3)
    have hB3 := Lib.hid (step_below hB2.out hb3)
    clear hb3 hvq hvr hB2
    rcases Nat.eq_zero_or_pos (x % y) with hr0 | hr0
    · have hp : decide ((0 : Int) < (len (x % y) : Int)) = false := by rw [hr0, len_zero]; rfl
      have hp' : decide (0 < len (x % y)) = false := by rw [hr0, len_zero]; rfl
      have HR0 := Lib.hid hr0
      clear hr0
      go_wp2_with fail
      refine (build_any true _ (x / y) _ Hq.out (by first | omega | (have := len_add (x / y) 1; have := len_le_one (show 1 < 4294967296 by decide); omega))).mono ?_
      rintro e w5 ⟨v5, rfl, hv5, hb5⟩
      rw [show sgn true (x / y) = a / b from (dm0_true_false SA.out SB.out hy0 HR0.out).1] at hv5
      obtain ⟨b5, A5, k5, c5, rfl, H5⟩ := hv5.open_
      have HR5 := Lib.hid (Hr.out.into hb5)
      have hB5 := Lib.hid (step_below hB3.out hb5)
      clear hb5 hv5
      go_wp2_with fail
      refine (build_any false _ (x % y) _ HR5.out (by omega)).mono ?_
      rintro e w6 ⟨v6, rfl, hv6, hb6⟩
      rw [show sgn false (x % y) = a % b from (dm0_true_false SA.out SB.out hy0 HR0.out).2] at hv6
      obtain ⟨b6, A6, k6, c6, rfl, H6⟩ := hv6.open_
      have H5' := Lib.hid (H5.out.into hb6)
      have hB6 := step_below hB5.out hb6
      obtain ⟨hc0, hc1, hf0, hf1, hs⟩ := box_in HH.out.2.2.1 hB6
      obtain ⟨gc0, gc1, gf0, gf1, gs⟩ := box_in HH.out.2.2.2 hB6
      have HE := Lib.hid (box_end2 (x' := .bool b5) (y' := .slice A5 k5 c5) (x'' := .bool b6) (y'' := .slice A6 k6 c6) HH.out.2.2.1 HH.out.2.2.2 hB6 H5'.out H6.out HW.out (by omega) (by omega))
      clear hB6 hb6 hv6
      go_wp2
      refine bodyPost_ret (v := .tuple #[.agg #[.bool b5, .slice A5 k5 c5], .agg #[.bool b6, .slice A6 k6 c6], .int .i64 0]) (by simp [results, Tryd.results31, go_sem, hs, hc0, hc1, gs, gc0, gc1]) rfl ⟨_, _, rfl, HE.out.1, HE.out.2.1, HE.out.2.2⟩
    · have hp' : decide (0 < len (x % y)) = true := by
        have : len (x % y) ≠ 0 := fun h => by have := len_eq_zero.1 h; omega
        simp; omega
      have hrl := Nat.mod_lt x hy0
      go_wp2_with fail
      have hm1 := one_nat w3
      refine (sum_any _ _ (x / y) 1 _ (Hq.out.into (below_alloc _ _)) hm1 (by omega) (by have := len_le_one (show 1 < 4294967296 by decide); omega)).mono ?_
      rintro e w4 ⟨v4, rfl, hv4, hb4⟩
      obtain ⟨A4, c4, rfl, H4⟩ := hv4.open_
      have hB4 := Lib.hid (step_below hB3.out (step_below (below_alloc _ _) hb4))
      have Hr' := Lib.hid (Hr.out.into (step_below (below_alloc _ _) hb4))
      have H2'' := Lib.hid (H2'.out.into (step_below (below_alloc _ _) hb4))
      clear hb4 hv4 hm1
      go_wp2_with fail
      refine (difference_any _ _ y (x % y) _ H2''.out Hr'.out (by omega) (by omega)).mono ?_
      rintro e w4' ⟨v4', rfl, hv4', hb4'⟩
      obtain ⟨A4', c4', rfl, H4'⟩ := hv4'.open_
      have hB4' := Lib.hid (step_below hB4.out hb4')
      have H4'' := Lib.hid (H4.out.into hb4')
      have hle3 : len (y - x % y) ≤ len y := len_mono (Nat.sub_le _ _)
      clear hb4' hv4'
      go_wp2_with fail
      refine (build_any true _ (x / y + 1) _ H4''.out (by first | omega | (have := len_add (x / y) 1; have := len_le_one (show 1 < 4294967296 by decide); omega))).mono ?_
      rintro e w5 ⟨v5, rfl, hv5, hb5⟩
      rw [show sgn true (x / y + 1) = a / b from (dm1_true_false SA.out SB.out hy0 hr0).1] at hv5
      obtain ⟨b5, A5, k5, c5, rfl, H5⟩ := hv5.open_
      have HR5 := Lib.hid (H4'.out.into hb5)
      have hB5 := Lib.hid (step_below hB4'.out hb5)
      clear hb5 hv5
      go_wp2_with fail
      refine (build_any false _ (y - x % y) _ HR5.out (by omega)).mono ?_
      rintro e w6 ⟨v6, rfl, hv6, hb6⟩
      rw [show sgn false (y - x % y) = a % b from (dm1_true_false SA.out SB.out hy0 hr0).2] at hv6
      obtain ⟨b6, A6, k6, c6, rfl, H6⟩ := hv6.open_
      have H5' := Lib.hid (H5.out.into hb6)
      have hB6 := step_below hB5.out hb6
      obtain ⟨hc0, hc1, hf0, hf1, hs⟩ := box_in HH.out.2.2.1 hB6
      obtain ⟨gc0, gc1, gf0, gf1, gs⟩ := box_in HH.out.2.2.2 hB6
      have HE := Lib.hid (box_end2 (x' := .bool b5) (y' := .slice A5 k5 c5) (x'' := .bool b6) (y'' := .slice A6 k6 c6) HH.out.2.2.1 HH.out.2.2.2 hB6 H5'.out H6.out HW.out (by omega) (by omega))
      clear hB6 hb6 hv6
      go_wp2
      refine bodyPost_ret (v := .tuple #[.agg #[.bool b5, .slice A5 k5 c5], .agg #[.bool b6, .slice A6 k6 c6], .int .i64 0]) (by simp [results, Tryd.results31, go_sem, hs, hc0, hc1, gs, gc0, gc1]) rfl ⟨_, _, rfl, HE.out.1, HE.out.2.1, HE.out.2.2⟩
  · have HH := Lib.hid (heap4 w (.cells #[.bool true, .slice A (len x) c] 27) (.cells #[.bool true, .slice B (len y) d] 27) (.cells #[.bool false, .slice none 0 0] 27) (.cells #[.bool false, .slice none 0 0] 27))
    have HW := Lib.hid (below4 w (.cells #[.bool true, .slice A (len x) c] 27) (.cells #[.bool true, .slice B (len y) d] 27) (.cells #[.bool false, .slice none 0 0] 27) (.cells #[.bool false, .slice none 0 0] 27))
    go_enter Tryd.func31, Tryd.ntmps31
    go_wp2_with fail
    generalize (((w.alloc (.cells #[.bool true, .slice A (len x) c] 27)).alloc (.cells #[.bool true, .slice B (len y) d] 27)).alloc (.cells #[.bool false, .slice none 0 0] 27)).alloc (.cells #[.bool false, .slice none 0 0] 27) = W at *
    refine (parts_is _ a x true _ (HIA.out.into HW.out) HX.out HP.out (by omega)).mono ?_
    rintro e w1 ⟨A1, c1, rfl, H1, hb1⟩
    have hB1 := Lib.hid hb1
    obtain ⟨hc0, hc1, hf0, hf1, hs⟩ := box_in HH.out.2.1 hb1
    clear hb1
    go_wp2_with fail
    refine (parts_is _ b y true _ (HIB.out.into (step_below HW.out hB1.out)) HY.out HQ.out (by omega)).mono ?_
    rintro e w2 ⟨B1, d1, rfl, H2, hb2⟩
    have hB2 := Lib.hid (step_below hB1.out hb2)
    have H1' := Lib.hid (H1.out.into hb2)
    clear hb2 hc0 hc1 hf0 hf1 hs hB1 H1
    have hle : len (x / y) ≤ len x := len_mono (Nat.div_le_self x y)
    have hle2 : len (x % y) ≤ len y := len_mono (Nat.le_of_lt (Nat.mod_lt x hy0))
    have hyn : ((len y : Int) == 0) = false := by
      have : len y ≠ 0 := fun h => by have := len_eq_zero.1 h; omega
      simp; omega
    go_wp2_with fail
    refine (HDD.out _ _ _ H1'.out H2.out).mono ?_
    rintro e w3 ⟨vq, vr, rfl, hvq, hvr, hb3⟩
    obtain ⟨Aq, cq, rfl, Hq⟩ := hvq.open_
    obtain ⟨Ar, cr, rfl, Hr⟩ := hvr.open_
    have H2' := Lib.hid (H2.out.into hb3)
    have hB3 := Lib.hid (step_below hB2.out hb3)
    clear hb3 hvq hvr hB2
    rcases Nat.eq_zero_or_pos (x % y) with hr0 | hr0
    · have hp : decide ((0 : Int) < (len (x % y) : Int)) = false := by rw [hr0, len_zero]; rfl
      have hp' : decide (0 < len (x % y)) = false := by rw [hr0, len_zero]; rfl
      have HR0 := Lib.hid hr0
      clear hr0
      go_wp2_with fail
      refine (build_any false _ (x / y) _ Hq.out (by first | omega | (have := len_add (x / y) 1; have := len_le_one (show 1 < 4294967296 by decide); omega))).mono ?_
      rintro e w5 ⟨v5, rfl, hv5, hb5⟩
      rw [show sgn false (x / y) = a / b from (dm0_true_true SA.out SB.out hy0 HR0.out).1] at hv5
      obtain ⟨b5, A5, k5, c5, rfl, H5⟩ := hv5.open_
      have HR5 := Lib.hid (Hr.out.into hb5)
      have hB5 := Lib.hid (step_below hB3.out hb5)
      clear hb5 hv5
      go_wp2_with fail
      refine (build_any false _ (x % y) _ HR5.out (by omega)).mono ?_
      rintro e w6 ⟨v6, rfl, hv6, hb6⟩
      rw [show sgn false (x % y) = a % b from (dm0_true_true SA.out SB.out hy0 HR0.out).2] at hv6
      obtain ⟨b6, A6, k6, c6, rfl, H6⟩ := hv6.open_
      have H5' := Lib.hid (H5.out.into hb6)
      have hB6 := step_below hB5.out hb6
      obtain ⟨hc0, hc1, hf0, hf1, hs⟩ := box_in HH.out.2.2.1 hB6
      obtain ⟨gc0, gc1, gf0, gf1, gs⟩ := box_in HH.out.2.2.2 hB6
      have HE := Lib.hid (box_end2 (x' := .bool b5) (y' := .slice A5 k5 c5) (x'' := .bool b6) (y'' := .slice A6 k6 c6) HH.out.2.2.1 HH.out.2.2.2 hB6 H5'.out H6.out HW.out (by omega) (by omega))
      clear hB6 hb6 hv6
      go_wp2
      refine bodyPost_ret (v := .tuple #[.agg #[.bool b5, .slice A5 k5 c5], .agg #[.bool b6, .slice A6 k6 c6], .int .i64 0]) (by simp [results, Tryd.results31, go_sem, hs, hc0, hc1, gs, gc0, gc1]) rfl ⟨_, _, rfl, HE.out.1, HE.out.2.1, HE.out.2.2⟩
    · have hp' : decide (0 < len (x % y)) = true := by
        have : len (x % y) ≠ 0 := fun h => by have := len_eq_zero.1 h; omega
        simp; omega
      have hrl := Nat.mod_lt x hy0
      go_wp2_with fail
      have hm1 := one_nat w3
      refine (sum_any _ _ (x / y) 1 _ (Hq.out.into (below_alloc _ _)) hm1 (by omega) (by have := len_le_one (show 1 < 4294967296 by decide); omega)).mono ?_
      rintro e w4 ⟨v4, rfl, hv4, hb4⟩
      obtain ⟨A4, c4, rfl, H4⟩ := hv4.open_
      have hB4 := Lib.hid (step_below hB3.out (step_below (below_alloc _ _) hb4))
      have Hr' := Lib.hid (Hr.out.into (step_below (below_alloc _ _) hb4))
      have H2'' := Lib.hid (H2'.out.into (step_below (below_alloc _ _) hb4))
      clear hb4 hv4 hm1
      go_wp2_with fail
      refine (difference_any _ _ y (x % y) _ H2''.out Hr'.out (by omega) (by omega)).mono ?_
      rintro e w4' ⟨v4', rfl, hv4', hb4'⟩
      obtain ⟨A4', c4', rfl, H4'⟩ := hv4'.open_
      have hB4' := Lib.hid (step_below hB4.out hb4')
      have H4'' := Lib.hid (H4.out.into hb4')
      have hle3 : len (y - x % y) ≤ len y := len_mono (Nat.sub_le _ _)
      clear hb4' hv4'
      go_wp2_with fail
      refine (build_any false _ (x / y + 1) _ H4''.out (by first | omega | (have := len_add (x / y) 1; have := len_le_one (show 1 < 4294967296 by decide); omega))).mono ?_
      rintro e w5 ⟨v5, rfl, hv5, hb5⟩
      rw [show sgn false (x / y + 1) = a / b from (dm1_true_true SA.out SB.out hy0 hr0).1] at hv5
      obtain ⟨b5, A5, k5, c5, rfl, H5⟩ := hv5.open_
      have HR5 := Lib.hid (H4'.out.into hb5)
      have hB5 := Lib.hid (step_below hB4'.out hb5)
      clear hb5 hv5
      go_wp2_with fail
      refine (build_any false _ (y - x % y) _ HR5.out (by omega)).mono ?_
      rintro e w6 ⟨v6, rfl, hv6, hb6⟩
      rw [show sgn false (y - x % y) = a % b from (dm1_true_true SA.out SB.out hy0 hr0).2] at hv6
      obtain ⟨b6, A6, k6, c6, rfl, H6⟩ := hv6.open_
      have H5' := Lib.hid (H5.out.into hb6)
      have hB6 := step_below hB5.out hb6
      obtain ⟨hc0, hc1, hf0, hf1, hs⟩ := box_in HH.out.2.2.1 hB6
      obtain ⟨gc0, gc1, gf0, gf1, gs⟩ := box_in HH.out.2.2.2 hB6
      have HE := Lib.hid (box_end2 (x' := .bool b5) (y' := .slice A5 k5 c5) (x'' := .bool b6) (y'' := .slice A6 k6 c6) HH.out.2.2.1 HH.out.2.2.2 hB6 H5'.out H6.out HW.out (by omega) (by omega))
      clear hB6 hb6 hv6
      go_wp2
      refine bodyPost_ret (v := .tuple #[.agg #[.bool b5, .slice A5 k5 c5], .agg #[.bool b6, .slice A6 k6 c6], .int .i64 0]) (by simp [results, Tryd.results31, go_sem, hs, hc0, hc1, gs, gc0, gc1]) rfl ⟨_, _, rfl, HE.out.1, HE.out.2.1, HE.out.2.2⟩

end Go.Proofs.YtjajmonhcnmidaaDoor
/- Walks: DivMod by zero, and of small numbers. -/
namespace Go.Proofs.YtjajmonhcnmidaaDoor
open Go.RowKit

set_option maxHeartbeats 1600000 in
theorem DivMod_zero (va vb : Value) (a : Int) (w : World) (ha : IntAt w va a) (hb : IntAt w vb 0) (hla : len a.natAbs ≤ 549755813888) :
    Calls Tryd.prog 31 #[va, vb] w (GivesDM 0 0 3 w) := by
  obtain ⟨x, hx⟩ : ∃ n, a.natAbs = n := ⟨_, rfl⟩
  obtain ⟨p, hp⟩ : ∃ s, decide (a < 0) = s := ⟨_, rfl⟩
  rw [hx] at hla
  obtain ⟨A, c, rfl, HA⟩ := ha.parts_ hx hp
  obtain ⟨B, d, rfl, HB⟩ := hb.parts_ (n := 0) (b := false) rfl rfl
  have HIA := Lib.hid (IntAt.back HA.out hx hp)
  have HIB := Lib.hid (IntAt.back (z := 0) HB.out rfl rfl)
  have HX := Lib.hid hx
  have HP := Lib.hid hp
  have HH := Lib.hid (heap4 w (.cells #[.bool p, .slice A (len x) c] 27) (.cells #[.bool false, .slice B (len 0) d] 27) (.cells #[.bool false, .slice none 0 0] 27) (.cells #[.bool false, .slice none 0 0] 27))
  have HW := Lib.hid (below4 w (.cells #[.bool p, .slice A (len x) c] 27) (.cells #[.bool false, .slice B (len 0) d] 27) (.cells #[.bool false, .slice none 0 0] 27) (.cells #[.bool false, .slice none 0 0] 27))
  clear hx hp ha hb HA HB
  go_enter Tryd.func31, Tryd.ntmps31
  go_wp2_with fail
  generalize (((w.alloc (.cells #[.bool p, .slice A (len x) c] 27)).alloc (.cells #[.bool false, .slice B (len 0) d] 27)).alloc (.cells #[.bool false, .slice none 0 0] 27)).alloc (.cells #[.bool false, .slice none 0 0] 27) = W at *
  refine (parts_is _ a x p _ (HIA.out.into HW.out) HX.out HP.out (by omega)).mono ?_
  rintro e w1 ⟨A1, c1, rfl, H1, hb1⟩
  have hB1 := Lib.hid hb1
  obtain ⟨hc0, hc1, hf0, hf1, hs⟩ := box_in HH.out.2.1 hb1
  clear hb1
  go_wp2_with fail
  refine (parts_is _ 0 0 false _ (HIB.out.into (step_below HW.out hB1.out)) rfl rfl (by rw [len_zero]; omega)).mono ?_
  rintro e w2 ⟨B1, d1, rfl, H2, hb2⟩
  rw [len_zero]
  have hB2 := Lib.hid (step_below hB1.out hb2)
  clear hb2 hc0 hc1 hf0 hf1 hs hB1 H1
  obtain ⟨hc0, hc1, hf0, hf1, hs⟩ := box_in HH.out.2.2.1 hB2.out
  obtain ⟨gc0, gc1, gf0, gf1, gs⟩ := box_in HH.out.2.2.2 hB2.out
  have HE := Lib.hid (box_end2 (x' := .bool false) (y' := .slice none 0 0) (x'' := .bool false) (y'' := .slice none 0 0) HH.out.2.2.1 HH.out.2.2.2 hB2.out (IntAt.zero w2 none 0) (IntAt.zero w2 none 0) HW.out (by omega) (by omega))
  go_wp2
  refine bodyPost_ret (v := .tuple #[.agg #[.bool false, .slice none 0 0], .agg #[.bool false, .slice none 0 0], .int .i64 3]) (by simp [results, Tryd.results31, go_sem, hs, hc0, hc1, gs, gc0, gc1]) rfl ⟨_, _, rfl, HE.out.1, HE.out.2.1, HE.out.2.2⟩

theorem DivMod_small (va vb : Value) (a b : Int) (w : World) (ha : IntAt w va a) (hb : IntAt w vb b) (ha64 : a.natAbs < 18446744073709551616) (hb64 : b.natAbs < 18446744073709551616) (hb0 : b ≠ 0) :
    Calls Tryd.prog 31 #[va, vb] w (GivesDM (a / b) (a % b) 0 w) := by
  have hla := len_le_two ha64
  have hlb := len_le_two hb64
  refine DivMod_from va vb a b w ha hb (by omega) (by omega) hb0 fun u v W hu hv => ?_
  rcases Nat.lt_or_ge a.natAbs b.natAbs with hlt | hge
  · exact divide_lt u v _ _ W hu hv (by omega) (by omega) hlt
  · exact divide_small u v _ _ W hu hv (by omega) hge ha64
end Go.Proofs.YtjajmonhcnmidaaDoor
/- Walks: Small. -/
namespace Go.Proofs.YtjajmonhcnmidaaDoor
open Go.RowKit

def inI64 (z : Int) : Bool := decide (-9223372036854775808 ≤ z ∧ z ≤ 9223372036854775807)
def GivesSmall (z : Int) (w : World) (e : Ending) (w' : World) : Prop := e = .returned (.tuple #[.int .i64 (if inI64 z then z else 0), .bool (inI64 z)]) ∧ Below w.heap.size w w'
theorem GivesSmall.yes {z r : Int} {w w' : World} (h0 : -9223372036854775808 ≤ z) (h1 : z ≤ 9223372036854775807) (hr : r = z) (hb : Below w.heap.size w w') : GivesSmall z w (.returned (.tuple #[.int .i64 r, .bool true])) w' := by
  subst hr
  have e : inI64 r = true := by simp [inI64, h0, h1]
  exact ⟨by rw [e]; rfl, hb⟩
theorem GivesSmall.no {z : Int} {w w' : World} (h0 : z < -9223372036854775808 ∨ 9223372036854775807 < z) (hb : Below w.heap.size w w') : GivesSmall z w (.returned (.tuple #[.int .i64 0, .bool false])) w' := by
  have e : inI64 z = false := by simp [inI64]; omega
  exact ⟨by rw [e]; rfl, hb⟩

set_option maxHeartbeats 1600000 in
theorem Small_any (v : Value) (z : Int) (w : World) (h : IntAt w v z) (hl : len z.natAbs ≤ 1099511627776) :
    Calls Tryd.prog 13 #[v] w (GivesSmall z w) := by
  obtain ⟨x, hx⟩ : ∃ n, z.natAbs = n := ⟨_, rfl⟩
  obtain ⟨p, hp⟩ : ∃ s, decide (z < 0) = s := ⟨_, rfl⟩
  rw [hx] at hl
  have sa := sgn_of z
  rw [hx, hp] at sa
  obtain ⟨A, c, rfl, HA⟩ := h.parts_ hx hp
  have HIA := Lib.hid (IntAt.back HA.out hx hp)
  have HX := Lib.hid hx
  have HP := Lib.hid hp
  have SA := Lib.hid sa
  clear hx hp h HA sa
  go_enter Tryd.func13, Tryd.ntmps13
  go_wp2_with fail
  refine (parts_is _ z x p _ (HIA.out.into (below_alloc _ _)) HX.out HP.out (by omega)).mono ?_
  rintro e w1 ⟨A1, c1, rfl, H1, hb1⟩
  have hB1 := Lib.hid (step_below (below_alloc _ _) hb1)
  clear hb1
  rcases Nat.lt_or_ge 2 (len x) with h2 | h2
  · have hd : decide ((2 : Int) < (len x : Int)) = true := by simp; omega
    have hd' : decide (2 < len x) = true := by simp; omega
    have hbig := pow_le_of_len h2
    rw [show 4294967296 ^ 2 = 18446744073709551616 from rfl] at hbig
    have hno : z < -9223372036854775808 ∨ 9223372036854775807 < z := by have := HX.out; omega
    have HN := Lib.hid hno
    clear hno hbig
    go_wp2
    exact bodyPost_ret (v := .tuple #[.int .i64 0, .bool false]) (by simp [results, Tryd.results13, go_sem]) rfl (GivesSmall.no HN.out hB1.out)
  · have hd : decide ((2 : Int) < (len x : Int)) = false := by simp; omega
    have hd' : decide (2 < len x) = false := by simp; omega
    have hx64 : x < 18446744073709551616 := by
      have h3 := lt_pow_len x
      have h4 : 4294967296 ^ len x ≤ 4294967296 ^ 2 := Nat.pow_le_pow_right (by decide) h2
      rw [show 4294967296 ^ 2 = 18446744073709551616 from rfl] at h4
      omega
    go_wp2_with fail
    refine (toWord_any A1 c1 x _ H1.out.mem.2.2 hx64).mono ?_
    rintro e w' ⟨rfl, rfl⟩
    rcases Nat.lt_or_ge x 9223372036854775808 with h5 | h5
    · have ha : decide ((x : Int) ≤ 9223372036854775807) = true := by simp; omega
      have ha' : decide (x ≤ 9223372036854775807) = true := by simp; omega
      have hw : IntKind.i64.wrap (x : Int) = (x : Int) := by rw [IntKind.wrap_i64]; omega
      have hw' : IntKind.i64.wrap (-(x : Int)) = -(x : Int) := by rw [IntKind.wrap_i64]; omega
      cases p
      · have hz : (x : Int) = z := SA.out
        have HZ := Lib.hid hz
        clear hz
        go_wp2
        exact bodyPost_ret (v := .tuple #[.int .i64 x, .bool true]) (by simp [results, Tryd.results13, go_sem]) rfl (GivesSmall.yes (by have := HZ.out; omega) (by have := HZ.out; omega) HZ.out hB1.out)
      · have hz : -(x : Int) = z := SA.out
        have HZ := Lib.hid hz
        clear hz
        go_wp2
        exact bodyPost_ret (v := .tuple #[.int .i64 (-(x : Int)), .bool true]) (by simp [results, Tryd.results13, go_sem]) rfl (GivesSmall.yes (by have := HZ.out; omega) (by have := HZ.out; omega) HZ.out hB1.out)
    · have ha : decide ((x : Int) ≤ 9223372036854775807) = false := by simp; omega
      have ha' : decide (x ≤ 9223372036854775807) = false := by simp; omega
      cases p
      · have hz : (x : Int) = z := SA.out
        have HZ := Lib.hid hz
        clear hz
        go_wp2
        exact bodyPost_ret (v := .tuple #[.int .i64 0, .bool false]) (by simp [results, Tryd.results13, go_sem]) rfl (GivesSmall.no (by have := HZ.out; omega) hB1.out)
      · have hz : -(x : Int) = z := SA.out
        have HZ := Lib.hid hz
        clear hz
        by_cases h6 : x = 9223372036854775808
        · subst h6
          go_wp2
          exact bodyPost_ret (v := .tuple #[.int .i64 (-9223372036854775808), .bool true]) (by simp [results, Tryd.results13, go_sem]) rfl (GivesSmall.yes (by have := HZ.out; omega) (by have := HZ.out; omega) HZ.out hB1.out)
        · have h7 : ((x : Int) == 9223372036854775808) = false := by simp; omega
          have h7' : (x == 9223372036854775808) = false := by simp; omega
          go_wp2
          exact bodyPost_ret (v := .tuple #[.int .i64 0, .bool false]) (by simp [results, Tryd.results13, go_sem]) rfl (GivesSmall.no (by have := HZ.out; omega) hB1.out)
end Go.Proofs.YtjajmonhcnmidaaDoor
/- Walks: shorten, which divides a row of limbs in place. -/
namespace Go.Proofs.YtjajmonhcnmidaaDoor
open Go.RowKit

def enc32 (x : Nat) : Value := .int .u32 (x : Int)
/-- Block g begins with the limbs ms. -/
def PRow (w : World) (g : Nat) (ms : List Nat) : Prop := ∃ tl : List Value, w.heap[g]? = some (.cells (ms.map enc32 ++ tl).toArray 38 (0, 0))
theorem PRow.cell {w : World} {g : Nat} {ms : List Nat} (h : PRow w g ms) {i : Nat} (hi : i < ms.length) : w.cell? ⟨g, i, none⟩ = some (.int .u32 (ms[i] : Nat)) ∧ w.frozen? ⟨g, i, none⟩ = false := by
  obtain ⟨tl, h⟩ := h
  refine ⟨?_, frozen_of_row h i⟩
  rw [cell_of_row w g i _ _ (0, 0) h]
  simp [List.getElem?_append, hi, enc32]
theorem PRow.set_ {w : World} {g : Nat} {ms : List Nat} (h : PRow w g ms) {i : Nat} (hi : i < ms.length) (x : Nat) : PRow (w.setCell ⟨g, i, none⟩ (.int .u32 (x : Int))) g (ms.set i x) := by
  obtain ⟨tl, h⟩ := h
  refine ⟨tl, ?_⟩
  have := block_setCell h i (.int .u32 (x : Int))
  rw [this]
  congr 2
  simp [List.set_append, hi, List.map_set, enc32]
theorem PRow.lt {w : World} {g : Nat} {ms : List Nat} (h : PRow w g ms) : g < w.heap.size := by
  obtain ⟨tl, h⟩ := h
  rcases Nat.lt_or_ge g w.heap.size with hlt | hge
  · exact hlt
  · rw [Array.getElem?_eq_none hge] at h; cases h
theorem PRow.mem {w : World} {g : Nat} {ms : List Nat} (h : PRow w g ms) : Mem w w.heap.size (some ⟨g, 0, none⟩) ms := fun _ => ⟨_, rfl, h.lt, by obtain ⟨tl, h⟩ := h; exact ⟨_, _, h⟩, fun j x hx => by
  have hj : j < ms.length := (List.getElem?_eq_some_iff.1 hx).1
  have hx' : ms[j] = x := (List.getElem?_eq_some_iff.1 hx).2
  have e : (⟨g, 0, none⟩ : Addr).add j = ⟨g, j, none⟩ := by
    unfold Addr.add
    split
    · next h0 => rw [h0]
    · simp
  rw [e, (h.cell hj).1, hx']⟩
theorem PRow.take {w : World} {g : Nat} {ms : List Nat} (h : PRow w g ms) (k : Nat) : PRow w g (ms.take k) := by
  obtain ⟨tl, h⟩ := h
  refine ⟨(ms.drop k).map enc32 ++ tl, ?_⟩
  rw [h, ← List.append_assoc, ← List.map_append, List.take_append_drop]
theorem PRow.only {w w' : World} {g g' : Nat} {ms : List Nat} (h : PRow w g ms) (hg : w.grownBy w' (some g')) (hne : g ≠ g') : PRow w' g ms := by
  obtain ⟨tl, h'⟩ := h
  exact ⟨tl, (hg.block g (PRow.lt ⟨tl, h'⟩) (by simpa using hne)).trans h'⟩
theorem PRow.below {w w' : World} {g : Nat} {ms : List Nat} (h : PRow w g ms) (hb : Below w.heap.size w w') : PRow w' g ms := by
  obtain ⟨tl, h'⟩ := h
  exact ⟨tl, (hb.block g (PRow.lt ⟨tl, h'⟩)).trans h'⟩
theorem only_set {w wr : World} {g : Nat} (h : w.grownBy wr (some g)) (i : Nat) (u : Value) : w.grownBy (wr.setCell ⟨g, i, none⟩ u) (some g) :=
  ⟨h.os, h.tape, h.output, by simpa [World.setCell] using h.size, fun k hk hne => (Below.heap_setCell wr _ u k (by simpa using hne)).trans (h.block k hk hne)⟩

/-- The limbs from k on are divided; below k they are as they were. -/
def ShortRel (w : World) (g : Nat) (ms : List Nat) (d : Nat) (wr : World) (k r : Nat) : Prop :=
  ∃ ds : List Nat, ds.length = ms.length ∧ L32 ds ∧ PRow wr g ds ∧ ds.take k = ms.take k ∧ val (ms.drop k) = d * val (ds.drop k) + r ∧ w.grownBy wr (some g)

theorem drop_cons {ms : List Nat} {j : Nat} (h : j < ms.length) : ms.drop j = ms.getD j 0 :: ms.drop (j + 1) := by
  rw [List.drop_eq_getElem_cons h, getD_of_lt h]
theorem ShortRel.step {w wr : World} {g : Nat} {ms : List Nat} {d j r p Q R : Nat} (h : ShortRel w g ms d wr (j + 1) r) (hj : j < ms.length) (hp : ms.getD j 0 = p) (hQ : Q = (r * 4294967296 + p) / d) (hR : R = (r * 4294967296 + p) % d) (hQ32 : Q < 4294967296)
    (v : Int) (hv : v = (Q : Int)) : ShortRel w g ms d (wr.setCell ⟨g, j, none⟩ (.int .u32 v)) j R := by
  subst hv
  obtain ⟨ds, hl, h32, hrow, ht, hd, hg⟩ := h
  refine ⟨ds.set j Q, by simpa using hl, h32.set hQ32, hrow.set_ (by omega) Q, ?_, ?_, only_set hg j _⟩
  · rw [List.take_set_of_le (Nat.le_refl _)]
    have := congrArg (List.take j) ht
    rwa [List.take_take, List.take_take, Nat.min_eq_left (by omega)] at this
  · rw [drop_cons hj, hp, val, hd]
    have e : (ds.set j Q).drop j = Q :: ds.drop (j + 1) := by
      rw [drop_cons (by simp; omega)]
      congr 1
      · simp [List.getD, List.getElem?_set, show j < ds.length by omega]
      · rw [List.drop_set_of_lt (by omega)]
    rw [e, val]
    have h1 := Nat.div_add_mod (r * 4294967296 + p) d
    rw [← hQ, ← hR] at h1
    generalize val (ds.drop (j + 1)) = V at *
    rw [Nat.mul_add, Nat.mul_add, Nat.mul_left_comm d 4294967296 V]
    omega
theorem ShortRel.at_ {w wr : World} {g : Nat} {ms : List Nat} {d j r : Nat} (h : ShortRel w g ms d wr (j + 1) r) (hj : j < ms.length) : wr.cell? ⟨g, j, none⟩ = some (.int .u32 ((ms.getD j 0 : Nat) : Int)) ∧ wr.frozen? ⟨g, j, none⟩ = false := by
  obtain ⟨ds, hl, h32, hrow, ht, hd, hg⟩ := h
  obtain ⟨h1, h2⟩ := hrow.cell (i := j) (by omega)
  refine ⟨?_, h2⟩
  rw [h1]
  have := congrArg (fun l => l.getD j 0) ht
  simp only [List.getD, List.getElem?_take, show j < j + 1 by omega, if_true] at this
  rw [← getD_of_lt (show j < ds.length by omega)]
  simp only [List.getD, this]

theorem or_word (r p : Nat) (hr : r < 4294967296) (hp : p < 4294967296) : bits .or .u64 ((r : Int) * 4294967296) (p : Int) = ((r * 4294967296 + p : Nat) : Int) := by
  have e : (r : Int) * 4294967296 = ((r * 4294967296 : Nat) : Int) := by omega
  rw [e, u64_or_nat _ _ (by omega) (by omega), shl_or _ _ hp]
set_option maxHeartbeats 1600000 in
theorem shorten_any (g n c : Nat) (ms : List Nat) (d : Nat) (w : World) (hn : ms.length = n) (hr : PRow w g ms) (h32 : L32 ms) (hl : n ≤ 4398046511104) (hd0 : 0 < d) (hd : d < 4294967296) :
    Calls Tryd.prog 61 #[.slice (some ⟨g, 0, none⟩) n c, .int .u32 d] w fun e w' => e = .returned (.int .u32 (val ms % d : Nat)) ∧ (∃ ds : List Nat, ds.length = n ∧ L32 ds ∧ val ds = val ms / d ∧ PRow w' g ds) ∧ w.grownBy w' (some g) := by
  have HN := Lib.hid hn
  clear hn
  go_enter Tryd.func61, Tryd.ntmps61
  go_wp2_with fail
  go_loopw [5, 6] (fun rest i wr => ∃ k r : Nat, k ≤ n ∧ i = .int .i64 ((k : Int) - 1) ∧ rest = .int .u64 r ∧ r < d ∧ ShortRel w g ms d wr k r) (fun _ i _ => (intOf i + 1).toNat)
  case atStart => exact ⟨n, 0, Nat.le_refl _, rfl, rfl, hd0, ms, rfl, h32, hr, rfl, by rw [← HN.out, List.drop_length]; simp [val], World.grownBy.refl w _⟩
  case round =>
    obtain ⟨k, r, hk, rfl, rfl, hrd, hrel⟩ := hrel
    rcases Nat.eq_zero_or_pos k with h0 | h0
    · subst h0
      obtain ⟨ds, hl', h32', hrow, ht, hv, hgrow⟩ := hrel
      rw [List.drop_zero, List.drop_zero] at hv
      have HV := Lib.hid hv
      have HL := Lib.hid hl'
      clear hv hl' ht
      go_wp2
      go_ret
      have e1 : val ms % d = r := by rw [HV.out, Nat.add_comm, Nat.add_mul_mod_self_left]; exact Nat.mod_eq_of_lt hrd
      have e2 : val ms / d = val ds := by rw [HV.out, Nat.add_comm, Nat.add_mul_div_left _ _ hd0, Nat.div_eq_of_lt hrd]; omega
      rw [e1, e2]
      exact ⟨rfl, ⟨ds, by rw [HL.out, HN.out], h32', rfl, hrow⟩, hgrow⟩
    · obtain ⟨j, rfl⟩ : ∃ j, k = j + 1 := ⟨k - 1, by omega⟩
      have hj : j < ms.length := by rw [HN.out]; omega
      obtain ⟨hc, hf⟩ := hrel.at_ hj
      have hp := h32.at_ j
      obtain ⟨p, hpe⟩ : ∃ p, ms.getD j 0 = p := ⟨_, rfl⟩
      rw [hpe] at hc hp
      have hT : r * 4294967296 + p < d * 4294967296 := by omega
      have hor : bits .or .u64 ((r : Int) * 4294967296) (p : Int) = ((r * 4294967296 + p : Nat) : Int) := by
        exact or_word r p (by omega) hp
      have hQ32 : (r * 4294967296 + p) / d < 4294967296 := Nat.div_lt_of_lt_mul hT
      have hR : (r * 4294967296 + p) % d < d := Nat.mod_lt _ hd0
      have HS := Lib.hid (hrel.step hj hpe rfl rfl hQ32 _ rfl)
      have hT64 : r * 4294967296 + p < 18446744073709551616 := by omega
      generalize r * 4294967296 + p = T at *
      have hq : IntKind.u64.wrap ((T : Int) / (d : Int)) = ((T / d : Nat) : Int) := wrap_u64_nat _ (by omega)
      have hrm : (T : Int).tmod (d : Int) = ((T % d : Nat) : Int) := rfl
      generalize T / d = Q at *
      generalize T % d = R at *
      have hdn : ¬ d = 0 := by omega
      have hcast : ((j + 1 : Nat) : Int) - 1 = (j : Int) := by omega
      have HPE := Lib.hid hpe
      have HC := Lib.hid hcast
      clear hrel hpe hcast
      rw [HC.out]
      go_wp2
      go_roundw
      case rel => exact ⟨j, R, by omega, by first | rfl | go_num, by first | rfl | go_num, hR, HS.out⟩
      case measure => simp [intOf]
end Go.Proofs.YtjajmonhcnmidaaDoor
/- Walks: slices.Clone of limbs. -/
namespace Go.Proofs.YtjajmonhcnmidaaDoor
open Go.RowKit

theorem Owns.head {w : World} {base : Nat} {v : Value} {ms : List Nat} (h : Owns w base v ms) (h0 : 0 < ms.length) : ∃ g c, v = .slice (some ⟨g, 0, none⟩) ms.length c := by
  obtain ⟨h1, h2⟩ := h
  rcases h2 with ⟨_, h3⟩ | ⟨g', cap, cur, rfl, _⟩
  · omega
  · exact ⟨g', cap, rfl⟩
theorem Owns.prow {w : World} {base g n c : Nat} {ms : List Nat} (h : Owns w base (.slice (some ⟨g, 0, none⟩) n c) ms) : PRow w g ms ∧ n = ms.length ∧ n ≤ c ∧ base ≤ g := by
  obtain ⟨h1, h2⟩ := h
  rcases h2 with ⟨h3, _⟩ | ⟨g', cap, cur, h3, hb, hg, hn, hm, hs, ht⟩
  · cases h3
  · injection h3 with e1 e2 e3
    injection e1 with e1
    injection e1 with e1
    subst e1 e2 e3
    refine ⟨⟨cur.toList.drop (ms.length * 1), ?_⟩, rfl, hn, hb⟩
    rw [hg]
    have : ms.map enc32 = cur.toList.take (ms.length * 1) := ht.symm
    rw [this, List.take_append_drop, Array.toArray_toList]

set_option maxRecDepth 100000 in
set_option maxHeartbeats 1000000 in
theorem Clone_any (ad : Addr) (n c : Nat) (w : World) (h : NatAt w (.slice (some ad) (len n) c) n) (hl : len n ≤ 4398046511104) (h0 : 0 < len n) :
    Calls Tryd.prog 58 #[.slice (some ad) (len n) c] w fun e w' => ∃ g c', e = .returned (.slice (some ⟨g, 0, none⟩) (len n) c') ∧ PRow w' g (limbs n) ∧ w.heap.size ≤ g ∧ len n ≤ c' ∧ Below w.heap.size w w' := by
  have hnil := fun W : World => Lib.run_eql_slice_nil (P := Tryd.prog) W 22 38 (some ad) (len n) c 0 0 Tryd.underlying22
  have ho := Lib.hid (Owns.empty w (Nat.le_refl _))
  have hr := Lib.hid (h.mem.2.2.raw.below (below_alloc w (.cells #[] 38)))
  go_enter Tryd.func58, Tryd.ntmps58
  go_wp2_with (at_builtin; refine wpList_append_limbs rfl (.tmp 5) (.tmp 6) rfl w.heap.size (.slice (some ⟨w.heap.size, 0, none⟩) 0 0) [] rfl ho.out w.heap.size (some ad) (len n) c (limbs n) rfl hr.out rfl (by simp; omega) (by simp) ?_; rintro v' w1 hown hgrow hat; have HB := Lib.hid ((below_alloc w (.cells #[] 38)).grown hgrow (by simp) (by intro k hk; simp [Value.ownBlock] at hk; omega)); clear hgrow hat)
  go_ret
  obtain ⟨g, c', hv⟩ := hown.head (by simpa [len_limbs] using h0)
  rw [hv] at hown
  obtain ⟨hp, _, hle, hbg⟩ := hown.prow
  rw [List.nil_append] at hp
  refine ⟨g, c', ?_, hp, hbg, by simpa [len_limbs] using hle, HB.out⟩
  exact congrArg Ending.returned (hv.trans (by simp [len_limbs]))
end Go.Proofs.YtjajmonhcnmidaaDoor
/- Walks: bytes.Repeat of one zero digit. -/
namespace Go.Proofs.YtjajmonhcnmidaaDoor
open Go.RowKit Go.Lib

/-- The first n bytes of block g are the digit 0; it is a block of bytes. -/
def ZeroBuf (w : World) (g N n : Nat) : Prop := ∃ cs : List Value, w.heap[g]? = some (.cells cs.toArray 5 (0, 0)) ∧ N ≤ cs.length ∧ cs.take n = List.replicate n (Value.int .u8 48)

theorem infoU8 : (Tryd.prog.info? 5).map (·.size) = some 1 := by kernel_rfl
theorem zero_splice {cs : List Value} {N n m : Nat} (h : cs.take n = List.replicate n (Value.int .u8 48)) (hN : N ≤ cs.length) (hm : n + m ≤ N) :
    (cs.take n ++ List.replicate m (Value.int .u8 48) ++ cs.drop (n + m)).take (n + m) = List.replicate (n + m) (Value.int .u8 48) ∧ N ≤ (cs.take n ++ List.replicate m (Value.int .u8 48) ++ cs.drop (n + m)).length := by
  constructor
  · rw [h, List.take_append_of_le_length (by simp)]
    rw [List.replicate_append_replicate, List.take_of_length_le (by simp)]
  · simp; omega

theorem run_copy_zero (w0 w : World) (g N n m : Nat) (ad : Addr) (c1 c2 c3 : Nat) (hz : ZeroBuf w g N n) (hsrc : ∀ j, j < m → w.cell? (ad.add j) = some (Value.int .u8 48)) (hb : Below w0.heap.size w0 w) (hg : w0.heap.size ≤ g) (h1 : n ≤ N) (k : Nat) (hk : k = min m (N - n)) :
    ∃ w', (Builtin.copy_ #[69, 69] c1 #[.slice (some ⟨g, n, none⟩) (N - n) c2, .slice (some ad) m c3]).run Tryd.prog w = .ok (.int .i64 (k : Int)) w' ∧ ZeroBuf w' g N (n + k) ∧ Below w0.heap.size w0 w' := by
  obtain ⟨cs, hh, hN, ht⟩ := hz
  have hr := run_copy_row (P := Tryd.prog) w 69 69 c1 5 g n (N - n) c2 ad m c3 cs.toArray 5 (List.replicate k (Value.int .u8 48)) Tryd.underlying69 infoU8 hh
    (by rw [List.length_replicate, hk]) (fun j v hj => by
      rw [List.getElem?_replicate] at hj
      split at hj
      · injection hj with hj
        rw [← hj]; exact hsrc j (by omega)
      · cases hj) (by simp; omega) (fun v hv => by rw [List.eq_of_mem_replicate hv]; rfl)
  rw [List.length_replicate] at hr
  refine ⟨_, hr, ⟨_, setRow_heap w g _ _ _ _ hh, ?_, ?_⟩, below_setRow hb hg _⟩
  · have := (zero_splice (m := k) ht hN (by omega)).2
    simpa using this
  · have := (zero_splice (m := k) ht hN (by omega)).1
    simpa using this
theorem mul1 (N : Nat) (w : World) (h : N ≤ 43980465111050) : Calls Tryd.prog 75 #[.int .u64 1, .int .u64 N] w fun e w' => e = .returned (.tuple #[.int .u64 0, .int .u64 (N : Int)]) ∧ w = w' := by
  have := Tryd.bits_Mul 1 N (by omega) (by omega) w
  refine this.mono ?_
  rintro e w' ⟨rfl, rfl⟩
  refine ⟨?_, rfl⟩
  rw [show 1 * N / 18446744073709551616 = 0 from by omega, show 1 * N % 18446744073709551616 = N from by omega]
  rfl
set_option maxRecDepth 100000 in
set_option maxHeartbeats 1600000 in
theorem Repeat_any (g0 N : Nat) (w : World) (hc : w.cell? ⟨g0, 0, none⟩ = some (.int .u8 48)) (hN : 1 ≤ N) (hN2 : N ≤ 43980465111050) :
    Calls Tryd.prog 59 #[.slice (some ⟨g0, 0, none⟩) 1 1, .int .i64 N] w fun e w' => e = .returned (.slice (some ⟨w.heap.size, 0, none⟩) N N) ∧ ZeroBuf w' w.heap.size N N ∧ Below w.heap.size w w' := by
  have hN0 : ((N : Int) == 0) = false := by simp; omega
  have hd1 : decide ((N : Int) < 0) = false := by simp
  have hd2 : decide ((9223372036854775807 : Int) < (N : Int)) = false := by simp; omega
  go_enter Tryd.func59, Tryd.ntmps59
  go_wp2_with fail
  refine (mul1 N _ hN2).mono ?_
  rintro e w' ⟨rfl, rfl⟩
  obtain ⟨cs, hrun, hcs, _⟩ := run_makeNoZero (P := Tryd.prog) w #[3] 69 5 Tryd.underlying69 N (by omega)
  have hcall : (callFunc 76 #[.int .i64 (N : Int)]).run Tryd.prog w = .ok (.value (.slice (some ⟨w.heap.size, 0, none⟩) N cs.size)) ((w.alloc (.cells cs 5)).drewN 2) := by
    rw [run_callFunc_extern Tryd.func76 (by kernel_rfl) (by kernel_rfl) (by kernel_rfl) (e := Extern.BytealgMakeNoZero.makeNoZero #[3] #[69]) (by kernel_rfl), hrun]
    rfl
  clear hrun
  have i0 : (0 : Int) ≤ (N : Int) := by omega
  have i1 : (N : Int) ≤ (cs.size : Int) := by omega
  have hlt0 : g0 < w.heap.size := World.block_lt_of_cell? w ⟨g0, 0, none⟩ hc
  have hZ0 : ZeroBuf ((w.alloc (.cells cs 5)).drewN 2) w.heap.size N 0 := ⟨cs.toList, by rw [Array.toArray_toList]; exact heap1 w _, by simpa using hcs, by simp⟩
  obtain ⟨w1, hcp1, hZ1, hB1⟩ := run_copy_zero w ((w.alloc (.cells cs 5)).drewN 2) w.heap.size N 0 1 ⟨g0, 0, none⟩ 3 N 1 hZ0 (fun j hj => by
    have : j = 0 := by omega
    subst this
    rw [Lib.add_plain, World.cell?_drewN]
    exact (Below.cell (below_alloc w _) (p := ⟨g0, 0, none⟩) hlt0).trans hc) ((below_alloc w _).trans (below_drewN _ _ |>.mono (by simp))) (Nat.le_refl _) (by omega) 1 (by omega)
  rw [Nat.sub_zero] at hcp1
  have HZ1 := Lib.hid hZ1
  have HB1 := Lib.hid hB1
  clear hZ0 hZ1 hB1
  by_cases hbig : 8192 < N
  · have hd3 : decide ((8192 : Int) < (N : Int)) = true := by simp; omega
    go_wp2_with fail
    go_loopw [10] (fun bp wr => ∃ n : Nat, 1 ≤ n ∧ n ≤ N ∧ bp = .int .i64 n ∧ ZeroBuf wr w.heap.size N n ∧ Below w.heap.size w wr) (fun bp _ => N - (RowKit.intOf bp).toNat)
    case atStart => exact ⟨1, by omega, hN, rfl, HZ1.out, HB1.out⟩
    case round =>
      obtain ⟨n, hn1, hnN, rfl, hZ, hB⟩ := hrel
      have HZ := Lib.hid hZ
      have HB := Lib.hid hB
      clear hZ hB hcp1 hcall
      by_cases hlt : n < N
      · have j0 : (0 : Int) ≤ (n : Int) := by omega
        have j1 : (n : Int) ≤ (N : Int) := by omega
        obtain ⟨M, hM⟩ : ∃ M, M = min n 8192 := ⟨_, rfl⟩
        have hMI : min (n : Int) 8192 = (M : Int) := by omega
        have hM1 : 1 ≤ M := by omega
        have hM2 : M ≤ n := by omega
        have j2 : (0 : Int) ≤ (M : Int) := by omega
        have j3 : (M : Int) ≤ (N : Int) := by omega
        clear hM
        obtain ⟨w2, hcp2, hZ2, hB2⟩ := run_copy_zero w wr.drew w.heap.size N n M ⟨w.heap.size, 0, none⟩ 3 (N - n) N HZ.out (fun j hj => by
          obtain ⟨cs, hh, hN', ht⟩ := HZ.out
          rw [Lib.add_plain]
          have hj' : j < n := by omega
          have e : cs[j]? = some (Value.int .u8 48) := by
            have := congrArg (·[j]?) ht
            simpa [List.getElem?_take, List.getElem?_replicate, hj'] using this
          have := cell_of_row wr w.heap.size (0 + j) _ _ (0, 0) hh
          rw [Nat.zero_add] at this ⊢
          have h2 : wr.drew.cell? ⟨w.heap.size, j, none⟩ = wr.cell? ⟨w.heap.size, j, none⟩ := rfl
          rw [h2, this]
          simpa using e) (Below.drew HB.out) (Nat.le_refl _) hnN (min M (N - n)) rfl
        have HZ2 := Lib.hid hZ2
        have HB2 := Lib.hid hB2
        obtain ⟨K, hK⟩ : ∃ K, K = min M (N - n) := ⟨_, rfl⟩
        have hK1 : 1 ≤ K := by omega
        have hK2 : n + K ≤ N := by omega
        rw [← hK] at hcp2
        have HK := Lib.hid hK
        clear hZ2 hB2 hK
        have hwK : IntKind.i64.wrap ((n : Int) + (K : Int)) = (n : Int) + (K : Int) := by rw [IntKind.wrap_i64]; omega
        go_wp2_with fail
        go_region_held3 (fun _ => True) (trivial) (fail)
        go_wp2_with fail
        go_roundw
        case rel => exact ⟨n + K, by omega, hK2, by go_num, by rw [HK.out]; exact HZ2.out, HB2.out⟩
        case measure => simp [RowKit.intOf]; omega
      · have hn : n = N := by omega
        subst hn
        go_wp2
        go_ret
        exact ⟨rfl, HZ.out, HB.out⟩
  · have hd3 : decide ((8192 : Int) < (N : Int)) = false := by simp; omega
    go_wp2_with fail
    go_loopw [10] (fun bp wr => ∃ n : Nat, 1 ≤ n ∧ n ≤ N ∧ bp = .int .i64 n ∧ ZeroBuf wr w.heap.size N n ∧ Below w.heap.size w wr) (fun bp _ => N - (RowKit.intOf bp).toNat)
    case atStart => exact ⟨1, by omega, hN, rfl, HZ1.out, HB1.out⟩
    case round =>
      obtain ⟨n, hn1, hnN, rfl, hZ, hB⟩ := hrel
      have HZ := Lib.hid hZ
      have HB := Lib.hid hB
      clear hZ hB hcp1 hcall
      by_cases hlt : n < N
      · have j0 : (0 : Int) ≤ (n : Int) := by omega
        have j1 : (n : Int) ≤ (N : Int) := by omega
        have hMI : min (n : Int) (N : Int) = (n : Int) := by omega
        obtain ⟨w2, hcp2, hZ2, hB2⟩ := run_copy_zero w wr.drew w.heap.size N n n ⟨w.heap.size, 0, none⟩ 3 (N - n) N HZ.out (fun j hj => by
          obtain ⟨cs, hh, hN', ht⟩ := HZ.out
          rw [Lib.add_plain]
          have hj' : j < n := by omega
          have e : cs[j]? = some (Value.int .u8 48) := by
            have := congrArg (·[j]?) ht
            simpa [List.getElem?_take, List.getElem?_replicate, hj'] using this
          have := cell_of_row wr w.heap.size (0 + j) _ _ (0, 0) hh
          rw [Nat.zero_add] at this ⊢
          have h2 : wr.drew.cell? ⟨w.heap.size, j, none⟩ = wr.cell? ⟨w.heap.size, j, none⟩ := rfl
          rw [h2, this]
          simpa using e) (Below.drew HB.out) (Nat.le_refl _) hnN (min n (N - n)) rfl
        have HZ2 := Lib.hid hZ2
        have HB2 := Lib.hid hB2
        obtain ⟨K, hK⟩ : ∃ K, K = min n (N - n) := ⟨_, rfl⟩
        have hK1 : 1 ≤ K := by omega
        have hK2 : n + K ≤ N := by omega
        rw [← hK] at hcp2
        have HK := Lib.hid hK
        clear hZ2 hB2 hK
        have hwK : IntKind.i64.wrap ((n : Int) + (K : Int)) = (n : Int) + (K : Int) := by rw [IntKind.wrap_i64]; omega
        go_wp2_with fail
        go_region_held3 (fun _ => True) (trivial) (fail)
        go_wp2_with fail
        go_roundw
        case rel => exact ⟨n + K, by omega, hK2, by go_num, by rw [HK.out]; exact HZ2.out, HB2.out⟩
        case measure => simp [RowKit.intOf]; omega
      · have hn : n = N := by omega
        subst hn
        go_wp2
        go_ret
        exact ⟨rfl, HZ.out, HB.out⟩
end Go.Proofs.YtjajmonhcnmidaaDoor
/- Walks: Text of numbers below 10^9. -/
namespace Go.Proofs.YtjajmonhcnmidaaDoor
open Go.RowKit

set_option maxHeartbeats 400000 in
theorem Text_zero (v : Value) (w : World) (h : IntAt w v 0) : Calls Tryd.prog 38 #[v] w fun e w' => e = .returned (.string ⟨#[48]⟩) ∧ Below w.heap.size w w' := by
  obtain ⟨A, c, rfl, H⟩ := h.parts_ (n := 0) (b := false) rfl rfl
  have HI := Lib.hid (IntAt.back (z := 0) H.out rfl rfl)
  clear h
  go_enter Tryd.func38, Tryd.ntmps38
  go_wp2_with fail
  refine (parts_is _ 0 0 false _ (HI.out.into (below_alloc _ _)) rfl rfl (by rw [len_zero]; omega)).mono ?_
  rintro e w1 ⟨A1, c1, rfl, H1, hb1⟩
  rw [len_zero]
  have HB := Lib.hid (step_below (below_alloc _ _) hb1)
  clear hb1
  go_wp2
  go_ret
  exact ⟨rfl, HB.out⟩

/-- A text: the sign and the digits. -/
def textB (neg : Bool) (u : Nat) : List UInt8 := if neg then 45 :: Lib.decDigits u else Lib.decDigits u

def encB (b : UInt8) : Value := .int .u8 (b.toNat : Int)
/-- Block g begins with the bytes bs. -/
def BytesAt (w : World) (g : Nat) (bs : List UInt8) : Prop := ∃ tl : List Value, w.heap[g]? = some (.cells (bs.map encB ++ tl).toArray 5 (0, 0))
theorem BytesAt.lt {w : World} {g : Nat} {bs : List UInt8} (h : BytesAt w g bs) : g < w.heap.size := by
  obtain ⟨tl, h⟩ := h
  rcases Nat.lt_or_ge g w.heap.size with hlt | hge
  · exact hlt
  · rw [Array.getElem?_eq_none hge] at h; cases h
theorem BytesAt.cell {w : World} {g : Nat} {bs : List UInt8} (h : BytesAt w g bs) {i : Nat} (hi : i < bs.length) : w.cell? ⟨g, i, none⟩ = some (.int .u8 (bs[i].toNat : Int)) ∧ w.frozen? ⟨g, i, none⟩ = false := by
  obtain ⟨tl, h⟩ := h
  refine ⟨?_, frozen_of_row h i⟩
  rw [cell_of_row w g i _ _ (0, 0) h]
  simp [List.getElem?_append, hi, encB]
theorem BytesAt.set_ {w : World} {g : Nat} {bs : List UInt8} (h : BytesAt w g bs) {i : Nat} (hi : i < bs.length) (x : UInt8) : BytesAt (w.setCell ⟨g, i, none⟩ (.int .u8 (x.toNat : Int))) g (bs.set i x) := by
  obtain ⟨tl, h⟩ := h
  refine ⟨tl, ?_⟩
  rw [block_setCell h i (.int .u8 (x.toNat : Int))]
  congr 2
  simp [List.set_append, hi, List.map_set, encB]
theorem BytesAt.below {w w' : World} {g : Nat} {bs : List UInt8} (h : BytesAt w g bs) (hb : Below w.heap.size w w') : BytesAt w' g bs := by
  obtain ⟨tl, h'⟩ := h
  exact ⟨tl, (hb.block g (BytesAt.lt ⟨tl, h'⟩)).trans h'⟩
theorem BytesAt.only {w w' : World} {g g' : Nat} {bs : List UInt8} (h : BytesAt w g bs) (hg : w.grownBy w' (some g')) (hne : g ≠ g') : BytesAt w' g bs := by
  obtain ⟨tl, h'⟩ := h
  exact ⟨tl, (hg.block g (BytesAt.lt ⟨tl, h'⟩) (by simpa using hne)).trans h'⟩
theorem ZeroBuf.bytes {w : World} {g N : Nat} (h : ZeroBuf w g N N) : BytesAt w g (List.replicate N 48) := by
  obtain ⟨cs, hh, hN, ht⟩ := h
  refine ⟨cs.drop N, ?_⟩
  rw [hh]
  have e : (List.replicate N (48 : UInt8)).map encB = cs.take N := by rw [ht, List.map_replicate]; rfl
  rw [e, List.take_append_drop]
theorem BytesAt.copy {w : World} {g : Nat} {bs : List UInt8} (h : BytesAt w g bs) (k : Nat) (ds : List UInt8) (hk : k + ds.length ≤ bs.length) (dl c1 c2 : Nat) (hdl : ds.length ≤ dl) (w0 : World) (hb : Below w0.heap.size w0 w) (hg : w0.heap.size ≤ g) :
    ∃ w' : World, (Builtin.copy_ #[69, 9] c1 #[.slice (some ⟨g, k, none⟩) dl c2, .string ⟨ds.toArray⟩]).run Tryd.prog w = .ok (.int .i64 (ds.length : Int)) w' ∧
      BytesAt w' g (bs.take k ++ ds ++ bs.drop (k + ds.length)) ∧ Below w0.heap.size w0 w' ∧ w.grownBy w' (some g) := by
  obtain ⟨tl, h⟩ := h
  have hr := Lib.run_copy_row_string (P := Tryd.prog) w 69 9 c1 5 g k dl c2 ⟨ds.toArray⟩ _ 5 Tryd.underlying69 infoU8 h (by simpa [ByteArray.size] using hdl) (by simp [ByteArray.size]; omega)
  refine ⟨_, by simpa [ByteArray.size, goInt] using hr, ⟨tl, ?_⟩, below_setRow hb hg _, ⟨rfl, rfl, rfl, by simp [World.setRow], fun i _ hne => setRow_other w g i _ (by simpa using hne)⟩⟩
  have e : (bs.map encB ++ tl).take k ++ (Lib.byteCells ds ++ (bs.map encB ++ tl).drop (k + ds.length)) = (bs.take k ++ ds ++ bs.drop (k + ds.length)).map encB ++ tl := by
    simp only [List.map_append, List.append_assoc]
    rw [List.take_append_of_le_length (by simp; omega), List.drop_append_of_le_length (by simp; omega), List.map_take, List.map_drop]
    rfl
  exact (setRow_heap w g _ _ _ _ h).trans (congrArg (fun l : List Value => some (Obj.cells l.toArray 5 (0, 0))) e)

theorem Repeat11 (g0 : Nat) (w : World) (hc : w.cell? ⟨g0, 0, none⟩ = some (.int .u8 48)) :
    Calls Tryd.prog 59 #[.slice (some ⟨g0, 0, none⟩) 1 1, .int .i64 11] w fun e w' => e = .returned (.slice (some ⟨w.heap.size, 0, none⟩) 11 11) ∧ BytesAt w' w.heap.size (List.replicate 11 48) ∧ Below w.heap.size w w' :=
  (Repeat_any g0 11 w hc (by omega) (by omega)).mono fun _ _ ⟨he, hz, hb⟩ => ⟨he, hz.bytes, hb⟩
theorem shorten9 (g n c : Nat) (ms : List Nat) (w : World) (hn : ms.length = n) (hr : PRow w g ms) (h32 : L32 ms) (hl : n ≤ 4398046511104) :
    Calls Tryd.prog 61 #[.slice (some ⟨g, 0, none⟩) n c, .int .u32 1000000000] w fun e w' => e = .returned (.int .u32 (val ms % 1000000000 : Nat)) ∧ (∃ ds : List Nat, ds.length = n ∧ L32 ds ∧ val ds = val ms / 1000000000 ∧ PRow w' g ds) ∧ w.grownBy w' (some g) :=
  shorten_any g n c ms 1000000000 w hn hr h32 hl (by omega) (by omega)
theorem nDigits_le9 {x : Nat} (hx : x < 1000000000) : Lib.nDigits x ≤ 9 := by
  have key : ∀ k u : Nat, u < 10 ^ k → 1 ≤ k → Lib.nDigits u ≤ k := by
    intro k
    induction k with
    | zero => intro u _ h; omega
    | succ k ih =>
      intro u hu _
      by_cases h : u < 10
      · rw [Lib.nDigits_small h]; omega
      · rw [Lib.nDigits_big h]
        rcases Nat.eq_zero_or_pos k with h0 | h0
        · subst h0; simp at hu; omega
        · have := ih (u / 10) (by rw [Nat.pow_succ] at hu; omega) h0
          omega
  exact key 9 x (by simpa using hx) (by omega)
theorem convert_tail (w : World) (g k c : Nat) (bs ds : List UInt8) (h : BytesAt w g bs) (hd : bs.drop k = ds) : (convert 69 9 (.slice (some ⟨g, k, none⟩) ds.length c)).run Tryd.prog w = .ok (.string ⟨ds.toArray⟩) w := by
  have := run_convert_bytes_back (P := Tryd.prog) w 69 9 5 ⟨g, k, none⟩ c ds Tryd.underlying69 Tryd.underlying5 Tryd.underlying9 (fun j hj => by
    rw [Lib.add_plain]
    subst hd
    have hj' : k + j < bs.length := by rw [List.length_drop] at hj; omega
    rw [(h.cell hj').1, List.getElem_drop])
  exact this

theorem convert_tail' (w : World) (g k n c : Nat) (bs ds : List UInt8) (h : BytesAt w g bs) (hd : bs.drop k = ds) (hn : n = ds.length) : (convert 69 9 (.slice (some ⟨g, k, none⟩) n c)).run Tryd.prog w = .ok (.string ⟨ds.toArray⟩) w := by
  subst hn
  exact convert_tail w g k c bs ds h hd
theorem tail_drop (nd : Nat) (ds : List UInt8) (hn : nd ≤ 9) (hd : ds.length = nd) : ((List.replicate 11 (48 : UInt8)).take (11 - nd) ++ ds ++ (List.replicate 11 (48 : UInt8)).drop (11 - nd + ds.length)).drop (11 - nd) = ds := by
  have h0 : (List.replicate 11 (48 : UInt8)).drop (11 - nd + ds.length) = [] := List.drop_eq_nil_of_le (by simp; omega)
  rw [h0, List.append_nil]
  exact List.drop_left' (by simp)
theorem tail_drop1 (nd : Nat) (ds : List UInt8) (hn : nd ≤ 9) (hd : ds.length = nd) : (((List.replicate 11 (48 : UInt8)).take (11 - nd) ++ ds ++ (List.replicate 11 (48 : UInt8)).drop (11 - nd + ds.length)).set (11 - nd - 1) 45).drop (11 - nd - 1) = 45 :: ds := by
  have h0 : (List.replicate 11 (48 : UInt8)).drop (11 - nd + ds.length) = [] := List.drop_eq_nil_of_le (by simp; omega)
  rw [h0, List.append_nil]
  obtain ⟨k, hk⟩ : ∃ k, 11 - nd = k + 1 := ⟨10 - nd, by omega⟩
  rw [hk, List.take_replicate, Nat.min_eq_left (by omega), List.replicate_succ', List.append_assoc]
  have : k + 1 - 1 = k := by omega
  rw [this, List.set_append_right _ _ (by simp), List.drop_append, List.drop_eq_nil_of_le (by simp)]
  simp

set_option maxRecDepth 100000 in
set_option maxHeartbeats 3200000 in
theorem Text_small (v : Value) (neg : Bool) (x : Nat) (w : World) (h : IntAt w v (sgn neg x)) (hx0 : 0 < x) (hx : x < 1000000000) (htab : P10 w) :
    Calls Tryd.prog 38 #[v] w fun e w' => e = .returned (.string ⟨(textB neg x).toArray⟩) ∧ Below w.heap.size w w' := by
  have hn : (sgn neg x).natAbs = x := sgn_abs neg x
  have hb : decide (sgn neg x < 0) = neg := by cases neg <;> simp [sgn] <;> omega
  obtain ⟨A, c, rfl, H⟩ := h.parts_ hn hb
  have HI := Lib.hid (IntAt.back H.out hn hb)
  have hlen : len x = 1 := by
    rw [len_pos hx0, show x / 4294967296 = 0 from by omega, len_zero]
  have hnd1 : 1 ≤ Lib.nDigits x := Lib.nDigits_pos x
  have hnd9 : Lib.nDigits x ≤ 9 := nDigits_le9 hx
  obtain ⟨ad, rfl, -, -⟩ := H.out.mem.2.2.at_ (k := 0) (by rw [len_limbs]; omega)
  have HN := Lib.hid hn
  have HB := Lib.hid hb
  have HLEN := Lib.hid hlen
  clear h hn hb hlen
  go_enter Tryd.func38, Tryd.ntmps38
  go_wp2_with fail
  refine (parts_is _ _ x neg _ (HI.out.into (below_alloc _ _)) HN.out HB.out (by have := HLEN.out; omega)).mono ?_
  rintro e w1 ⟨A1, c1, rfl, H1, hb1⟩
  obtain ⟨ad1, rfl, -, -⟩ := H1.out.mem.2.2.at_ (k := 0) (by have := HLEN.out; rw [len_limbs]; omega)
  have HB1 := Lib.hid (step_below (below_alloc _ _) hb1)
  have hne : ((len x : Int) == 0) = false := by have := HLEN.out; simp; omega
  clear hb1
  go_wp2_with fail
  refine (Clone_any ad1 x c1 _ H1.out (by have := HLEN.out; omega) (by have := HLEN.out; omega)).mono ?_
  rintro e w2 ⟨g, c2, rfl, hrow, hg, hc2, hb2⟩
  have HB2 := Lib.hid (step_below HB1.out hb2)
  have HROW := Lib.hid hrow
  rw [HLEN.out] at hc2
  rw [HLEN.out]
  clear hb2 hrow
  go_wp2_with fail
  refine (Repeat11 w2.heap.size _ (by simp)).mono ?_
  rintro e w3 ⟨rfl, hbuf, hb3⟩
  have hb23 := step_below (below_alloc w2 (.cells #[.int .u8 48] 5)) hb3
  rw [size_alloc'] at hbuf
  rw [size_alloc']
  have HBUF := Lib.hid hbuf
  have HB3 := Lib.hid (step_below HB2.out hb23)
  have HROW3 := Lib.hid (HROW.out.below hb23)
  have hgne : w2.heap.size + 1 ≠ g := by have := HROW.out.lt; omega
  have hglt := HROW.out.lt
  clear hb3 hbuf hb23
  go_wp2_with fail
  refine wp_loop_rounds 1 ?_
  rw [rounds_succ]
  go_wp2_with fail
  refine (shorten9 g 1 c2 (limbs x) _ (by rw [len_limbs]; exact HLEN.out) HROW3.out (limbs_32 x) (by omega)).mono ?_
  rintro e w4 ⟨rfl, ⟨ds, hdl, hd32, hdv, hdrow⟩, hgrow⟩
  rw [val_limbs] at hdv
  rw [val_limbs, Nat.mod_eq_of_lt hx]
  rw [Nat.div_eq_of_lt hx] at hdv
  have HBUF4 := Lib.hid (HBUF.out.only hgrow hgne)
  have HB4 : Hid (Below w.heap.size w w4) := (HB3.out).grown hgrow HB3.out.size (by intro k hk; injection hk with hk; have := HB1.out.size; omega)
  have HDV := Lib.hid hdv
  have HDL := Lib.hid hdl
  have HDROW := Lib.hid hdrow
  have htab4 := tab_below htab HB4.out
  clear hgrow hdv hdl hdrow
  go_wp2_with fail
  refine (FormatUint_any x (by omega) _ htab4).mono ?_
  rintro e w5 ⟨rfl, hb5⟩
  have HB5 := Lib.hid (step_below HB4.out hb5)
  have HBUF5 := Lib.hid (HBUF4.out.below hb5)
  have HDROW5 := Lib.hid (HDROW.out.below hb5)
  clear hb5
  obtain ⟨nd, hnd⟩ : ∃ nd, Lib.nDigits x = nd := ⟨_, rfl⟩
  have hdd : (Lib.decDigits x).length = nd := by rw [Lib.decDigits_length, hnd]
  rw [hnd] at hnd1 hnd9
  have hss : ByteArray.size ⟨(Lib.decDigits x).toArray⟩ = nd := by simp [ByteArray.size, hdd]
  obtain ⟨w6, hcp, hbuf6, hb6, hgr6⟩ := HBUF5.out.copy (11 - nd) (Lib.decDigits x) (by rw [hdd]; simp; omega) (11 - (11 - nd)) 3 (11 - (11 - nd)) (by rw [hdd]; omega) w HB5.out (by have := HB2.out.size; omega)
  have HBUF6 := Lib.hid hbuf6
  have HB6 := Lib.hid hb6
  have HDROW6 := Lib.hid (HDROW5.out.only hgr6 (Ne.symm hgne))
  clear hbuf6 hb6 hgr6
  go_wp2_with fail
  refine (trim_k _ 1 c2 ds _ HDL.out HDROW6.out.mem (by omega) hc2 hd32).mono ?_
  rintro e w' ⟨rfl, rfl⟩
  rw [HDV.out, len_zero]
  clear hcp
  have hbl : ((List.replicate 11 (48 : UInt8)).take (11 - nd) ++ Lib.decDigits x ++ (List.replicate 11 (48 : UInt8)).drop (11 - nd + (Lib.decDigits x).length)).length = 11 := by
    simp [hdd]; omega
  have HBL := Lib.hid hbl
  have HDD := Lib.hid hdd
  have HND := Lib.hid hnd
  clear hbl hdd hnd htab htab4
  have hz0 : ((List.replicate 11 (48 : UInt8)).take (11 - nd) ++ Lib.decDigits x ++ (List.replicate 11 (48 : UInt8)).drop (11 - nd + (Lib.decDigits x).length)).drop (11 - nd) = Lib.decDigits x := tail_drop nd _ hnd9 HDD.out
  have hz1 : (((List.replicate 11 (48 : UInt8)).take (11 - nd) ++ Lib.decDigits x ++ (List.replicate 11 (48 : UInt8)).drop (11 - nd + (Lib.decDigits x).length)).set (11 - nd - 1) 45).drop (11 - nd - 1) = 45 :: Lib.decDigits x := tail_drop1 nd _ hnd9 HDD.out
  have HZ1 := Lib.hid hz1
  have hcl := HBUF6.out.cell (i := 11 - nd - 1) (by have := HBL.out; omega)
  have hse := HBUF6.out.set_ (i := 11 - nd - 1) (by have := HBL.out; omega) 45
  have HSE := Lib.hid hse
  clear hz1 hse
  cases neg
  · have hcv := convert_tail' w6 (w2.heap.size + 1) (11 - nd) (11 - (11 - nd)) (11 - (11 - nd)) _ _ HBUF6.out hz0 (by have := HDD.out; omega)
    clear hcl hz0
    go_wp2_with fail
    go_ret
    exact ⟨rfl, HB6.out⟩
  · clear hz0
    obtain ⟨hcl1, hcl2⟩ := hcl
    have hcv := convert_tail' (w6.setCell ⟨w2.heap.size + 1, 11 - nd - 1, none⟩ (.int .u8 45)) (w2.heap.size + 1) (11 - nd - 1) (11 - (11 - nd - 1)) (11 - (11 - nd - 1)) _ _ HSE.out HZ1.out (by have := HDD.out; simp; omega)
    go_wp2_with fail
    go_ret
    exact ⟨rfl, HB6.out.setCell (by have := HB2.out.size; show w.heap.size ≤ w2.heap.size + 1; omega) _⟩
end Go.Proofs.YtjajmonhcnmidaaDoor
/- Walks: Read at the four fixed texts. -/
namespace Go.Proofs.YtjajmonhcnmidaaDoor
open Go.RowKit

theorem notation_empty (w : World) : Calls Tryd.prog 63 #[.string ⟨#[]⟩] w fun e w' => e = .returned (.bool false) ∧ w = w' := by
  go_enter Tryd.func63, Tryd.ntmps63
  go_wp2
  go_ret
  exact ⟨rfl, rfl⟩
theorem notation_007 (w : World) : Calls Tryd.prog 63 #[.string ⟨#[48, 48, 55]⟩] w fun e w' => e = .returned (.bool false) ∧ w = w' := by
  go_enter Tryd.func63, Tryd.ntmps63
  go_wp2
  go_ret
  exact ⟨rfl, rfl⟩
theorem notation_0 (w : World) : Calls Tryd.prog 63 #[.string ⟨#[48]⟩] w fun e w' => e = .returned (.bool true) ∧ w = w' := by
  go_enter Tryd.func63, Tryd.ntmps63
  go_wp2_with fail
  go_loop [19] (fun i => i = .int .i64 0 ∨ i = .int .i64 1) (fun i => (1 - intOf i).toNat)
  case atStart => exact .inl rfl
  case round =>
    rcases hrel with rfl | rfl
    · go_wp2
      go_round
      case rel => exact .inr rfl
      case measure => simp [intOf]
    · go_wp2
      go_ret
      exact ⟨rfl, rfl⟩
theorem notation_7 (w : World) : Calls Tryd.prog 63 #[.string ⟨#[55]⟩] w fun e w' => e = .returned (.bool true) ∧ w = w' := by
  go_enter Tryd.func63, Tryd.ntmps63
  go_wp2_with fail
  go_loop [19] (fun i => i = .int .i64 0 ∨ i = .int .i64 1) (fun i => (1 - intOf i).toNat)
  case atStart => exact .inl rfl
  case round =>
    rcases hrel with rfl | rfl
    · go_wp2
      go_round
      case rel => exact .inr rfl
      case measure => simp [intOf]
    · go_wp2
      go_ret
      exact ⟨rfl, rfl⟩

def GivesRead (z ec : Int) (w : World) (e : Ending) (w' : World) : Prop := ∃ v, e = .returned (.tuple #[v, .int .i64 ec]) ∧ IntAt w' v z ∧ Below w.heap.size w w'
set_option maxHeartbeats 400000 in
theorem Read_empty (w : World) : Calls Tryd.prog 39 #[.string ⟨#[]⟩] w (GivesRead 0 4 w) := by
  go_enter Tryd.func39, Tryd.ntmps39
  go_wp2_with (go_at_call 63; refine (notation_empty _).mono ?_; rintro e w' ⟨rfl, rfl⟩)
  refine bodyPost_ret (v := .tuple #[.agg #[.bool false, .slice none 0 0], .int .i64 4]) (by simp [results, Tryd.results39, go_sem]) rfl ⟨_, rfl, IntAt.zero _ _ _, ?_⟩
  first | exact below_alloc _ _ | exact ((below_alloc _ _).setCell (by simp) _).setCell (by simp) _
set_option maxHeartbeats 400000 in
theorem Read_007 (w : World) : Calls Tryd.prog 39 #[.string ⟨#[48, 48, 55]⟩] w (GivesRead 0 4 w) := by
  go_enter Tryd.func39, Tryd.ntmps39
  go_wp2_with (go_at_call 63; refine (notation_007 _).mono ?_; rintro e w' ⟨rfl, rfl⟩)
  refine bodyPost_ret (v := .tuple #[.agg #[.bool false, .slice none 0 0], .int .i64 4]) (by simp [results, Tryd.results39, go_sem]) rfl ⟨_, rfl, IntAt.zero _ _ _, ?_⟩
  first | exact below_alloc _ _ | exact ((below_alloc _ _).setCell (by simp) _).setCell (by simp) _
set_option maxHeartbeats 400000 in
theorem Read_m0 (w : World) : Calls Tryd.prog 39 #[.string ⟨#[45, 48]⟩] w (GivesRead 0 4 w) := by
  have hx : (ByteArray.mk #[45, 48]).extract 1 2 = ⟨#[48]⟩ := by decide +kernel
  go_enter Tryd.func39, Tryd.ntmps39
  go_wp2_with (go_at_call 63; refine (notation_0 _).mono ?_; rintro e w' ⟨rfl, rfl⟩)
  refine bodyPost_ret (v := .tuple #[.agg #[.bool false, .slice none 0 0], .int .i64 4]) (by simp [results, Tryd.results39, go_sem]) rfl ⟨_, rfl, IntAt.zero _ _ _, ?_⟩
  first | exact below_alloc _ _ | exact ((below_alloc _ _).setCell (by simp) _).setCell (by simp) _

set_option maxHeartbeats 1000000 in
theorem lengthen_empty (g base : Nat) (w : World) (hown : Owns w base (.slice (some ⟨g, 0, none⟩) 0 1) []) (hbase : base ≤ w.heap.size) (hg : base ≤ g) :
    Calls Tryd.prog 78 #[.slice (some ⟨g, 0, none⟩) 0 1, .int .u64 7] w fun e w' => ∃ v, e = .returned v ∧ Owns w' base v [7] ∧ Below base w w' := by
  have HO := Lib.hid hown
  go_enter Tryd.func78, Tryd.ntmps78
  go_wp2_with fail
  go_loop [1, 9] (fun a i => a = .int .u64 7 ∧ i = .int .i64 0) (fun _ _ => 0)
  case atStart => exact ⟨rfl, rfl⟩
  case round =>
    obtain ⟨rfl, rfl⟩ := hrel
    have ho1 := Lib.hid (HO.out.alloc (.cells #[.int .u32 7] 38))
    have hr1 := Lib.hid ((Row.new w [7]).mem (B := w.heap.size + 1) (by omega)).raw
    go_wp2_with (at_builtin; refine wpList_append_limbs rfl (.tmp 29) (.tmp 32) rfl base (.slice (some ⟨g, 0, none⟩) 0 1) [] rfl ho1.out (w.heap.size + 1) (some ⟨w.heap.size, 0, none⟩) 1 1 [7] rfl hr1.out rfl (by simp) (by simp; omega) ?_; rintro v' w1 hown1 hgrow hat; have HB := Lib.hid (((Below.refl base w).alloc hbase (.cells #[.int .u32 7] 38)).grown hgrow (by simp; omega) (by intro k hk; simp [Value.ownBlock] at hk; omega)); clear hgrow hat)
    go_ret
    exact ⟨_, rfl, hown1, HB.out⟩

theorem mk01 (w : World) : (Instr.makeSlice 22 (.int .i64 0) (.int .i64 1)).run Tryd.prog w = .ok (.slice (some ⟨w.heap.size, 0, none⟩) 0 1) (w.alloc (rowObj [0])) := by
  obtain ⟨i, hi, hz, hs, hb⟩ := info_parts info32
  have hr := run_make (P := Tryd.prog) w 22 38 i (.int .u32 0) Tryd.underlying22 hi hz .i64 .i64 0 1 (by omega) (by omega) (by rw [hb]; omega) (by omega)
  rw [hr]
  have e : madeCells (Value.int .u32 0).cells ((1 : Int).toNat * i.size) = #[Value.int .u32 0] := by
    rw [hs]
    apply Array.ext_getElem?
    intro j
    by_cases hj : j < 1
    · simp [madeCells, Value.cells, hj, Nat.mod_one]
    · simp [madeCells, Value.cells, hj]
  rw [e]
  rfl
def slen : Value → Nat
  | .string s => s.size
  | _ => 0

set_option maxHeartbeats 1000000 in
theorem fromDigits_7 (w : World) : Calls Tryd.prog 64 #[.string ⟨#[55]⟩] w (GivesNat 7 w) := by
  have hmk := mk01
  have hx : (ByteArray.mk #[55]).extract 1 1 = ⟨#[]⟩ := by decide +kernel
  have hown0 : Owns (w.alloc (rowObj [0])) w.heap.size (.slice (some ⟨w.heap.size, 0, none⟩) 0 1) [] :=
    ⟨by simp, .inr ⟨w.heap.size, 1, _, rfl, Nat.le_refl _, heap_alloc_new w _, by simp, by unfold maxLen; omega, by simp, by simp⟩⟩
  have HO := Lib.hid hown0
  clear hown0
  go_enter Tryd.func64, Tryd.ntmps64
  go_wp2_with fail
  go_loopw [0, 3] (fun s v wr => (s = .string ⟨#[55]⟩ ∧ v = .slice (some ⟨w.heap.size, 0, none⟩) 0 1 ∧ w.alloc (rowObj [0]) = wr) ∨ (s = .string ⟨#[]⟩ ∧ Owns wr w.heap.size v [7] ∧ Below w.heap.size w wr)) (fun s _ _ => slen s)
  case atStart => exact .inl ⟨rfl, rfl, rfl⟩
  case round =>
    rcases hrel with ⟨rfl, rfl, rfl⟩ | ⟨rfl, hO, hB⟩
    · go_wp2_with fail
      go_loop [5, 21] (fun a i => (a = .int .u64 0 ∧ i = .int .i64 0) ∨ (a = .int .u64 7 ∧ i = .int .i64 1)) (fun _ i => (1 - intOf i).toNat)
      case atStart => exact .inl ⟨rfl, rfl⟩
      case round =>
        rcases hrel with ⟨rfl, rfl⟩ | ⟨rfl, rfl⟩
        · go_wp2
          go_round
          case rel => exact .inr ⟨rfl, rfl⟩
          case measure => simp [intOf]
        · go_wp2_with fail
          refine (lengthen_empty w.heap.size w.heap.size _ HO.out (by simp) (Nat.le_refl _)).mono ?_
          rintro e w1 ⟨v1, rfl, ho1, hb1⟩
          have HB := Lib.hid ((below_alloc w (rowObj [0])).trans hb1)
          have HO1 := Lib.hid ho1
          clear hb1 ho1
          go_wp2
          go_roundw
          case rel => exact .inr ⟨rfl, HO1.out, HB.out⟩
          case measure => simp [slen]; try decide
    · have hnat := hO.nat (L32.mk (show 7 < 4294967296 by decide) L32.nil_) (.inr (by decide))
      have e7 : val [7] = 7 := rfl
      rw [e7] at hnat
      obtain ⟨A, c, rfl, HN⟩ := hnat.open_
      have HB := Lib.hid hB
      clear hO hB hnat
      have hl7 : len 7 ≤ 1 := len_le_one (by decide)
      go_wp2_with fail
      refine (trim_nat A c 7 _ HN.out.mem.2.2 (by omega) HN.out.mem.2.1).mono ?_
      rintro e w' ⟨rfl, rfl⟩
      go_wp2
      go_ret
      exact ⟨_, rfl, HN.out, HB.out⟩

set_option maxHeartbeats 1000000 in
theorem Read_m7 (w : World) : Calls Tryd.prog 39 #[.string ⟨#[45, 55]⟩] w (GivesRead (-7) 0 w) := by
  have hx : (ByteArray.mk #[45, 55]).extract 1 2 = ⟨#[55]⟩ := by decide +kernel
  go_enter Tryd.func39, Tryd.ntmps39
  go_wp2_with (go_at_call 63; refine (notation_7 _).mono ?_; rintro e w' ⟨rfl, rfl⟩)
  refine (fromDigits_7 _).mono ?_
  rintro e w1 ⟨v1, rfl, hv1, hb1⟩
  obtain ⟨A1, c1, rfl, H1⟩ := hv1.open_
  have HB1 := Lib.hid hb1
  have hl7 : len 7 ≤ 1 := len_le_one (by decide)
  clear hb1 hv1
  go_wp2_with fail
  refine (build_any true _ 7 _ H1.out (by omega)).mono ?_
  rintro e w2 ⟨v2, rfl, hv2, hb2⟩
  obtain ⟨b, A, k, c, rfl, H⟩ := hv2.open_
  have hB := step_below HB1.out hb2
  obtain ⟨hc0, hc1, hf0, hf1, hs⟩ := box2 hB
  have HE := Lib.hid (box2_end (x' := .bool b) (y' := .slice A k c) hB H.out)
  clear hB hb2 hv2
  go_wp2
  refine bodyPost_ret (v := .tuple #[.agg #[.bool b, .slice A k c], .int .i64 0]) (by simp [results, Tryd.results39, go_sem, hs, hc0, hc1]) rfl ⟨_, rfl, HE.out.1, HE.out.2⟩
end Go.Proofs.YtjajmonhcnmidaaDoor
/- Walks: Pow. -/
namespace Go.Proofs.YtjajmonhcnmidaaDoor
open Go.RowKit

theorem len_pow (a n : Nat) : len (a ^ n) ≤ n * len a + 1 := by
  induction n with
  | zero => have := len_le_one (show 1 < 4294967296 by decide); simpa using this
  | succ n ih => have := len_mul (a ^ n) a; rw [Nat.pow_succ, Nat.add_mul]; omega

theorem bitLen_lt (x : Nat) (hx : x < 18446744073709551616) : x < 2 ^ Lib.bitLen x := by
  induction x using Nat.strongRecOn with
  | _ x ih =>
    rcases Nat.eq_zero_or_pos x with h | h
    · subst h; exact Nat.pow_pos (by decide)
    · rw [Lib.bitLen_half x (by omega) (by simpa using hx), Nat.pow_add]
      have := ih (x / 2) (by omega) (by omega)
      omega
theorem bitLen_le9 {x : Nat} (hx : x ≤ 256) : Lib.bitLen x ≤ 9 := by
  rcases Nat.eq_zero_or_pos x with h | h
  · subst h; decide
  · rw [Lib.bitLen_half x (by omega) (by omega)]
    have := Lib.bitLen_le8 ⟨x / 2, by omega⟩
    simp only at this
    omega
theorem and_one_i64 (a : Nat) (ha : a < 9223372036854775808) : bits .and .i64 (a : Int) 1 = ((a % 2 : Nat) : Int) := by
  have e1 : (BitVec.ofInt 64 (a : Int)).toNat = a := by rw [BitVec.ofInt_natCast, BitVec.toNat_ofNat]; exact Nat.mod_eq_of_lt (by omega)
  have e2 : (BitVec.ofInt 64 (1 : Int)).toNat = 1 := by decide
  show IntKind.i64.wrap ((BitVec.ofInt 64 (a : Int) &&& BitVec.ofInt 64 (1 : Int)).toNat : Int) = _
  rw [BitVec.toNat_and, e1, e2, Nat.and_one_is_mod, IntKind.wrap_i64]
  omega
theorem bit_is (n m : Nat) (hn : n ≤ 256) (b : Bool) (hb : (n / 2 ^ m) % 2 = if b then 1 else 0) : (bits BinOp.and IntKind.i64 ((n : Int) / 2 ^ m) 1 == 1) = b := by
  have e : ((n : Int) / 2 ^ m) = ((n / 2 ^ m : Nat) : Int) := by
    rw [Int.natCast_ediv, Int.natCast_pow]; rfl
  have : n / 2 ^ m ≤ n := Nat.div_le_self _ _
  rw [e, and_one_i64 _ (by omega), hb]
  cases b <;> rfl
theorem half_of (n m : Nat) : n / 2 ^ m = n / 2 ^ (m + 1) + n / 2 ^ (m + 1) + n / 2 ^ m % 2 := by
  have : n / 2 ^ (m + 1) = n / 2 ^ m / 2 := by rw [Nat.pow_succ, Nat.div_div_eq_div_mul]
  omega
theorem len_pow_int (z : Int) (k n : Nat) (hk : k ≤ n) (hn : n ≤ 256) (hl : len z.natAbs ≤ 1073741824) : len (z ^ k).natAbs ≤ 274877906945 := by
  rw [Int.natAbs_pow]
  have h := len_pow z.natAbs k
  have : k * len z.natAbs ≤ 256 * 1073741824 := Nat.mul_le_mul (by omega) hl
  omega

/-- The box of the power, and all that was there before it. -/
def PowRel (W : World) (wr : World) (z : Int) : Prop := ∃ (b : Bool) (A : Option Addr) (k c : Nat), wr.heap[W.heap.size]? = some (.cells #[.bool b, .slice A k c] 27 (0, 0)) ∧ IntAt wr (.agg #[.bool b, .slice A k c]) z ∧ Below W.heap.size W wr
/-- The same, of a power whose value is known. -/
def PowAt (W wr : World) (z : Int) (b : Bool) (A : Option Addr) (k c : Nat) : Prop := wr.heap[W.heap.size]? = some (.cells #[.bool b, .slice A k c] 27 (0, 0)) ∧ IntAt wr (.agg #[.bool b, .slice A k c]) z ∧ Below W.heap.size W wr
theorem PowAt.rel {W wr : World} {z : Int} {b : Bool} {A : Option Addr} {k c : Nat} (h : PowAt W wr z b A k c) : PowRel W wr z := ⟨b, A, k, c, h⟩
theorem PowRel.next {W wr w1 : World} {z z' : Int} (h : PowRel W wr z) (hb : Below wr.heap.size wr w1) {b : Bool} {A : Option Addr} {k c : Nat} (hi : IntAt w1 (.agg #[.bool b, .slice A k c]) z') :
    PowAt W ((w1.setCell ⟨W.heap.size, 0, none⟩ (.bool b)).setCell ⟨W.heap.size, 1, none⟩ (.slice A k c)) z' b A k c := by
  obtain ⟨b0, A0, k0, c0, hg, _, hW⟩ := h
  have hlt : W.heap.size < wr.heap.size := by
    rcases Nat.lt_or_ge W.heap.size wr.heap.size with hlt | hge
    · exact hlt
    · rw [Array.getElem?_eq_none hge] at hg; cases hg
  have h1 := (hb.block _ hlt).trans hg
  have hne : (27 : TypeId) ≠ 38 := by decide
  refine ⟨?_, (hi.far h1 hne 0 _).far (block_setCell h1 0 _) hne 1 _, ?_⟩
  · have := block_setCell (block_setCell h1 0 (.bool b)) 1 (.slice A k c)
    simpa using this
  · exact ((hW.trans (hb.mono hW.size)).setCell (by simp) _).setCell (by simp) _
theorem PowRel.cellsAt {W wr w1 : World} {z : Int} (h : PowRel W wr z) (hb : Below wr.heap.size wr w1) : ∃ (b : Bool) (A : Option Addr) (k c : Nat), w1.cell? ⟨W.heap.size, 0, none⟩ = some (.bool b) ∧ w1.cell? ⟨W.heap.size, 1, none⟩ = some (.slice A k c) ∧ w1.frozen? ⟨W.heap.size, 0, none⟩ = false ∧ w1.frozen? ⟨W.heap.size, 1, none⟩ = false ∧ W.heap.size < w1.heap.size ∧ True := by
  obtain ⟨b, A, k, c, hg, hi, hW⟩ := h
  obtain ⟨a, b', c', d, e⟩ := box_in hg hb
  exact ⟨b, A, k, c, a, b', c', d, e, trivial⟩
theorem PowRel.first {W : World} {z : Int} (b : Bool) (A : Option Addr) (k c : Nat) (h : IntAt W (.agg #[.bool b, .slice A k c]) z) : PowRel W (W.alloc (.cells #[.bool b, .slice A k c] 27)) z :=
  ⟨b, A, k, c, heap1 W _, h.into (below_alloc _ _), below_alloc _ _⟩
theorem PowRel.cells {W wr : World} {z : Int} (h : PowRel W wr z) : ∃ (b : Bool) (A : Option Addr) (k c : Nat), wr.cell? ⟨W.heap.size, 0, none⟩ = some (.bool b) ∧ wr.cell? ⟨W.heap.size, 1, none⟩ = some (.slice A k c) ∧ wr.frozen? ⟨W.heap.size, 0, none⟩ = false ∧ wr.frozen? ⟨W.heap.size, 1, none⟩ = false ∧ W.heap.size < wr.heap.size ∧ Hid (IntAt wr (.agg #[.bool b, .slice A k c]) z) := by
  obtain ⟨b, A, k, c, hg, hi, hW⟩ := h
  obtain ⟨a, b', c', d, e⟩ := box_in hg (Below.refl _ _)
  exact ⟨b, A, k, c, a, b', c', d, e, hi⟩

set_option maxHeartbeats 1600000 in
theorem Pow_err (v : Value) (n : Int) (w : World) (h : ∃ (b : Bool) (A : Option Addr) (k c : Nat), v = .agg #[.bool b, .slice A k c]) (hn : n < 0 ∨ 256 < n) (h0 : -9223372036854775808 ≤ n) (h1 : n ≤ 9223372036854775807) :
    Calls Tryd.prog 36 #[v, .int .i64 n] w fun e w' => ∃ v', e = .returned (.tuple #[v', .int .i64 1]) ∧ IntAt w' v' 0 ∧ Below w.heap.size w w' := by
  obtain ⟨b, A, k, c, rfl⟩ := h
  rcases hn with hn | hn
  · have hd : decide (n < 0) = true := by simpa using hn
    go_enter Tryd.func36, Tryd.ntmps36
    go_wp2
    refine bodyPost_ret (v := .tuple #[.agg #[.bool false, .slice none 0 0], .int .i64 1]) (by simp [results, Tryd.results36, go_sem]) rfl ⟨_, rfl, IntAt.zero _ _ _, ?_⟩
    first | exact below2 _ _ _ | exact ((below2 _ _ _).setCell (by simp) _).setCell (by simp) _
  · have hd : decide (n < 0) = false := by simp; omega
    have hd2 : decide (256 < n) = true := by simpa using hn
    go_enter Tryd.func36, Tryd.ntmps36
    go_wp2
    refine bodyPost_ret (v := .tuple #[.agg #[.bool false, .slice none 0 0], .int .i64 1]) (by simp [results, Tryd.results36, go_sem]) rfl ⟨_, rfl, IntAt.zero _ _ _, ?_⟩
    first | exact below2 _ _ _ | exact ((below2 _ _ _).setCell (by simp) _).setCell (by simp) _

set_option maxHeartbeats 1600000 in
theorem Pow_any (v : Value) (z : Int) (n : Nat) (w : World) (h : IntAt w v z) (hla : len z.natAbs ≤ 1073741824) (hn : n ≤ 256) :
    Calls Tryd.prog 36 #[v, .int .i64 n] w fun e w' => ∃ v', e = .returned (.tuple #[v', .int .i64 0]) ∧ IntAt w' v' (z ^ n) ∧ Below w.heap.size w w' := by
  obtain ⟨b, A, k, c, rfl, H⟩ := h.open_
  clear h
  have hd : decide ((n : Int) < 0) = false := by simp
  have hd2 : decide ((256 : Int) < (n : Int)) = false := by simp; omega
  go_enter Tryd.func36, Tryd.ntmps36
  go_wp2_with fail
  refine (Of_any 1 _ (by omega) (by omega)).mono ?_
  rintro e w1 ⟨v1, rfl, hv1, hb1⟩
  obtain ⟨b1, A1, k1, c1, rfl, H1⟩ := hv1.open_
  have hB1 := Lib.hid hb1
  clear hb1 hv1
  have hP := PowRel.first b1 A1 k1 c1 H1.out
  have HP := Lib.hid hP
  have HW1 := Lib.hid (step_below (below2 w (.cells #[.bool b, .slice A k c] 27) (.cells #[.bool false, .slice none 0 0] 27)) hB1.out)
  clear hP
  go_wp2_with fail
  refine (Tryd.bits_Len (n : Int) _ (by omega) (by omega)).mono ?_
  rintro e w' ⟨rfl, rfl⟩
  rw [Int.toNat_natCast]
  have hbl : Lib.bitLen n ≤ 9 := bitLen_le9 hn
  have hb2n : n < 2 ^ Lib.bitLen n := bitLen_lt n (by omega)
  generalize hL : Lib.bitLen n = L at *
  have HL := Lib.hid hL
  clear hL
  have h2 := heap2 w (.cells #[.bool b, .slice A k c] 27) (.cells #[.bool false, .slice none 0 0] 27)
  have hsz := hB1.out.size
  rw [size_alloc', size_alloc'] at hsz
  have HA1 := Lib.hid ((hB1.out.block _ (by simp; omega)).trans h2.1)
  have HR1 := Lib.hid ((hB1.out.block _ (by simp)).trans h2.2)
  have hlt1 : w.heap.size < w1.heap.size := by omega
  have hlt2 : w.heap.size + 1 < w1.heap.size := by omega
  clear h2 hsz
  go_wp2_with fail
  go_loopw [7] (fun i wr => ∃ j : Nat, j ≤ L ∧ i = .int .i64 j ∧ PowRel w1 wr (z ^ (n / 2 ^ j))) (fun i _ => (intOf i).toNat)
  case atStart => exact ⟨L, Nat.le_refl _, rfl, by rw [Nat.div_eq_of_lt hb2n, Int.pow_zero]; exact HP.out⟩
  case round =>
    obtain ⟨j, hj, rfl, hR⟩ := hrel
    rcases Nat.eq_zero_or_pos j with h0 | h0
    · subst h0
      rw [Nat.pow_zero, Nat.div_one] at hR
      obtain ⟨bp, Ap, kp, cp, hc0, hc1, hf0, hf1, hs, HI⟩ := hR.cells
      obtain ⟨_, _, _, _, _, _, hbr⟩ := hR
      obtain ⟨rc0, rc1, rf0, rf1, rs⟩ := box_in HR1.out hbr
      have HE := Lib.hid (box_end (x' := .bool bp) (y' := .slice Ap kp cp) HR1.out hbr HI.out HW1.out (by omega))
      clear hbr
      go_wp2
      refine bodyPost_ret (v := .tuple #[.agg #[.bool bp, .slice Ap kp cp], .int .i64 0]) (by simp [results, Tryd.results36, go_sem, rs, rc0, rc1]) rfl ⟨_, rfl, HE.out.1, HE.out.2⟩
    · obtain ⟨m, rfl⟩ : ∃ m, j = m + 1 := ⟨j - 1, by omega⟩
      obtain ⟨bp, Ap, kp, cp, hc0, hc1, hf0, hf1, hs, HI⟩ := hR.cells
      have HR := Lib.hid hR
      clear hR
      have hlp := len_pow_int z (n / 2 ^ (m + 1)) n (Nat.div_le_self _ _) hn hla
      go_wp2_with fail
      refine (Mul_any _ _ (z ^ (n / 2 ^ (m + 1))) (z ^ (n / 2 ^ (m + 1))) _ HI.out HI.out (by omega) (by omega)).mono ?_
      rintro e w2 ⟨v2, rfl, hv2, hb2⟩
      obtain ⟨b2, A2, k2, c2, rfl, H2⟩ := hv2.open_
      have HR2 := Lib.hid (HR.out.next hb2 H2.out)
      obtain ⟨_, _, _, _, gc0, gc1, gf0, gf1, gs, _⟩ := HR.out.cellsAt hb2
      obtain ⟨_, _, _, _, _, _, hbr⟩ := HR.out
      obtain ⟨ac0, ac1, af0, af1, as'⟩ := box_in HA1.out (step_below hbr hb2)
      have HB2 := Lib.hid (step_below hbr hb2)
      clear hc0 hc1 hf0 hf1 hs hbr hb2 hv2
      rcases Nat.mod_two_eq_zero_or_one (n / 2 ^ m) with hbit | hbit
      · have hbt := bit_is n m hn false (by simpa using hbit)
        have hz : z ^ (n / 2 ^ (m + 1)) * z ^ (n / 2 ^ (m + 1)) = z ^ (n / 2 ^ m) := by
          rw [← Int.pow_add]; congr 1; have := half_of n m; omega
        have HZ := Lib.hid hz
        clear hz hbit
        go_wp2_with fail
        go_roundw
        case rel => exact ⟨m, by omega, by first | rfl | go_num, by have := HR2.out.rel; rw [HZ.out] at this; exact this⟩
        case measure => simp [intOf]
      · have hbt := bit_is n m hn true (by simpa using hbit)
        have hz : z ^ (n / 2 ^ (m + 1)) * z ^ (n / 2 ^ (m + 1)) * z = z ^ (n / 2 ^ m) := by
          rw [← Int.pow_add, ← Int.pow_succ]; congr 1; have := half_of n m; omega
        have HZ := Lib.hid hz
        have HBIT := Lib.hid hbit
        clear hz hbit
        have hlp2 : len (z ^ (n / 2 ^ (m + 1)) * z ^ (n / 2 ^ (m + 1))).natAbs ≤ 549755813890 := by
          rw [Int.natAbs_mul]; have := len_mul (z ^ (n / 2 ^ (m + 1))).natAbs (z ^ (n / 2 ^ (m + 1))).natAbs; omega
        obtain ⟨HI2, hbr3⟩ := HR2.out.2
        have HII := Lib.hid HI2
        have HBR3 := Lib.hid hbr3
        clear HI2 hbr3
        go_wp2_with fail
        refine (Mul_any _ _ _ z _ HII.out (H.out.into (step_below HW1.out HBR3.out)) (by omega) (by omega)).mono ?_
        rintro e w3 ⟨v3, rfl, hv3, hb3⟩
        obtain ⟨b3, A3, k3, c3, rfl, H3⟩ := hv3.open_
        have HR3 := Lib.hid (HR2.out.rel.next hb3 H3.out)
        obtain ⟨_, _, _, _, sc0, sc1, sf0, sf1, ss, _⟩ := HR2.out.rel.cellsAt hb3
        clear hb3 hv3 gc0 gc1 gf0 gf1 gs ac0 ac1 af0 af1 as'
        go_wp2_with fail
        go_roundw
        case rel => exact ⟨m, by omega, by first | rfl | go_num, by have := HR3.out.rel; rw [HZ.out] at this; exact this⟩
        case measure => simp [intOf]
end Go.Proofs.YtjajmonhcnmidaaDoor
