/- Walks: the reference's Made. -/
import Derived.Test.YtjajmonhcnmidaaDoorW6
import Derived.Test.YtjajmonhcnmidaaDoorApp
namespace Go.Proofs.YtjajmonhcnmidaaDoor
open Go.RowKit

theorem val_zeros (ms : List Nat) (h : ∀ i, ms.getD i 0 = 0) : val ms = 0 := by
  induction ms with
  | nil => rfl
  | cons x r ih =>
    have h0 : x = 0 := by simpa using h 0
    have h1 := ih (fun i => by simpa using h (i + 1))
    simp only [val, h0, h1]
theorem zeros_of_val (ms : List Nat) (h : val ms = 0) (i : Nat) : ms.getD i 0 = 0 := by
  induction ms generalizing i with
  | nil => simp
  | cons x r ih =>
    simp only [val] at h
    match i with
    | 0 => simp; omega
    | i + 1 => simpa using ih (by omega) i
theorem val_take_zeros (ms : List Nat) (k : Nat) (h : ∀ i, k ≤ i → ms.getD i 0 = 0) : val (ms.take k) = val ms := by
  rcases Nat.lt_or_ge k ms.length with hk | hk
  · have := val_split ms k (by omega)
    have hd : val (ms.drop k) = 0 := val_zeros _ (fun i => by
      rw [List.getD_eq_getElem?_getD, List.getElem?_drop, ← List.getD_eq_getElem?_getD]; exact h (k + i) (by omega))
    rw [hd] at this
    omega
  · rw [List.take_of_length_le hk]
theorem IntAt.mk_sgn {w : World} {s : Value} {n : Nat} {b : Bool} (h : NatAt w s n) (h0 : n = 0 → b = false) : IntAt w (.agg #[.bool b, s]) (sgn b n) := IntAt.mk h h0

set_option maxHeartbeats 1000000 in
theorem Made_false (A : Option Addr) (n c : Nat) (ms : List Nat) (w : World) (hn : ms.length = n) (hm : RawMem w w.heap.size A ms) (hl : n ≤ 4398046511104) (hc : n ≤ c) (h32 : L32 ms) :
    Calls Tryd.prog 32 #[.slice A n c, .bool false] w (GivesInt (sgn false (val ms)) w) := by
  have HN := Lib.hid hn
  clear hn
  go_enter Tryd.func32, Tryd.ntmps32
  go_wp2_with fail
  go_loop [5] (fun n' => ∃ k : Nat, k ≤ n ∧ n' = .int .i64 k ∧ ∀ i, k ≤ i → ms.getD i 0 = 0) (fun n' => (intOf n').toNat)
  case atStart => exact ⟨n, Nat.le_refl _, rfl, fun i hi => by simp [List.getD, List.getElem?_eq_none (show ms.length ≤ i from by rw [HN.out]; exact hi)]⟩
  case round =>
    obtain ⟨k, hk, rfl, h0⟩ := hrel
    have H0 := Lib.hid h0
    clear h0
    rcases Nat.eq_zero_or_pos k with hk0 | hk0
    · subst hk0
      have hval0 := val_zeros ms (fun i => H0.out i (Nat.zero_le _))
      have HV := Lib.hid hval0
      clear hval0
      · have hown0 := Owns.empty (w.alloc (.cells #[.bool false, .slice none 0 0] 27)) (base := w.heap.size + 1) (by simp)
        have hr0 := ((hm.below (below2 w (.cells #[.bool false, .slice none 0 0] 27) (.cells #[] 38))).take 0)
        rw [size_alloc'] at hown0
        have HO := Lib.hid hown0
        have HR := Lib.hid hr0
        have hlen : (ms.take 0).length = 0 := by rw [List.length_take, HN.out]; omega
        have HL := Lib.hid hlen
        clear hown0 hr0 hlen
        go_wp2_with (at_builtin; refine wpList_append_limbs rfl (.tmp 25) (.tmp 28) rfl (w.heap.size + 1) (.slice (some ⟨w.heap.size + 1, 0, none⟩) 0 0) [] rfl HO.out w.heap.size A 0 c (ms.take 0) rfl HR.out HL.out (by simp only [List.length_nil]; omega) (by simp) ?_; rintro v' w1 hown hgrow hat; obtain ⟨A', L, c', rfl, HLL, hc', _, hm'⟩ := hown.shapeL; have hbb := (below_alloc (w.alloc (.cells #[.bool false, .slice none 0 0] 27)) (.cells #[] 38)).grown hgrow (by simp) (by intro g hg; simp [Value.ownBlock] at hg; subst hg; simp); have HB := Lib.hid hbb; obtain ⟨hc0, hc1, hf0, hf1, hs⟩ := box2 HB.out; clear hbb hgrow hat)
        have hnat := hown.nat ((h32.take 0)) (by
          left; simp)
        rw [List.nil_append, val_take_zeros ms 0 H0.out] at hnat
        have hint : IntAt w1 (.agg #[.bool false, .slice A' L c']) (sgn false (val ms)) := by
          exact IntAt.mk_sgn hnat (fun _ => rfl)
        have HE := Lib.hid (box2_end (x' := .bool false) (y' := .slice A' L c') HB.out hint)
        go_wp2
        refine bodyPost_ret (v := .agg #[.bool false, .slice A' L c']) (by simp [results, Tryd.results32, go_sem, hs, hc0, hc1]) rfl ⟨_, rfl, HE.out.1, HE.out.2⟩
    · have hp : decide (0 < k) = true := by simpa using hk0
      have hlk : k - 1 < ms.length := by rw [HN.out]; omega
      obtain ⟨ad, rfl, hlt, hcell0⟩ := hm.at_ hlk
      have hcell := (Below.cell (below_alloc w (.cells #[.bool false, .slice none 0 0] 27)) (p := ad.add (k - 1)) (by rw [block_of_add']; exact hlt)).trans hcell0
      clear hcell0
      have hg := getD_of_lt hlk
      generalize ms[k - 1]'hlk = p at *
      have HG := Lib.hid hg
      clear hg
      have hcast : (k : Int) - 1 = ((k - 1 : Nat) : Int) := by omega
      have HC := Lib.hid hcast
      clear hcast
      by_cases hp0 : p = 0
      · subst hp0
        go_wp2_with fail
        go_round
        case rel =>
          refine ⟨k - 1, by omega, by rw [HC.out], fun i hi => ?_⟩
          rcases Nat.lt_or_ge i k with h | h
          · have : i = k - 1 := by omega
            rw [this, HG.out]
          · exact H0.out i h
        case measure => simp [intOf]; omega
      · have ht : ((p : Int) == 0) = false := by simp; omega
        have hne : val ms ≠ 0 := fun h => hp0 (by rw [← HG.out]; exact zeros_of_val ms h _)
        have hown0 := Owns.empty (w.alloc (.cells #[.bool false, .slice none 0 0] 27)) (base := w.heap.size + 1) (by simp)
        have hr0 := ((hm.below (below2 w (.cells #[.bool false, .slice none 0 0] 27) (.cells #[] 38))).take k)
        rw [size_alloc'] at hown0
        have HO := Lib.hid hown0
        have HR := Lib.hid hr0
        have hlen : (ms.take k).length = k := by rw [List.length_take, HN.out]; omega
        have HL := Lib.hid hlen
        clear hown0 hr0 hlen
        go_wp2_with (at_builtin; refine wpList_append_limbs rfl (.tmp 25) (.tmp 28) rfl (w.heap.size + 1) (.slice (some ⟨w.heap.size + 1, 0, none⟩) 0 0) [] rfl HO.out w.heap.size (some ad) k c (ms.take k) rfl HR.out HL.out (by simp only [List.length_nil]; omega) (by simp) ?_; rintro v' w1 hown hgrow hat; obtain ⟨A', L, c', rfl, HLL, hc', _, hm'⟩ := hown.shapeL; have hbb := (below_alloc (w.alloc (.cells #[.bool false, .slice none 0 0] 27)) (.cells #[] 38)).grown hgrow (by simp) (by intro g hg; simp [Value.ownBlock] at hg; subst hg; simp); have HB := Lib.hid hbb; obtain ⟨hc0, hc1, hf0, hf1, hs⟩ := box2 HB.out; clear hbb hgrow hat)
        have hnat := hown.nat ((h32.take k)) (by
          right; rw [List.nil_append, List.length_take, HN.out, Nat.min_eq_left hk, List.getD_eq_getElem?_getD, List.getElem?_take, if_pos (by omega), ← List.getD_eq_getElem?_getD, HG.out]; exact hp0)
        rw [List.nil_append, val_take_zeros ms k H0.out] at hnat
        have hint : IntAt w1 (.agg #[.bool false, .slice A' L c']) (sgn false (val ms)) := by
          exact IntAt.mk_sgn hnat (fun _ => rfl)
        have HE := Lib.hid (box2_end (x' := .bool false) (y' := .slice A' L c') HB.out hint)
        go_wp2
        refine bodyPost_ret (v := .agg #[.bool false, .slice A' L c']) (by simp [results, Tryd.results32, go_sem, hs, hc0, hc1]) rfl ⟨_, rfl, HE.out.1, HE.out.2⟩

set_option maxHeartbeats 1000000 in
theorem Made_true (A : Option Addr) (n c : Nat) (ms : List Nat) (w : World) (hn : ms.length = n) (hm : RawMem w w.heap.size A ms) (hl : n ≤ 4398046511104) (hc : n ≤ c) (h32 : L32 ms) :
    Calls Tryd.prog 32 #[.slice A n c, .bool true] w (GivesInt (sgn true (val ms)) w) := by
  have HN := Lib.hid hn
  clear hn
  go_enter Tryd.func32, Tryd.ntmps32
  go_wp2_with fail
  go_loop [5] (fun n' => ∃ k : Nat, k ≤ n ∧ n' = .int .i64 k ∧ ∀ i, k ≤ i → ms.getD i 0 = 0) (fun n' => (intOf n').toNat)
  case atStart => exact ⟨n, Nat.le_refl _, rfl, fun i hi => by simp [List.getD, List.getElem?_eq_none (show ms.length ≤ i from by rw [HN.out]; exact hi)]⟩
  case round =>
    obtain ⟨k, hk, rfl, h0⟩ := hrel
    have H0 := Lib.hid h0
    clear h0
    rcases Nat.eq_zero_or_pos k with hk0 | hk0
    · subst hk0
      have hval0 := val_zeros ms (fun i => H0.out i (Nat.zero_le _))
      have HV := Lib.hid hval0
      clear hval0
      · have hown0 := Owns.empty (w.alloc (.cells #[.bool false, .slice none 0 0] 27)) (base := w.heap.size + 1) (by simp)
        have hr0 := ((hm.below (below2 w (.cells #[.bool false, .slice none 0 0] 27) (.cells #[] 38))).take 0)
        rw [size_alloc'] at hown0
        have HO := Lib.hid hown0
        have HR := Lib.hid hr0
        have hlen : (ms.take 0).length = 0 := by rw [List.length_take, HN.out]; omega
        have HL := Lib.hid hlen
        clear hown0 hr0 hlen
        go_wp2_with (at_builtin; refine wpList_append_limbs rfl (.tmp 25) (.tmp 28) rfl (w.heap.size + 1) (.slice (some ⟨w.heap.size + 1, 0, none⟩) 0 0) [] rfl HO.out w.heap.size A 0 c (ms.take 0) rfl HR.out HL.out (by simp only [List.length_nil]; omega) (by simp) ?_; rintro v' w1 hown hgrow hat; obtain ⟨A', L, c', rfl, HLL, hc', _, hm'⟩ := hown.shapeL; have hbb := (below_alloc (w.alloc (.cells #[.bool false, .slice none 0 0] 27)) (.cells #[] 38)).grown hgrow (by simp) (by intro g hg; simp [Value.ownBlock] at hg; subst hg; simp); have HB := Lib.hid hbb; obtain ⟨hc0, hc1, hf0, hf1, hs⟩ := box2 HB.out; clear hbb hgrow hat)
        have hnat := hown.nat ((h32.take 0)) (by
          left; simp)
        rw [List.nil_append, val_take_zeros ms 0 H0.out] at hnat
        have hint : IntAt w1 (.agg #[.bool false, .slice A' L c']) (sgn true (val ms)) := by
          rw [HV.out, sgn_zero]; rw [HV.out] at hnat; exact IntAt.mk_sgn (b := false) hnat (fun _ => rfl)
        have HE := Lib.hid (box2_end (x' := .bool false) (y' := .slice A' L c') HB.out hint)
        go_wp2
        refine bodyPost_ret (v := .agg #[.bool false, .slice A' L c']) (by simp [results, Tryd.results32, go_sem, hs, hc0, hc1]) rfl ⟨_, rfl, HE.out.1, HE.out.2⟩
    · have hp : decide (0 < k) = true := by simpa using hk0
      have hlk : k - 1 < ms.length := by rw [HN.out]; omega
      obtain ⟨ad, rfl, hlt, hcell0⟩ := hm.at_ hlk
      have hcell := (Below.cell (below_alloc w (.cells #[.bool false, .slice none 0 0] 27)) (p := ad.add (k - 1)) (by rw [block_of_add']; exact hlt)).trans hcell0
      clear hcell0
      have hg := getD_of_lt hlk
      generalize ms[k - 1]'hlk = p at *
      have HG := Lib.hid hg
      clear hg
      have hcast : (k : Int) - 1 = ((k - 1 : Nat) : Int) := by omega
      have HC := Lib.hid hcast
      clear hcast
      by_cases hp0 : p = 0
      · subst hp0
        go_wp2_with fail
        go_round
        case rel =>
          refine ⟨k - 1, by omega, by rw [HC.out], fun i hi => ?_⟩
          rcases Nat.lt_or_ge i k with h | h
          · have : i = k - 1 := by omega
            rw [this, HG.out]
          · exact H0.out i h
        case measure => simp [intOf]; omega
      · have ht : ((p : Int) == 0) = false := by simp; omega
        have hne : val ms ≠ 0 := fun h => hp0 (by rw [← HG.out]; exact zeros_of_val ms h _)
        have hown0 := Owns.empty (w.alloc (.cells #[.bool false, .slice none 0 0] 27)) (base := w.heap.size + 1) (by simp)
        have hr0 := ((hm.below (below2 w (.cells #[.bool false, .slice none 0 0] 27) (.cells #[] 38))).take k)
        rw [size_alloc'] at hown0
        have HO := Lib.hid hown0
        have HR := Lib.hid hr0
        have hlen : (ms.take k).length = k := by rw [List.length_take, HN.out]; omega
        have HL := Lib.hid hlen
        clear hown0 hr0 hlen
        go_wp2_with (at_builtin; refine wpList_append_limbs rfl (.tmp 25) (.tmp 28) rfl (w.heap.size + 1) (.slice (some ⟨w.heap.size + 1, 0, none⟩) 0 0) [] rfl HO.out w.heap.size (some ad) k c (ms.take k) rfl HR.out HL.out (by simp only [List.length_nil]; omega) (by simp) ?_; rintro v' w1 hown hgrow hat; obtain ⟨A', L, c', rfl, HLL, hc', _, hm'⟩ := hown.shapeL; have hbb := (below_alloc (w.alloc (.cells #[.bool false, .slice none 0 0] 27)) (.cells #[] 38)).grown hgrow (by simp) (by intro g hg; simp [Value.ownBlock] at hg; subst hg; simp); have HB := Lib.hid hbb; obtain ⟨hc0, hc1, hf0, hf1, hs⟩ := box2 HB.out; clear hbb hgrow hat)
        have hnat := hown.nat ((h32.take k)) (by
          right; rw [List.nil_append, List.length_take, HN.out, Nat.min_eq_left hk, List.getD_eq_getElem?_getD, List.getElem?_take, if_pos (by omega), ← List.getD_eq_getElem?_getD, HG.out]; exact hp0)
        rw [List.nil_append, val_take_zeros ms k H0.out] at hnat
        have hint : IntAt w1 (.agg #[.bool true, .slice A' L c']) (sgn true (val ms)) := by
          exact IntAt.mk_sgn hnat (fun h => absurd h (hne))
        have HE := Lib.hid (box2_end (x' := .bool true) (y' := .slice A' L c') HB.out hint)
        go_wp2
        refine bodyPost_ret (v := .agg #[.bool true, .slice A' L c']) (by simp [results, Tryd.results32, go_sem, hs, hc0, hc1]) rfl ⟨_, rfl, HE.out.1, HE.out.2⟩

theorem Made_any (A : Option Addr) (n c : Nat) (ms : List Nat) (neg : Bool) (w : World) (hn : ms.length = n) (hm : RawMem w w.heap.size A ms) (hl : n ≤ 4398046511104) (hc : n ≤ c) (h32 : L32 ms) :
    Calls Tryd.prog 32 #[.slice A n c, .bool neg] w (GivesInt (sgn neg (val ms)) w) := by
  cases neg
  · exact Made_false A n c ms w hn hm hl hc h32
  · exact Made_true A n c ms w hn hm hl hc h32
end Go.Proofs.YtjajmonhcnmidaaDoor
