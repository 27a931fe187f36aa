/- Walks: Read at any text. -/
import Derived.Test.YtdofolejfdfocaaGreatDoorqFrom
import Derived.Test.YtdofolejfdfocaaGreatDoorqR3
namespace Go.Proofs.YtdofolejfdfocaaGreatDoor
open Go.RowKit Go.Lib

theorem isNum_all {l : List UInt8} (h : isNum l = true) : l.all isD = true := by
  unfold isNum at h
  rw [Bool.and_eq_true] at h
  exact h.2
set_option maxHeartbeats 1600000 in
theorem Read_plain (b : UInt8) (r : List UInt8) (hb : b ≠ 45) (hl : (b :: r).length ≤ 2000) (w : World) : Calls Tryz.prog 63 #[.string ⟨(b :: r).toArray⟩] w (GivesRead (if isNum (b :: r) then (dv (b :: r) : Int) else 0) (if isNum (b :: r) then 0 else 4) w) := by
  have hb2 : ¬ b.toNat = 45 := fun h => hb (UInt8.toNat_inj.1 h)
  have hs := bytes_size (b :: r)
  obtain ⟨S, hS⟩ : ∃ S, (b :: r) = S := ⟨_, rfl⟩
  have hsn : S.length = r.length + 1 := by rw [← hS]; rfl
  have h0S : S[0]? = some b := by rw [← hS]; rfl
  rw [hS] at hs hl ⊢
  obtain ⟨L, hL⟩ : ∃ L, S.length = L := ⟨_, rfl⟩
  rw [hL] at hs hl hsn
  have hpos : 0 < (ByteArray.mk S.toArray).size := by omega
  have h0 := bytes_at h0S hpos
  have HN := fun W => notation_any S (by omega) W
  have HF := fun W (h : S.all isD = true) => fromDigits_any S h (by omega) W
  have hL0 : 0 < L := by omega
  have H1 := Lib.hid HN
  have H2 := Lib.hid HF
  have HL := Lib.hid hL
  clear HN HF hsn h0S hS hb
  cases hn : isNum S with
  | false =>
    go_enter Tryz.func63, Tryz.ntmps63
    go_wp2_with (go_at_call 84; refine (H1.out _).mono ?_; rintro e w' ⟨rfl, rfl⟩)
    refine bodyPost_ret (v := .tuple #[.agg #[.bool false, .slice none 0 0], .int .i64 4]) (by simp [results, Tryz.results63, go_sem]) rfl ⟨_, rfl, IntAt.zero _ _ _, ?_⟩
    first | exact below_alloc _ _ | exact ((below_alloc _ _).setCell (by simp) _).setCell (by simp) _
  | true =>
    have hall := isNum_all hn
    obtain ⟨n, hnn⟩ : ∃ n, dv S = n := ⟨_, rfl⟩
    have hln : len n ≤ 300 := by have := len_dv S hall; rw [hnn, HL.out] at this; omega
    rw [hnn]
    go_enter Tryz.func63, Tryz.ntmps63
    go_wp2_with (go_at_call 84; refine (H1.out _).mono ?_; rintro e w' ⟨rfl, rfl⟩)
    refine (H2.out _ hall).mono ?_
    rintro e w1 ⟨v1, rfl, hv1, hb1⟩
    rw [hnn] at hv1
    obtain ⟨A1, c1, rfl, H1'⟩ := hv1.open_
    have HB1 := Lib.hid hb1
    clear hb1 hv1
    go_wp2_with fail
    refine (build_any false _ n _ H1'.out (by omega)).mono ?_
    rintro e w2 ⟨v2, rfl, hv2, hb2⟩
    obtain ⟨b', A, k, c, rfl, H⟩ := hv2.open_
    have hB := step_below HB1.out hb2
    obtain ⟨hc0, hc1, hf0, hf1, hs⟩ := box2 hB
    have HE := Lib.hid (box2_end (x' := .bool b') (y' := .slice A k c) hB H.out)
    clear hB hb2 hv2
    go_wp2
    refine bodyPost_ret (v := .tuple #[.agg #[.bool b', .slice A k c], .int .i64 0]) (by simp [results, Tryz.results63, go_sem, hc0, hc1]) rfl ⟨_, rfl, HE.out.1, HE.out.2⟩

set_option maxHeartbeats 1600000 in
theorem Read_neg (r : List UInt8) (hl : r.length + 1 ≤ 2000) (w : World) : Calls Tryz.prog 63 #[.string ⟨(45 :: r).toArray⟩] w (GivesRead (if isNum r && !(r == [48]) then -(dv r : Int) else 0) (if isNum r && !(r == [48]) then 0 else 4) w) := by
  have hs := bytes_size (45 :: r)
  have hex := extract_drop (45 :: r) 1 (45 :: r).length (Nat.le_refl _)
  rw [List.drop_succ_cons, List.drop_zero] at hex
  obtain ⟨S, hS⟩ : ∃ S, (45 :: r) = S := ⟨_, rfl⟩
  have hsn : S.length = r.length + 1 := by rw [← hS]; rfl
  have h0S : S[0]? = some 45 := by rw [← hS]; rfl
  rw [hS] at hs hex ⊢
  obtain ⟨L, hL⟩ : ∃ L, S.length = L := ⟨_, rfl⟩
  rw [hL] at hs hsn hex
  have hpos : 0 < (ByteArray.mk S.toArray).size := by omega
  have h0 := bytes_at h0S hpos
  have HN := fun W => notation_any r (by omega) W
  have HF := fun W (h : r.all isD = true) => fromDigits_any r h (by omega) W
  have hL2 : L ≤ 2000 := by omega
  have hL0 : 1 ≤ L := by omega
  have hrl : r.length / 9 + 1 ≤ 300 := by omega
  have H1 := Lib.hid HN
  have H2 := Lib.hid HF
  clear HN HF hsn h0S hS hL
  cases hn : isNum r with
  | false =>
    go_enter Tryz.func63, Tryz.ntmps63
    go_wp2_with (go_at_call 84; refine (H1.out _).mono ?_; rintro e w' ⟨rfl, rfl⟩)
    refine bodyPost_ret (v := .tuple #[.agg #[.bool false, .slice none 0 0], .int .i64 4]) (by simp [results, Tryz.results63, go_sem]) rfl ⟨_, rfl, IntAt.zero _ _ _, ?_⟩
    first | exact below_alloc _ _ | exact ((below_alloc _ _).setCell (by simp) _).setCell (by simp) _
  | true =>
    cases h48 : r == [48] with
    | true =>
      go_enter Tryz.func63, Tryz.ntmps63
      go_wp2_with (go_at_call 84; refine (H1.out _).mono ?_; rintro e w' ⟨rfl, rfl⟩)
      refine bodyPost_ret (v := .tuple #[.agg #[.bool false, .slice none 0 0], .int .i64 4]) (by simp [results, Tryz.results63, go_sem]) rfl ⟨_, rfl, IntAt.zero _ _ _, ?_⟩
      first | exact below_alloc _ _ | exact ((below_alloc _ _).setCell (by simp) _).setCell (by simp) _
    | false =>
      have hall := isNum_all hn
      obtain ⟨n, hnn⟩ : ∃ n, dv r = n := ⟨_, rfl⟩
      have hln : len n ≤ 300 := by have := len_dv r hall; rw [hnn] at this; omega
      rw [hnn]
      clear hrl
      go_enter Tryz.func63, Tryz.ntmps63
      go_wp2_with (go_at_call 84; refine (H1.out _).mono ?_; rintro e w' ⟨rfl, rfl⟩)
      refine (H2.out _ hall).mono ?_
      rintro e w1 ⟨v1, rfl, hv1, hb1⟩
      rw [hnn] at hv1
      obtain ⟨A1, c1, rfl, H1'⟩ := hv1.open_
      have HB1 := Lib.hid hb1
      clear hb1 hv1
      go_wp2_with fail
      refine (build_any true _ n _ H1'.out (by omega)).mono ?_
      rintro e w2 ⟨v2, rfl, hv2, hb2⟩
      obtain ⟨b', A, k, c, rfl, H⟩ := hv2.open_
      have hB := step_below HB1.out hb2
      obtain ⟨hc0, hc1, hf0, hf1, hs⟩ := box2 hB
      have HE := Lib.hid (box2_end (x' := .bool b') (y' := .slice A k c) hB H.out)
      clear hB hb2 hv2
      go_wp2
      refine bodyPost_ret (v := .tuple #[.agg #[.bool b', .slice A k c], .int .i64 0]) (by simp [results, Tryz.results63, go_sem, hc0, hc1]) rfl ⟨_, rfl, HE.out.1, HE.out.2⟩

/-- Read at any text that is not too long. -/
theorem Read_any (bs : List UInt8) (hl : bs.length ≤ 2000) (w : World) : Calls Tryz.prog 63 #[.string ⟨bs.toArray⟩] w (GivesRead ((readOf bs).getD 0) (if (readOf bs).isSome then 0 else 4) w) := by
  cases bs with
  | nil => exact Read_empty w
  | cons b r =>
    by_cases hb : b = 45
    · subst hb
      refine (Read_neg r (by simpa using hl) w).mono fun e w' h => ?_
      simp only [readOf, if_true]
      cases hc : (isNum r && !(r == [48])) with
      | true => rw [hc] at h; exact h
      | false => rw [hc] at h; exact h
    · refine (Read_plain b r hb hl w).mono fun e w' h => ?_
      simp only [readOf, if_neg hb]
      cases hc : isNum (b :: r) with
      | true => rw [hc] at h; exact h
      | false => rw [hc] at h; exact h
end Go.Proofs.YtdofolejfdfocaaGreatDoor
