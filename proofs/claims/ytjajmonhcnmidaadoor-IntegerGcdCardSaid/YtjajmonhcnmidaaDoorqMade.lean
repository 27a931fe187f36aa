/- Walks: the law file's made: the integer of at most twelve raw limbs. -/
import Derived.Test.YtjajmonhcnmidaaDoorGe
import Derived.Deep.RegionHeld3
namespace Go.Proofs.YtjajmonhcnmidaaDoor
open Go.RowKit

theorem rawMem_more {w : World} {B B' : Nat} {A : Option Addr} {ms : List Nat} (h : RawMem w B A ms) (hB : B ≤ B') : RawMem w B' A ms := fun hn => by
  obtain ⟨ad, e, hb, hc⟩ := h hn
  exact ⟨ad, e, by omega, hc⟩

set_option maxHeartbeats 1600000 in
theorem made_some (b : Bool) (ad : Addr) (k c m : Nat) (ms : List Nat) (w : World) (hk : ms.length = k) (hm : RawMem w w.heap.size (some ad) ms) (hc : k ≤ c) (h32 : L32 ms) (hl : k ≤ 2305843009213693952) (hmin : m = min k 12) :
    Calls Tryd.prog 12 #[.agg #[.slice (some ad) k c, .bool b]] w (GivesInt (sgn b (val (ms.take m))) w) := by
  have HH := Lib.hid (heap2 w (.cells #[.slice (some ad) k c, .bool b] 24) (.cells #[.bool false, .slice none 0 0] 27))
  have HW := Lib.hid (below2 w (.cells #[.slice (some ad) k c, .bool b] 24) (.cells #[.bool false, .slice none 0 0] 27))
  have HM := Lib.hid hm
  have HK := Lib.hid hk
  have HL := Lib.hid hl
  have H32 := Lib.hid h32
  have HC := Lib.hid hc
  have HMIN := Lib.hid hmin
  have h1 : (0 : Int) ≤ (m : Int) := by omega
  have h2 : (m : Int) ≤ (c : Int) := by omega
  have hmi : (if (12 : Int) < (k : Int) then (12 : Int) else (k : Int)) = (m : Int) := by split <;> omega
  obtain ⟨ca0, ca1, _, _, _⟩ := box_in HH.out.1 (Below.refl _ _)
  obtain ⟨cc0, cc1, cf0, cf1, cs⟩ := box_in HH.out.2 (Below.refl _ _)
  clear hm hk hl h32 hc hmin
  go_enter Tryd.func12, Tryd.ntmps12
  go_wp2_with fail
  generalize (w.alloc (.cells #[.slice (some ad) k c, .bool b] 24)).alloc (.cells #[.bool false, .slice none 0 0] 27) = W at *
  have HELD : ∀ w' : World, Below W.heap.size W w' → w'.cell? ⟨w.heap.size, 0, none⟩ = some (.slice (some ad) k c) ∧ w'.cell? ⟨w.heap.size, 1, none⟩ = some (.bool b) := fun w' hb => by
    obtain ⟨a0, a1, _, _, _⟩ := box_in HH.out.1 hb
    exact ⟨a0, a1⟩
  have HELD2 : ∀ w' : World, Below W.heap.size W w' → ∀ (i j : Nat) (u v : Value), ((w'.setCell ⟨w.heap.size + 1, i, none⟩ u).setCell ⟨w.heap.size + 1, j, none⟩ v).cell? ⟨w.heap.size, 0, none⟩ = some (.slice (some ad) k c) ∧ ((w'.setCell ⟨w.heap.size + 1, i, none⟩ u).setCell ⟨w.heap.size + 1, j, none⟩ v).cell? ⟨w.heap.size, 1, none⟩ = some (.bool b) := fun w' hb i j u v => by
    obtain ⟨a0, a1⟩ := HELD w' hb
    refine ⟨?_, ?_⟩
    all_goals
      rw [World.cell?_setCell_far _ _ _ _ (by simp), World.cell?_setCell_far _ _ _ _ (by simp)]
      assumption
  have HELD' := Lib.hid HELD
  have HELD2' := Lib.hid HELD2
  have HWW := Lib.hid (Below.refl W.heap.size W)
  clear HELD HELD2
  go_region_held3 (fun w' => w'.cell? ⟨w.heap.size, 0, none⟩ = some (.slice (some ad) k c) ∧ w'.cell? ⟨w.heap.size, 1, none⟩ = some (.bool b))
    (first | (go_keep; done) | exact HELD'.out _ HB1.out | exact HELD'.out _ HB1.out.drew | exact HELD2'.out _ HB1.out _ _ _ _)
    (first
      | (go_at_call 32
         refine (Made_any _ m _ (ms.take m) b _ (by rw [List.length_take, HK.out, HMIN.out]; omega) ((HM.out.below (by first | exact HW.out | exact HW.out.drew | exact HW.out.drew.drew)).take m |> fun h => rawMem_more h (by first | exact HW.out.size | exact HW.out.drew.size | exact HW.out.drew.drew.size)) (by rw [HMIN.out]; omega) (by have := HC.out; rw [HMIN.out]; omega) (H32.out.take m)).mono ?_
         rintro e w1 ⟨v1, rfl, hv1, hb1⟩
         obtain ⟨b1, A1, k1, c1, rfl, H1⟩ := hv1.open_
         have HB1 : Hid (Below W.heap.size W w1) := step_below (by first | exact HWW.out | exact HWW.out.drew | exact HWW.out.drew.drew) hb1
         obtain ⟨dc0, dc1, df0, df1, ds⟩ := box_in HH.out.2 HB1.out
         have HE := Lib.hid (box_end (x' := .bool b1) (y' := .slice A1 k1 c1) HH.out.2 HB1.out H1.out HW.out (by omega))
         clear hb1 hv1))
  go_wp2
  refine bodyPost_ret (v := .agg #[.bool b1, .slice A1 k1 c1]) (by simp [results, Tryd.results12, go_sem, dc0, dc1]) rfl ⟨_, rfl, HE.out.1, HE.out.2⟩
theorem Made_zero (A : Option Addr) (neg : Bool) (w : World) : Calls Tryd.prog 32 #[.slice A 0 0, .bool neg] w (GivesInt 0 w) := by
  have h := Made_any A 0 0 [] neg w rfl (fun h => absurd h (by simp)) (by decide) (Nat.le_refl _) L32.nil_
  have e : sgn neg (val []) = 0 := by cases neg <;> rfl
  rw [e] at h
  exact h

set_option maxHeartbeats 1600000 in
theorem made_none (b : Bool) (w : World) :
    Calls Tryd.prog 12 #[.agg #[.slice none 0 0, .bool b]] w (GivesInt 0 w) := by
  have HH := Lib.hid (heap2 w (.cells #[.slice none 0 0, .bool b] 24) (.cells #[.bool false, .slice none 0 0] 27))
  have HW := Lib.hid (below2 w (.cells #[.slice none 0 0, .bool b] 24) (.cells #[.bool false, .slice none 0 0] 27))
  obtain ⟨ca0, ca1, _, _, _⟩ := box_in HH.out.1 (Below.refl _ _)
  obtain ⟨cc0, cc1, cf0, cf1, cs⟩ := box_in HH.out.2 (Below.refl _ _)
  go_enter Tryd.func12, Tryd.ntmps12
  go_wp2_with fail
  generalize (w.alloc (.cells #[.slice none 0 0, .bool b] 24)).alloc (.cells #[.bool false, .slice none 0 0] 27) = W at *
  have HELD : ∀ w' : World, Below W.heap.size W w' → w'.cell? ⟨w.heap.size, 0, none⟩ = some (.slice none 0 0) ∧ w'.cell? ⟨w.heap.size, 1, none⟩ = some (.bool b) := fun w' hb => by
    obtain ⟨a0, a1, _, _, _⟩ := box_in HH.out.1 hb
    exact ⟨a0, a1⟩
  have HELD2 : ∀ w' : World, Below W.heap.size W w' → ∀ (i j : Nat) (u v : Value), ((w'.setCell ⟨w.heap.size + 1, i, none⟩ u).setCell ⟨w.heap.size + 1, j, none⟩ v).cell? ⟨w.heap.size, 0, none⟩ = some (.slice none 0 0) ∧ ((w'.setCell ⟨w.heap.size + 1, i, none⟩ u).setCell ⟨w.heap.size + 1, j, none⟩ v).cell? ⟨w.heap.size, 1, none⟩ = some (.bool b) := fun w' hb i j u v => by
    obtain ⟨a0, a1⟩ := HELD w' hb
    refine ⟨?_, ?_⟩
    all_goals
      rw [World.cell?_setCell_far _ _ _ _ (by simp), World.cell?_setCell_far _ _ _ _ (by simp)]
      assumption
  have HELD' := Lib.hid HELD
  have HELD2' := Lib.hid HELD2
  have HWW := Lib.hid (Below.refl W.heap.size W)
  clear HELD HELD2
  go_region_held3 (fun w' => w'.cell? ⟨w.heap.size, 0, none⟩ = some (.slice none 0 0) ∧ w'.cell? ⟨w.heap.size, 1, none⟩ = some (.bool b))
    (first | (go_keep; done) | exact HELD'.out _ HB1.out | exact HELD'.out _ HB1.out.drew | exact HELD2'.out _ HB1.out _ _ _ _)
    (first
      | (go_at_call 32
         refine (Made_zero _ _ _).mono ?_
         rintro e w1 ⟨v1, rfl, hv1, hb1⟩
         obtain ⟨b1, A1, k1, c1, rfl, H1⟩ := hv1.open_
         have HB1 : Hid (Below W.heap.size W w1) := step_below (by first | exact HWW.out | exact HWW.out.drew | exact HWW.out.drew.drew) hb1
         obtain ⟨dc0, dc1, df0, df1, ds⟩ := box_in HH.out.2 HB1.out
         have HE := Lib.hid (box_end (x' := .bool b1) (y' := .slice A1 k1 c1) HH.out.2 HB1.out H1.out HW.out (by omega))
         clear hb1 hv1))
  go_wp2
  refine bodyPost_ret (v := .agg #[.bool b1, .slice A1 k1 c1]) (by simp [results, Tryd.results12, go_sem, dc0, dc1]) rfl ⟨_, rfl, HE.out.1, HE.out.2⟩
theorem made_any (b : Bool) (A : Option Addr) (k c : Nat) (ms : List Nat) (w : World) (hk : ms.length = k) (hm : RawMem w w.heap.size A ms) (hc : k ≤ c) (h32 : L32 ms) (hl : k ≤ 2305843009213693952) (h0 : A = none → c = 0) :
    Calls Tryd.prog 12 #[.agg #[.slice A k c, .bool b]] w (GivesInt (sgn b (val (ms.take (min k 12)))) w) := by
  cases A with
  | some ad => exact made_some b ad k c _ ms w hk hm hc h32 hl rfl
  | none =>
    obtain rfl := h0 rfl
    obtain rfl : k = 0 := by omega
    obtain rfl : ms = [] := List.eq_nil_of_length_eq_zero hk
    have h := made_none b w
    have e : sgn b (val ([].take (min 0 12))) = 0 := by cases b <;> rfl
    rw [e]
    exact h
end Go.Proofs.YtjajmonhcnmidaaDoor
