/- Walks: build, parts, toWord, and the small functions on integers. -/
import Derived.Test.YtjajmonhcnmidaaDoorW2
import Derived.Test.YtjajmonhcnmidaaDoorBox
namespace Go.Proofs.YtjajmonhcnmidaaDoor
open Go.RowKit

set_option maxHeartbeats 400000 in
theorem build_raw (neg : Bool) (A : Option Addr) (n c : Nat) (ms : List Nat) (w : World) (hn : ms.length = n) (hm : Mem w w.heap.size A ms) (hl : n ≤ 4398046511104) (hc : n ≤ c) (h32 : L32 ms) :
    Calls Tryd.prog 45 #[.bool neg, .slice A n c] w (GivesInt (sgn neg (val ms)) w) := by
  obtain ⟨l1, l2, _⟩ := limbs_val h32
  have HN := Lib.hid hn
  have HL := Lib.hid l1
  clear hn l1
  by_cases h0 : val ms = 0
  · have e0 : len (val ms) = 0 := by rw [h0, len_zero]
    have HE := Lib.hid e0
    have H0 := Lib.hid h0
    clear e0 h0
    go_enter Tryd.func45, Tryd.ntmps45
    go_wp2_with fail
    refine (trim_k A n c ms _ HN.out (hm.into (below_alloc _ _)) hl hc h32).mono ?_
    rintro e w' ⟨rfl, rfl⟩
    rw [HE.out]
    go_wp2
    refine bodyPost_ret (v := .agg #[.bool false, .slice none 0 0]) (by simp [results, Tryd.results45, go_sem]) rfl ⟨_, rfl, ?_, ?_⟩
    · rw [H0.out, sgn_zero]; exact IntAt.zero _ _ _
    · first | exact below_alloc _ _ | exact (below_alloc _ _).setCell (by simp) _
  · have e0 : ((len (val ms) : Int) == 0) = false := by
      have : len (val ms) ≠ 0 := fun h => h0 (len_eq_zero.1 h)
      simp; omega
    go_enter Tryd.func45, Tryd.ntmps45
    go_wp2_with fail
    refine (trim_k A n c ms _ HN.out (hm.into (below_alloc _ _)) hl hc h32).mono ?_
    rintro e w' ⟨rfl, rfl⟩
    go_wp2
    refine bodyPost_ret (v := .agg #[.bool neg, .slice A (len (val ms)) c]) (by simp [results, Tryd.results45, go_sem]) rfl ⟨_, rfl, ?_, ?_⟩
    · refine IntAt.mk ⟨A, c, rfl, by have := HN.out; omega, ?_⟩ (fun h => absurd h h0)
      rw [HL.out]
      exact (hm.into (below_alloc _ _)).take _
    · first | exact below_alloc _ _ | exact (below_alloc _ _).setCell (by simp) _

theorem build_any (neg : Bool) (v : Value) (x : Nat) (w : World) (h : NatAt w v x) (hl : len x ≤ 4398046511104) :
    Calls Tryd.prog 45 #[.bool neg, v] w (GivesInt (sgn neg x) w) := by
  obtain ⟨A, c, rfl, hc, hm⟩ := h
  have := build_raw neg A (len x) c (limbs x) w rfl hm hl hc (limbs_32 x)
  rwa [val_limbs] at this

/-- What parts gives of a valid integer. -/
def GivesParts (z : Int) (w : World) (e : Ending) (w' : World) : Prop := ∃ A c, e = .returned (.tuple #[.bool (decide (z < 0)), .slice A (len z.natAbs) c]) ∧ len z.natAbs ≤ c ∧ Mem w' w'.heap.size A (limbs z.natAbs) ∧ Below w.heap.size w w'

set_option maxHeartbeats 400000 in
theorem parts_any (v : Value) (z : Int) (w : World) (h : IntAt w v z) (hl : len z.natAbs ≤ 4398046511104) :
    Calls Tryd.prog 43 #[v] w (GivesParts z w) := by
  obtain ⟨s, rfl, A, c, rfl, hc, hm⟩ := h
  by_cases hz : z < 0
  · have hd : decide (z < 0) = true := by simpa using hz
    have hp : decide (0 < len z.natAbs) = true := by
      have : len z.natAbs ≠ 0 := fun h => by have := len_eq_zero.1 h; omega
      simp; omega
    have HD := Lib.hid hd
    clear hd
    rw [HD.out]
    go_enter Tryd.func43, Tryd.ntmps43
    go_wp2_with fail
    refine (trim_nat A c _ _ (hm.into (below_alloc _ _)) hl hc).mono ?_
    rintro e w' ⟨rfl, rfl⟩
    go_wp2
    go_ret2
    refine ⟨A, c, by rw [HD.out]; rfl, hc, hm.into (below_alloc _ _), below_alloc _ _⟩
  · have hd : decide (z < 0) = false := by simpa using hz
    have HD := Lib.hid hd
    clear hd
    rw [HD.out]
    go_enter Tryd.func43, Tryd.ntmps43
    go_wp2_with fail
    refine (trim_nat A c _ _ (hm.into (below_alloc _ _)) hl hc).mono ?_
    rintro e w' ⟨rfl, rfl⟩
    go_wp2
    go_ret2
    refine ⟨A, c, by rw [HD.out]; rfl, hc, hm.into (below_alloc _ _), below_alloc _ _⟩
theorem parts_is (v : Value) (z : Int) (n : Nat) (b : Bool) (w : World) (h : IntAt w v z) (hn : z.natAbs = n) (hb : decide (z < 0) = b) (hl : len n ≤ 4398046511104) :
    Calls Tryd.prog 43 #[v] w fun e w' => ∃ A c, e = .returned (.tuple #[.bool b, .slice A (len n) c]) ∧ Hid (NatAt w' (.slice A (len n) c) n) ∧ Below w.heap.size w w' := by
  subst hn hb
  exact (parts_any v z w h hl).mono fun e w' ⟨A, c, he, hc, hm, hb⟩ => ⟨A, c, he, ⟨A, c, rfl, hc, hm⟩, hb⟩
end Go.Proofs.YtjajmonhcnmidaaDoor
