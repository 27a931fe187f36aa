/- Walks: DivMod by zero, and of small numbers. -/
import Derived.Test.YtjajmonhcnmidaaDoorDM
import Derived.Test.YtjajmonhcnmidaaDoorD1
namespace Go.Proofs.YtjajmonhcnmidaaDoor
open Go.RowKit

set_option maxHeartbeats 1600000 in
theorem DivMod_zero (va vb : Value) (a : Int) (w : World) (ha : IntAt w va a) (hb : IntAt w vb 0) (hla : len a.natAbs ≤ 549755813888) :
    Calls Tryd.prog 31 #[va, vb] w (GivesDM 0 0 3 w) := by
  obtain ⟨x, hx⟩ : ∃ n, a.natAbs = n := ⟨_, rfl⟩
  obtain ⟨p, hp⟩ : ∃ s, decide (a < 0) = s := ⟨_, rfl⟩
  rw [hx] at hla
  obtain ⟨A, c, rfl, HA⟩ := ha.parts_ hx hp
  obtain ⟨B, d, rfl, HB⟩ := hb.parts_ (n := 0) (b := false) rfl rfl
  have HIA := Lib.hid (IntAt.back HA.out hx hp)
  have HIB := Lib.hid (IntAt.back (z := 0) HB.out rfl rfl)
  have HX := Lib.hid hx
  have HP := Lib.hid hp
  have HH := Lib.hid (heap4 w (.cells #[.bool p, .slice A (len x) c] 27) (.cells #[.bool false, .slice B (len 0) d] 27) (.cells #[.bool false, .slice none 0 0] 27) (.cells #[.bool false, .slice none 0 0] 27))
  have HW := Lib.hid (below4 w (.cells #[.bool p, .slice A (len x) c] 27) (.cells #[.bool false, .slice B (len 0) d] 27) (.cells #[.bool false, .slice none 0 0] 27) (.cells #[.bool false, .slice none 0 0] 27))
  clear hx hp ha hb HA HB
  go_enter Tryd.func31, Tryd.ntmps31
  go_wp2_with fail
  generalize (((w.alloc (.cells #[.bool p, .slice A (len x) c] 27)).alloc (.cells #[.bool false, .slice B (len 0) d] 27)).alloc (.cells #[.bool false, .slice none 0 0] 27)).alloc (.cells #[.bool false, .slice none 0 0] 27) = W at *
  refine (parts_is _ a x p _ (HIA.out.into HW.out) HX.out HP.out (by omega)).mono ?_
  rintro e w1 ⟨A1, c1, rfl, H1, hb1⟩
  have hB1 := Lib.hid hb1
  obtain ⟨hc0, hc1, hf0, hf1, hs⟩ := box_in HH.out.2.1 hb1
  clear hb1
  go_wp2_with fail
  refine (parts_is _ 0 0 false _ (HIB.out.into (step_below HW.out hB1.out)) rfl rfl (by rw [len_zero]; omega)).mono ?_
  rintro e w2 ⟨B1, d1, rfl, H2, hb2⟩
  rw [len_zero]
  have hB2 := Lib.hid (step_below hB1.out hb2)
  clear hb2 hc0 hc1 hf0 hf1 hs hB1 H1
  obtain ⟨hc0, hc1, hf0, hf1, hs⟩ := box_in HH.out.2.2.1 hB2.out
  obtain ⟨gc0, gc1, gf0, gf1, gs⟩ := box_in HH.out.2.2.2 hB2.out
  have HE := Lib.hid (box_end2 (x' := .bool false) (y' := .slice none 0 0) (x'' := .bool false) (y'' := .slice none 0 0) HH.out.2.2.1 HH.out.2.2.2 hB2.out (IntAt.zero w2 none 0) (IntAt.zero w2 none 0) HW.out (by omega) (by omega))
  go_wp2
  refine bodyPost_ret (v := .tuple #[.agg #[.bool false, .slice none 0 0], .agg #[.bool false, .slice none 0 0], .int .i64 3]) (by simp [results, Tryd.results31, go_sem, hs, hc0, hc1, gs, gc0, gc1]) rfl ⟨_, _, rfl, HE.out.1, HE.out.2.1, HE.out.2.2⟩

theorem DivMod_small (va vb : Value) (a b : Int) (w : World) (ha : IntAt w va a) (hb : IntAt w vb b) (ha64 : a.natAbs < 18446744073709551616) (hb64 : b.natAbs < 18446744073709551616) (hb0 : b ≠ 0) :
    Calls Tryd.prog 31 #[va, vb] w (GivesDM (a / b) (a % b) 0 w) := by
  have hla := len_le_two ha64
  have hlb := len_le_two hb64
  refine DivMod_from va vb a b w ha hb (by omega) (by omega) hb0 fun u v W hu hv => ?_
  rcases Nat.lt_or_ge a.natAbs b.natAbs with hlt | hge
  · exact divide_lt u v _ _ W hu hv (by omega) (by omega) hlt
  · exact divide_small u v _ _ W hu hv (by omega) hge ha64
end Go.Proofs.YtjajmonhcnmidaaDoor
