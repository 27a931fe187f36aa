/- Walks: the law of Valid, given the fixed examples. -/
import Derived.Test.YtjajmonhcnmidaaDoorqSan0
import Derived.Deep.RegionHeld3
namespace Go.Proofs.YtjajmonhcnmidaaDoor
open Go.RowKit

/-- The fixed examples hold in every world with the table. -/
def Sanity : Prop := ∀ w : World, P10 w → Calls Tryd.prog 11 #[] w fun e w' => e = .returned (.bool true) ∧ Below w.heap.size w w'
theorem cells2 {w : World} {g : Nat} {x y : Value} {T : TypeId} (h : w.heap[g]? = some (.cells #[x, y] T (0, 0))) : w.cell? ⟨g, 0, none⟩ = some x ∧ w.cell? ⟨g, 1, none⟩ = some y :=
  ⟨by rw [cell_of_row w g 0 _ _ (0, 0) h]; rfl, by rw [cell_of_row w g 1 _ _ (0, 0) h]; rfl⟩
theorem RawMem.more_ {w : World} {B B' : Nat} {A : Option Addr} {ms : List Nat} (h : RawMem w B A ms) (hB : B ≤ B') : RawMem w B' A ms := fun hn => by
  obtain ⟨ad, e, hb, hc⟩ := h hn
  exact ⟨ad, e, by omega, hc⟩
theorem lt_of_some {w : World} {g : Nat} {o : Obj} (h : w.heap[g]? = some o) : g < w.heap.size := by
  rcases Nat.lt_or_ge g w.heap.size with hlt | hge
  · exact hlt
  · rw [Array.getElem?_eq_none hge] at h; cases h

set_option maxRecDepth 100000 in
set_option maxHeartbeats 6400000 in
theorem Valid_law (hS : Sanity) (b : Bool) (A : Option Addr) (k c : Nat) (ms : List Nat) (n : Int) (w : World) (hk : ms.length = k) (hm : RawMem w w.heap.size A ms) (hl : k ≤ 2305843009213693952) (h0 : -9223372036854775808 ≤ n) (h1 : n ≤ 9223372036854775807) (htab : P10 w) :
    Calls Tryd.prog 4 #[.agg #[.slice A k c, .bool b], .int .i64 n] w fun e w' => e = .returned (.bool true) ∧ Below w.heap.size w w' := by
  have HT := Lib.hid htab
  have HM := Lib.hid hm
  have HK := Lib.hid hk
  have HBX0 := Lib.hid (heap1 w (.cells #[.slice A k c, .bool b] 24))
  clear htab hm hk
  go_enter Tryd.func4, Tryd.ntmps4
  go_wp2_with fail
  refine (hS _ (tab_below HT.out (below_alloc _ _))).mono ?_
  rintro e w1 ⟨rfl, hb1⟩
  have HX1 := Lib.hid ((hb1.block _ (lt_of_some HBX0.out)).trans HBX0.out)
  have HB1 := Lib.hid (step_below (below_alloc _ _) hb1)
  have HM1 := Lib.hid (HM.out.below HB1.out)
  clear hb1 HBX0
  have hcc := cells2 HX1.out
  obtain ⟨hx0, hx1⟩ := hcc
  rcases Nat.eq_zero_or_pos k with hz | hz
  · have hv : validB b ms = !b := by simp [validB, HK.out, hz]
    have HV := Lib.hid hv
    subst hz
    clear hv
    cases b
    · go_wp2_with fail
      refine (Of_any n _ h0 h1).mono ?_
      rintro e w2 ⟨vn, rfl, hn, hb2⟩
      obtain ⟨An, cn, rfl, Hn⟩ := hn.parts_ (n := n.natAbs) (b := decide (n < 0)) rfl rfl
      have HN := Lib.hid (IntAt.back (z := n) Hn.out rfl rfl)
      have HB2 := Lib.hid (step_below HB1.out hb2)
      have HX := Lib.hid ((hb2.block _ (lt_of_some HX1.out)).trans HX1.out)
      clear hb2 hn Hn
      obtain ⟨bx, hb3⟩ := one_new HN.out
      have hcc := bx.cells
      obtain ⟨hc0, hc1⟩ := hcc
      have HBX := Lib.hid bx
      have HB3 := Lib.hid (step_below HB2.out hb3)
      have HX3 := Lib.hid ((hb3.block _ (lt_of_some HX.out)).trans HX.out)
      clear bx hb3
      go_wp2_with fail
      generalize w2.alloc (.cells #[.bool (decide (n < 0)), .slice An (len n.natAbs) cn] 27) = W at *
      refine (Small_yes _ n _ HBX.out.int h0 h1).mono ?_
      rintro e w4 ⟨rfl, hb4⟩
      have HB4 := Lib.hid (step_below HB3.out hb4)
      have HBX4 := Lib.hid (HBX.out.into hb4)
      have HX4 := Lib.hid ((hb4.block _ (lt_of_some HX3.out)).trans HX3.out)
      clear hb4 hc0 hc1
      have hcc := HBX4.out.cells
      obtain ⟨hc0, hc1⟩ := hcc
      have hcx := cells2 HX4.out
      obtain ⟨hx0, hx1⟩ := hcx
      go_wp2_with fail
      refine (Valid_raw _ A 0 c ms _ HK.out (RawMem.more_ (HM.out.below HB4.out) HB4.out.size) hl).mono ?_
      rintro e w5 ⟨rfl, hb5⟩
      rw [HV.out]
      have HB5 := Lib.hid (step_below HB4.out hb5)
      have HBX5 := Lib.hid (HBX4.out.into hb5)
      clear hb5 hc0 hc1 hx0 hx1
      have hcc := HBX5.out.cells
      obtain ⟨hc0, hc1⟩ := hcc
      go_wp2_with fail
      refine (Valid_lit _ n _ HBX5.out.int (by omega)).mono ?_
      rintro e w6 ⟨rfl, hb6⟩
      have HB6 := Lib.hid (step_below HB5.out hb6)
      have HBX6 := Lib.hid (HBX5.out.into hb6)
      clear hb6 hc0 hc1
      have hcc := HBX6.out.cells
      obtain ⟨hc0, hc1⟩ := hcc
      go_wp2
      go_ret
      exact ⟨rfl, HB6.out⟩
    · go_wp2_with fail
      refine (Of_any n _ h0 h1).mono ?_
      rintro e w2 ⟨vn, rfl, hn, hb2⟩
      obtain ⟨An, cn, rfl, Hn⟩ := hn.parts_ (n := n.natAbs) (b := decide (n < 0)) rfl rfl
      have HN := Lib.hid (IntAt.back (z := n) Hn.out rfl rfl)
      have HB2 := Lib.hid (step_below HB1.out hb2)
      have HX := Lib.hid ((hb2.block _ (lt_of_some HX1.out)).trans HX1.out)
      clear hb2 hn Hn
      obtain ⟨bx, hb3⟩ := one_new HN.out
      have hcc := bx.cells
      obtain ⟨hc0, hc1⟩ := hcc
      have HBX := Lib.hid bx
      have HB3 := Lib.hid (step_below HB2.out hb3)
      have HX3 := Lib.hid ((hb3.block _ (lt_of_some HX.out)).trans HX.out)
      clear bx hb3
      go_wp2_with fail
      generalize w2.alloc (.cells #[.bool (decide (n < 0)), .slice An (len n.natAbs) cn] 27) = W at *
      refine (Small_yes _ n _ HBX.out.int h0 h1).mono ?_
      rintro e w4 ⟨rfl, hb4⟩
      have HB4 := Lib.hid (step_below HB3.out hb4)
      have HBX4 := Lib.hid (HBX.out.into hb4)
      have HX4 := Lib.hid ((hb4.block _ (lt_of_some HX3.out)).trans HX3.out)
      clear hb4 hc0 hc1
      have hcc := HBX4.out.cells
      obtain ⟨hc0, hc1⟩ := hcc
      have hcx := cells2 HX4.out
      obtain ⟨hx0, hx1⟩ := hcx
      go_wp2_with fail
      refine (Valid_raw _ A 0 c ms _ HK.out (RawMem.more_ (HM.out.below HB4.out) HB4.out.size) hl).mono ?_
      rintro e w5 ⟨rfl, hb5⟩
      rw [HV.out]
      have HB5 := Lib.hid (step_below HB4.out hb5)
      have HBX5 := Lib.hid (HBX4.out.into hb5)
      clear hb5 hc0 hc1 hx0 hx1
      have hcc := HBX5.out.cells
      obtain ⟨hc0, hc1⟩ := hcc
      go_wp2_with fail
      refine (Valid_lit _ n _ HBX5.out.int (by omega)).mono ?_
      rintro e w6 ⟨rfl, hb6⟩
      have HB6 := Lib.hid (step_below HB5.out hb6)
      have HBX6 := Lib.hid (HBX5.out.into hb6)
      clear hb6 hc0 hc1
      have hcc := HBX6.out.cells
      obtain ⟨hc0, hc1⟩ := hcc
      go_wp2
      go_ret
      exact ⟨rfl, HB6.out⟩
  · have hlk : k - 1 < ms.length := by rw [HK.out]; omega
    obtain ⟨ad, rfl, hlt, hcell⟩ := HM1.out.at_ hlk
    have hg := getD_of_lt hlk
    have hv : validB b ms = ((ms[k - 1]'hlk : Int) != 0) := by
      unfold validB
      rw [if_neg (by rw [HK.out]; omega), HK.out, hg, Bool.eq_iff_iff]
      simp
    generalize ms[k - 1]'hlk = p at *
    have HV := Lib.hid hv
    have hne : ((k : Int) == 0) = false := by simp; omega
    have hgt : decide ((0 : Int) < (k : Int)) = true := by simp; omega
    have hgt' : decide (0 < k) = true := by simp; omega
    clear hv hg hlt hlk
    go_wp2_with fail
    refine (Of_any n _ h0 h1).mono ?_
    rintro e w2 ⟨vn, rfl, hn, hb2⟩
    obtain ⟨An, cn, rfl, Hn⟩ := hn.parts_ (n := n.natAbs) (b := decide (n < 0)) rfl rfl
    have HN := Lib.hid (IntAt.back (z := n) Hn.out rfl rfl)
    have HB2 := Lib.hid (step_below HB1.out hb2)
    have HX := Lib.hid ((hb2.block _ (lt_of_some HX1.out)).trans HX1.out)
    clear hb2 hn Hn
    obtain ⟨bx, hb3⟩ := one_new HN.out
    have hcc := bx.cells
    obtain ⟨hc0, hc1⟩ := hcc
    have HBX := Lib.hid bx
    have HB3 := Lib.hid (step_below HB2.out hb3)
    have HX3 := Lib.hid ((hb3.block _ (lt_of_some HX.out)).trans HX.out)
    clear bx hb3
    go_wp2_with fail
    generalize w2.alloc (.cells #[.bool (decide (n < 0)), .slice An (len n.natAbs) cn] 27) = W at *
    refine (Small_yes _ n _ HBX.out.int h0 h1).mono ?_
    rintro e w4 ⟨rfl, hb4⟩
    have HB4 := Lib.hid (step_below HB3.out hb4)
    have HBX4 := Lib.hid (HBX.out.into hb4)
    have HX4 := Lib.hid ((hb4.block _ (lt_of_some HX3.out)).trans HX3.out)
    clear hb4 hc0 hc1
    have hcc := HBX4.out.cells
    obtain ⟨hc0, hc1⟩ := hcc
    have hcx := cells2 HX4.out
    obtain ⟨hx0, hx1⟩ := hcx
    go_wp2_with fail
    refine (Valid_raw _ (some ad) k c ms _ HK.out (RawMem.more_ (HM.out.below HB4.out) HB4.out.size) hl).mono ?_
    rintro e w5 ⟨rfl, hb5⟩
    rw [HV.out]
    have HB5 := Lib.hid (step_below HB4.out hb5)
    have HBX5 := Lib.hid (HBX4.out.into hb5)
    clear hb5 hc0 hc1 hx0 hx1
    have hcc := HBX5.out.cells
    obtain ⟨hc0, hc1⟩ := hcc
    go_wp2_with fail
    refine (Valid_lit _ n _ HBX5.out.int (by omega)).mono ?_
    rintro e w6 ⟨rfl, hb6⟩
    have HB6 := Lib.hid (step_below HB5.out hb6)
    have HBX6 := Lib.hid (HBX5.out.into hb6)
    clear hb6 hc0 hc1
    have hcc := HBX6.out.cells
    obtain ⟨hc0, hc1⟩ := hcc
    go_wp2
    go_ret
    exact ⟨rfl, HB6.out⟩
end Go.Proofs.YtjajmonhcnmidaaDoor
