/- Facts for the fixed examples: boxes of integers, and the examples' calls. -/
import Derived.Test.YtjajmonhcnmidaaDoorGf
import Derived.Test.YtjajmonhcnmidaaDoorqTx
import Derived.Test.YtjajmonhcnmidaaDoorqRd
import Derived.Test.YtjajmonhcnmidaaDoorGe
import Derived.Test.YtjajmonhcnmidaaDoorqPow
namespace Go.Proofs.YtjajmonhcnmidaaDoor
open Go.RowKit

theorem len_small {n : Nat} (h : n < 18446744073709551616) : len n ≤ 1099511627776 := Nat.le_trans (len_le_two h) (by decide)
theorem DM_lit (va vb : Value) (a b q r : Int) (w : World) (ha : IntAt w va a) (hb : IntAt w vb b) (ha64 : a.natAbs < 18446744073709551616) (hb64 : b.natAbs < 18446744073709551616) (hb0 : b ≠ 0) (hq : a / b = q) (hr : a % b = r) :
    Calls Tryd.prog 31 #[va, vb] w (GivesDM q r 0 w) := by
  subst hq hr
  exact DivMod_small va vb a b w ha hb ha64 hb64 hb0
theorem Same_lit (va vb : Value) (z : Int) (w : World) (ha : IntAt w va z) (hb : IntAt w vb z) (hl : z.natAbs < 18446744073709551616) :
    Calls Tryd.prog 21 #[va, vb] w fun e w' => e = .returned (.bool true) ∧ Below w.heap.size w w' :=
  (Same_any va vb z z w ha hb (len_small hl) (len_small hl)).mono fun _ _ ⟨he, h⟩ => ⟨by rw [he, decide_eq_true rfl], h⟩
theorem Pow_2_32 (v : Value) (w : World) (h : IntAt w v 2) :
    Calls Tryd.prog 36 #[v, .int .i64 32] w fun e w' => ∃ v', e = .returned (.tuple #[v', .int .i64 0]) ∧ IntAt w' v' 4294967296 ∧ Below w.heap.size w w' :=
  (Pow_any v 2 32 w h (Nat.le_trans (len_le_two (by decide)) (by decide)) (by decide)).mono fun _ _ ⟨v', he, hi, hb⟩ => ⟨v', he, hi, hb⟩
theorem Pow_2_257 (v : Value) (w : World) (h : IntAt w v 2) :
    Calls Tryd.prog 36 #[v, .int .i64 257] w fun e w' => ∃ v', e = .returned (.tuple #[v', .int .i64 1]) ∧ IntAt w' v' 0 ∧ Below w.heap.size w w' := by
  obtain ⟨b, A, k, c, e, _⟩ := h.open_
  exact Pow_err v 257 w ⟨b, A, k, c, e⟩ (by omega) (by omega) (by omega)
theorem Small_yes (v : Value) (z : Int) (w : World) (h : IntAt w v z) (h0 : -9223372036854775808 ≤ z) (h1 : z ≤ 9223372036854775807) :
    Calls Tryd.prog 13 #[v] w fun e w' => e = .returned (.tuple #[.int .i64 z, .bool true]) ∧ Below w.heap.size w w' := by
  have e : inI64 z = true := by simp [inI64, h0, h1]
  refine (Small_any v z w h (len_small (by omega))).mono ?_
  rintro e' w' ⟨he, hb⟩
  rw [e] at he
  exact ⟨he, hb⟩

/-- A box with an integer. -/
def BoxI (w : World) (g : Nat) (v : Value) (z : Int) : Prop := ∃ b A k c, v = .agg #[.bool b, .slice A k c] ∧ w.heap[g]? = some (.cells #[.bool b, .slice A k c] 27 (0, 0)) ∧ IntAt w v z
theorem BoxI.lt {w : World} {g : Nat} {v : Value} {z : Int} (h : BoxI w g v z) : g < w.heap.size := by
  obtain ⟨b, A, k, c, _, h, _⟩ := h
  rcases Nat.lt_or_ge g w.heap.size with hlt | hge
  · exact hlt
  · rw [Array.getElem?_eq_none hge] at h; cases h
theorem BoxI.into {w w' : World} {g : Nat} {v : Value} {z : Int} (h : BoxI w g v z) (hb : Below w.heap.size w w') : BoxI w' g v z := by
  have hl := h.lt
  obtain ⟨b, A, k, c, e, h, hi⟩ := h
  exact ⟨b, A, k, c, e, (hb.block g hl).trans h, hi.into hb⟩
theorem BoxI.cells {w : World} {g : Nat} {b : Bool} {A : Option Addr} {k c : Nat} {z : Int} (h : BoxI w g (.agg #[.bool b, .slice A k c]) z) : w.cell? ⟨g, 0, none⟩ = some (.bool b) ∧ w.cell? ⟨g, 1, none⟩ = some (.slice A k c) := by
  obtain ⟨b', A', k', c', e, h, hi⟩ := h
  cases e
  obtain ⟨h0, h1, _, _, _⟩ := box_in h (Below.refl _ _)
  exact ⟨h0, h1⟩
theorem BoxI.int {w : World} {g : Nat} {v : Value} {z : Int} (h : BoxI w g v z) : IntAt w v z := by
  obtain ⟨b', A', k', c', e, h, hi⟩ := h
  exact hi
theorem one_new {w : World} {b : Bool} {A : Option Addr} {k c : Nat} {z : Int} (h : IntAt w (.agg #[.bool b, .slice A k c]) z) :
    BoxI (w.alloc (.cells #[.bool b, .slice A k c] 27)) w.heap.size (.agg #[.bool b, .slice A k c]) z ∧ Below w.heap.size w (w.alloc (.cells #[.bool b, .slice A k c] 27)) :=
  ⟨⟨b, A, k, c, rfl, heap1 w _, h.into (below_alloc _ _)⟩, below_alloc _ _⟩
theorem two_new {w : World} {b : Bool} {A : Option Addr} {k c : Nat} {z : Int} {b2 : Bool} {A2 : Option Addr} {k2 c2 : Nat} {z2 : Int} (h : IntAt w (.agg #[.bool b, .slice A k c]) z) (h2 : IntAt w (.agg #[.bool b2, .slice A2 k2 c2]) z2) :
    BoxI ((w.alloc (.cells #[.bool b, .slice A k c] 27)).alloc (.cells #[.bool b2, .slice A2 k2 c2] 27)) w.heap.size (.agg #[.bool b, .slice A k c]) z ∧
    BoxI ((w.alloc (.cells #[.bool b, .slice A k c] 27)).alloc (.cells #[.bool b2, .slice A2 k2 c2] 27)) (w.heap.size + 1) (.agg #[.bool b2, .slice A2 k2 c2]) z2 ∧
    Below w.heap.size w ((w.alloc (.cells #[.bool b, .slice A k c] 27)).alloc (.cells #[.bool b2, .slice A2 k2 c2] 27)) := by
  obtain ⟨x1, y1⟩ := one_new h
  obtain ⟨x2, y2⟩ := one_new (h2.into y1)
  rw [size_alloc'] at x2
  exact ⟨x1.into y2, x2, step_below y1 y2⟩
theorem Gcd_lit (va vb : Value) (a b g : Int) (w : World) (ha : IntAt w va a) (hb : IntAt w vb b) (hx : a.natAbs < 18446744073709551616) (hy : b.natAbs < 18446744073709551616) (hg : ((Nat.gcd a.natAbs b.natAbs : Nat) : Int) = g) :
    Calls Tryd.prog 33 #[va, vb] w (GivesInt g w) := by
  subst hg
  exact Gcd_small va vb a b w ha hb hx hy
theorem Sign_zero (v : Value) (w : World) (h : IntAt w v 0) : Calls Tryd.prog 28 #[v] w fun e w' => e = .returned (.int .i64 0) ∧ Below w.heap.size w w' :=
  Sign_any v 0 w h (len_small (by decide))
theorem Text_m120 (v : Value) (w : World) (h : IntAt w v (-120)) (htab : P10 w) : Calls Tryd.prog 38 #[v] w fun e w' => e = .returned (.string ⟨#[45, 49, 50, 48]⟩) ∧ Below w.heap.size w w' := by
  have ht : textB true 120 = [45, 49, 50, 48] := by decide +kernel
  have := Text_small v true 120 w h (by decide) (by decide) htab
  rw [ht] at this
  exact this
theorem Valid_nil (w : World) : Calls Tryd.prog 19 #[.agg #[.bool true, .slice none 0 0]] w fun e w' => e = .returned (.bool false) ∧ Below w.heap.size w w' :=
  Valid_raw true none 0 0 [] w rfl (fun h => absurd h (by simp)) (by decide)
theorem Valid_zero0 (w : World) (g : Nat) (h : w.cell? ⟨g, 0, none⟩ = some (.int .u32 0)) (hg : g < w.heap.size) : Calls Tryd.prog 19 #[.agg #[.bool false, .slice (some ⟨g, 0, none⟩) 1 1]] w fun e w' => e = .returned (.bool false) ∧ Below w.heap.size w w' :=
  Valid_raw false (some ⟨g, 0, none⟩) 1 1 [0] w rfl (fun _ => ⟨_, rfl, hg, fun j x hj => by
    rcases j with _ | j
    · simp at hj; subst hj; rw [Lib.add_plain]; exact h
    · simp at hj⟩) (by decide)
theorem Valid_new0 (w : World) : Calls Tryd.prog 19 #[.agg #[.bool false, .slice (some ⟨w.heap.size, 0, none⟩) 1 1]] (w.alloc (.cells #[.int .u32 0] 38)) fun e w' => e = .returned (.bool false) ∧ Below (w.alloc (.cells #[.int .u32 0] 38)).heap.size (w.alloc (.cells #[.int .u32 0] 38)) w' :=
  Valid_zero0 _ _ (by rw [cell_of_row _ _ _ _ _ (0, 0) (heap1 w _)]; rfl) (by simp)
theorem Valid_lit (v : Value) (z : Int) (w : World) (h : IntAt w v z) (hl : z.natAbs < 18446744073709551616) : Calls Tryd.prog 19 #[v] w fun e w' => e = .returned (.bool true) ∧ Below w.heap.size w w' :=
  Valid_int v z w h (len_small hl)
theorem lit_m5 (w : World) : IntAt (w.alloc (.cells #[.int .u32 5] 38)) (.agg #[.bool true, .slice (some ⟨w.heap.size, 0, none⟩) 1 1]) (-5) := by
  have h := (Row.new w [5]).nat (L32.mk (by decide) L32.nil_) (c := 1) (by decide)
  have e : val [5] = 5 := rfl
  rw [e] at h
  have e2 : len 5 = 1 := by rw [len_pos (by decide)]; simp [len_zero]
  rw [e2] at h
  exact ⟨_, rfl, h⟩
theorem lit_p32 (w : World) : IntAt (w.alloc (.cells #[.int .u32 0, .int .u32 1] 38)) (.agg #[.bool false, .slice (some ⟨w.heap.size, 0, none⟩) 2 2]) 4294967296 := by
  have h := (Row.new w [0, 1]).nat (L32.mk (by decide) (L32.mk (by decide) L32.nil_)) (c := 2) (by decide)
  have e : val [0, 1] = 4294967296 := rfl
  rw [e] at h
  have e2 : len 4294967296 = 2 := by rw [len_pos (by decide), show 4294967296 / 4294967296 = 1 from rfl, len_pos (by decide)]; simp [len_zero]
  rw [e2] at h
  exact ⟨_, rfl, h⟩
end Go.Proofs.YtjajmonhcnmidaaDoor
