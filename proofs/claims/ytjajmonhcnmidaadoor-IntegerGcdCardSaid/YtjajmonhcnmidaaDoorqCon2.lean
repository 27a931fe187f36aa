/- The contracts of division, and what else the laws of division ask for. -/
import Derived.Test.YtjajmonhcnmidaaDoorGj
import Derived.Test.YtjajmonhcnmidaaDoorqDiv
namespace Go.Proofs.YtjajmonhcnmidaaDoor
open Go.RowKit

theorem natAbs_ediv_pos (x : Int) {y : Int} (hy : 0 < y) : (x / y).natAbs ≤ x.natAbs := by
  have h1 := Int.mul_ediv_add_emod x y
  have h2 := Int.emod_nonneg x (show y ≠ 0 by omega)
  have h3 := Int.emod_lt_of_pos x hy
  rcases Int.lt_or_le (x / y) 0 with h | h
  · have h4 : y * (x / y) ≤ 1 * (x / y) := Int.mul_le_mul_of_nonpos_right (by omega) (by omega)
    rcases Int.lt_or_le (x / y) (-1) with h5 | h5
    · have h6 : y * (x / y + 1) ≤ 1 * (x / y + 1) := Int.mul_le_mul_of_nonpos_right (by omega) (by omega)
      rw [Int.mul_add] at h6
      omega
    · have h7 : x / y = -1 := by omega
      rw [h7] at h1 ⊢
      omega
  · have h4 : 1 * (x / y) ≤ y * (x / y) := Int.mul_le_mul_of_nonneg_right (by omega) h
    omega
theorem Sm.div {x y : Int} {i : Nat} (h : Sm x i) : Sm (x / y) i := by
  unfold Sm at *
  have : (x / y).natAbs ≤ x.natAbs := by
    rcases Int.lt_trichotomy y 0 with hy | hy | hy
    · rw [show x / y = -(x / (-y)) from by rw [Int.ediv_neg, Int.neg_neg], Int.natAbs_neg]
      exact natAbs_ediv_pos _ (by omega)
    · subst hy; simp
    · exact natAbs_ediv_pos _ hy
  omega
theorem Sm.mod {x y : Int} {j : Nat} (h : Sm y j) (hy : y ≠ 0) : Sm (x % y) j := by
  unfold Sm at *
  have h1 := Int.emod_nonneg x hy
  have h2 := Int.emod_lt x hy
  omega
theorem Sm.abs {x : Int} {i : Nat} (h : Sm x i) : Sm ((x.natAbs : Nat) : Int) i := by
  unfold Sm at *
  rw [Int.natAbs_natCast]
  exact h
theorem sm_549 {z : Int} {k : Nat} (h : Sm z k) (hk : k ≤ 1000) : len z.natAbs ≤ 549755813888 := Nat.le_trans (len_le_pow h) (by omega)
section
variable {w : World} {va vb : Value} {x y : Int} {i j : Nat}
theorem kDivMod (ha : (intF x).p va w) (hb : (intF y).p vb w) (sx : Sm x i) (sy : Sm y j) (hi : i ≤ 1000) (hj : j ≤ 1000) (hy : y ≠ 0) : Calls Tryd.prog 31 #[va, vb] w (GivesP (tup3F (intF (x / y)) (intF (x % y)) (eqF (.int .i64 0))) w) :=
  (DivMod_any va vb x y w ha hb (sm_549 sx hi) (sm_549 sy hj) hy).mono fun _ _ ⟨_vq, _vr, he, hq, hr, hb⟩ => ⟨_, he, ⟨_, _, _, rfl, hq, hr, rfl⟩, hb⟩
theorem kDivMod0 (ha : (intF x).p va w) (hb : (intF y).p vb w) (sx : Sm x i) (hi : i ≤ 1000) (hy : y = 0) : Calls Tryd.prog 31 #[va, vb] w (GivesP (tup3F (intF 0) (intF 0) (eqF (.int .i64 3))) w) := by
  subst hy
  exact (DivMod_zero va vb x w ha hb (sm_549 sx hi)).mono fun _ _ ⟨vq, vr, he, hq, hr, hb⟩ => ⟨_, he, ⟨_, _, _, rfl, hq, hr, rfl⟩, hb⟩
theorem kRMadeN {n : Nat} (ha : (natF n).p va w) (hv : (eqF (.bool false)).p vb w) (hn : len n ≤ 4398046511104) : Calls Tryd.prog 32 #[va, vb] w (GivesP (intF (n : Int)) w) := by
  have hv : vb = .bool false := hv
  subst hv
  have ha : NatAt w va n := ha
  obtain ⟨A, c, rfl, H⟩ := ha.open_
  have h := Made_any A (len n) c (limbs n) false w (len_limbs n) H.out.mem.2.2.raw hn H.out.mem.2.1 (limbs_32 n)
  rw [val_limbs] at h
  exact h
end
theorem h_build0 {ρ : Operand → Value} {w : World} : Yld (.build 27 #[]) ρ w (intF 0) := ⟨.agg #[.bool false, .slice none 0 0], w, fun o ho => by unfold execOp; rw [ho]; simp [go_sem], Below.refl _ _, IntAt.zero w none 0⟩
theorem fldI1 (q : Nat) (w : World) : (Instr.fieldAt 27 (.pointer (some ⟨q, 0, none⟩)) 1).run Tryd.prog w = .ok (.pointer (some ⟨q, 1, none⟩)) w := by simp [go_sem]
theorem loadI_mag {z : Int} (w : World) (q : Nat) (h : (boxIF z).p q w) : ∃ v, (Instr.loadAt 22 (.pointer (some ⟨q, 1, none⟩))).run Tryd.prog w = .ok v w ∧ (natF z.natAbs).p v w := by
  obtain ⟨b, A, k, c, hh, s, e, hs⟩ := h
  have h1 : w.cell? ⟨q, 1, none⟩ = some (.slice A k c) := by rw [cell_of_row w q 1 _ _ (0, 0) hh]; rfl
  simp only [Value.agg.injEq, Array.mk.injEq, List.cons.injEq, and_true] at e
  exact ⟨.slice A k c, by simp [go_sem, h1], e.2 ▸ hs⟩
end Go.Proofs.YtjajmonhcnmidaaDoor
