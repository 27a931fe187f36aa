/- Contracts and facts for the reference's divide and DivMod. -/
import Derived.Test.YtjajmonhcnmidaaDoorqCon2
import Derived.Test.YtjajmonhcnmidaaDoorqREst
import Derived.Test.YtjajmonhcnmidaaDoorqOps2
namespace Go.Proofs.YtjajmonhcnmidaaDoor
open Go.RowKit

/-- Limbs whose value is n, not always trimmed. -/
def magF (n : Nat) : PF := ⟨fun v w => ∃ (A : Option Addr) (k c : Nat) (ms : List Nat), v = .slice A k c ∧ ms.length = k ∧ k ≤ c ∧ k ≤ 4398046511104 ∧ L32 ms ∧ val ms = n ∧ Mem w w.heap.size A ms,
  fun _ _ _ hg ⟨A, k, c, ms, e, h1, h2, h3, h4, h5, h6⟩ => ⟨A, k, c, ms, e, h1, h2, h3, h4, h5, h6.grow hg⟩⟩
section
variable {w Wb : World} {va vb : Value}
theorem kRMadeM {n : Nat} (ha : (magF n).p va w) (hv : (eqF (.bool false)).p vb w) : Calls Tryd.prog 32 #[va, vb] w (GivesP (intF (n : Int)) w) := by
  have hv : vb = .bool false := hv
  subst hv
  obtain ⟨A, k, c, ms, rfl, h1, h2, h3, h4, rfl, h6⟩ := ha
  exact Made_any A k c ms false w h1 h6.raw h3 h2 h4
theorem kRShort {n d : Nat} (ha : (natF n).p va w) (hv : (eqF (.int .u32 (d : Int))).p vb w) (hn : len n ≤ 4398046511104) (h0 : 0 < d) (h1 : d < 4294967296) : Calls Tryd.prog 71 #[va, vb] w (GivesP (tup2F (magF (n / d)) (eqF (.int .u32 ((n % d : Nat) : Int)))) w) := by
  have hv : vb = .int .u32 (d : Int) := hv
  subst hv
  have ha : NatAt w va n := ha
  obtain ⟨A, c, rfl, H⟩ := ha.open_
  refine (RShort_any A (len n) c (limbs n) d w (len_limbs n) H.out.mem.2.2 (limbs_32 n) hn h0 h1).mono ?_
  rintro e w' ⟨ds, rfl, hl, h32, hv, hr, hb⟩
  rw [val_limbs] at hv ⊢
  exact ⟨_, rfl, ⟨_, _, rfl, ⟨_, _, _, ds, rfl, hl, Nat.le_refl _, hn, h32, hv, hr.mem hr.lt⟩, rfl⟩, hb⟩
theorem kREst {R D : Nat} (ha : (natF R).p va w) (hb : (natF D).p vb w) (h0 : 0 < D) (hle : D ≤ R) (hl : len R ≤ 1099511627776) : Calls Tryd.prog 72 #[va, vb] w (GivesP (intF (estN R D : Nat)) w) :=
  est_any va vb R D w ha hb h0 hle hl
theorem kRLess {x y : Nat} (ha : (natF x).p va w) (hb : (natF y).p vb w) (hx : len x ≤ 1099511627776) (hy : len y ≤ 1099511627776) : Calls Tryd.prog 50 #[va, vb] w (GivesP (eqF (.bool (decide (x < y)))) w) := by
  have ha : NatAt w va x := ha
  have hb : NatAt w vb y := hb
  obtain ⟨A, c, rfl, H⟩ := ha.open_
  obtain ⟨B, d, rfl, K⟩ := hb.open_
  exact (less_q A B c d x y w H.out K.out hx hy).mono fun _ _ ⟨he, hbb, _⟩ => ⟨_, he, rfl, hbb⟩
/-- Made on a slice that was known before. -/
theorem kRMadeW {n k c : Nat} {ad : Addr} (hN : NatAt Wb (.slice (some ad) k c) n) (hbl : Below Wb.heap.size Wb w) (ha : (eqF (.slice (some ad) k c)).p va w) (hv : (eqF (.bool false)).p vb w) (hn : len n ≤ 4398046511104) : Calls Tryd.prog 32 #[va, vb] w (GivesP (intF (n : Int)) w) := by
  have ha : va = .slice (some ad) k c := ha
  subst ha
  exact kRMadeN (show NatAt w _ n from hN.into hbl) hv hn
/-- Made on an integer's own parts. -/
theorem kRMadeS {z : Int} (ha : (natF z.natAbs).p va w) (hv : (eqF (.bool (decide (z < 0)))).p vb w) (hn : len z.natAbs ≤ 4398046511104) : Calls Tryd.prog 32 #[va, vb] w (GivesP (intF z) w) := by
  have hv : vb = .bool (decide (z < 0)) := hv
  subst hv
  have := Made_nat va z.natAbs (decide (z < 0)) w ha hn
  rwa [sgn_of] at this
end
theorem h_row1 {ρ : Operand → Value} {w : World} {x : Operand} {n : Nat} (hn : n < 4294967296) (hx : (eqF (.int .u32 (n : Int))).p (ρ x) w) : Yld (.buildSlice 22 1 #[(0, x)]) ρ w (magF n) := by
  have hx : ρ x = .int .u32 (n : Int) := hx
  refine ⟨.slice (some ⟨w.heap.size, 0, none⟩) 1 1, w.alloc (rowObj [n]), fun o ho => ?_, below_alloc _ _, ?_⟩
  · unfold execOp
    rw [ho]
    simp [go_sem, hx, rowObj]
  · exact ⟨_, _, _, [n], rfl, rfl, Nat.le_refl _, by omega, L32.mk hn L32.nil_, by simp [val], (Row.new w [n]).mem (by simp)⟩
theorem ret_boxI2 {Wb : World} {N : Nat} {S : List (Nat × PF)} {B : List (Nat × CF)} {a : Act} {w : World} {fn : Func} {t t' : Nat} {z z' : Int} (hst : St Wb N S B a w) (hr : fn.results = #[.cell t 27, .cell t' 27]) (k : Nat) (hk : B[k]? = some (t, boxIF z)) (k' : Nat) (hk' : B[k']? = some (t', boxIF z')) : bodyPost Tryd.prog fn (GivesP (tup2F (intF z) (intF z')) Wb) .ret a w := by
  obtain ⟨g, h1, _, b, A, n, c, hh, hi⟩ := hst.boxes.get hk
  obtain ⟨g', h1', _, b', A', n', c', hh', hi'⟩ := hst.boxes.get hk'
  have h0 : w.cell? ⟨g, 0, none⟩ = some (.bool b) := by rw [cell_of_row w g 0 _ _ (0, 0) hh]; rfl
  have h2 : w.cell? ⟨g, 1, none⟩ = some (.slice A n c) := by rw [cell_of_row w g 1 _ _ (0, 0) hh]; rfl
  have h0' : w.cell? ⟨g', 0, none⟩ = some (.bool b') := by rw [cell_of_row w g' 0 _ _ (0, 0) hh']; rfl
  have h2' : w.cell? ⟨g', 1, none⟩ = some (.slice A' n' c') := by rw [cell_of_row w g' 1 _ _ (0, 0) hh']; rfl
  refine bodyPost_ret (v := .tuple #[.agg #[.bool b, .slice A n c], .agg #[.bool b', .slice A' n' c']]) ?_ hst.defers ⟨_, rfl, ⟨_, _, rfl, hi, hi'⟩, hst.below⟩
  simp [results, hr, go_sem, h0, h2, h0', h2', Array.getD_eq_getD_getElem?, h1, h1']
theorem fldI0 (q : Nat) (w : World) : (Instr.fieldAt 27 (.pointer (some ⟨q, 0, none⟩)) 0).run Tryd.prog w = .ok (.pointer (some ⟨q, 0, none⟩)) w := by simp [go_sem]
theorem loadI_neg {z : Int} {e : Bool} (he : decide (z < 0) = e) (w : World) (q : Nat) (h : (boxIF z).p q w) : ∃ v, (Instr.loadAt 4 (.pointer (some ⟨q, 0, none⟩))).run Tryd.prog w = .ok v w ∧ (eqF (.bool e)).p v w := by
  obtain ⟨b, A, k, c, hh, s, e, hs⟩ := h
  have h1 : w.cell? ⟨q, 0, none⟩ = some (.bool b) := by rw [cell_of_row w q 0 _ _ (0, 0) hh]; rfl
  simp only [Value.agg.injEq, Array.mk.injEq, List.cons.injEq, and_true] at e
  exact ⟨.bool b, by simp [go_sem, h1], he ▸ e.1⟩
theorem dm_pos {x y q r : Int} (hy : 0 < y) (h : r + y * q = x) (h0 : 0 ≤ r) (h1 : r < y) : q = x / y ∧ r = x % y := by
  have := (Int.ediv_emod_unique (a := x) (q := q) (r := r) hy).2 ⟨h, h0, h1⟩
  exact ⟨this.1.symm, this.2.symm⟩
theorem dm_neg {x y q r : Int} (hy : y < 0) (h : r + y * q = x) (h0 : 0 ≤ r) (h1 : r < -y) : q = x / y ∧ r = x % y := by
  have := dm_pos (x := x) (y := -y) (q := -q) (r := r) (by omega) (by rw [Int.neg_mul_neg]; exact h) h0 h1
  rw [Int.ediv_neg, Int.emod_neg] at this
  exact ⟨by omega, this.2⟩
/-- Quotient and remainder of absolute values. -/
theorem dm_abs (x y : Int) (hy : y ≠ 0) : ∃ Q R : Int, ((x.natAbs / y.natAbs : Nat) : Int) = Q ∧ ((x.natAbs % y.natAbs : Nat) : Int) = R ∧ R + (y.natAbs : Int) * Q = (x.natAbs : Int) ∧ 0 ≤ R ∧ R < (y.natAbs : Int) := by
  have h := Nat.mod_add_div x.natAbs y.natAbs
  have h2 := Nat.mod_lt x.natAbs (show 0 < y.natAbs by omega)
  refine ⟨_, _, rfl, rfl, ?_, by omega, by omega⟩
  rw [← Int.natCast_mul, ← Int.natCast_add, h]
end Go.Proofs.YtjajmonhcnmidaaDoor
