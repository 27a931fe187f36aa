/- divisor for all numbers (written by wip/tools/gen_divisor.py). -/
import Derived.Test.YtdofolejfdfocaaGreatDoorqAppl
import Derived.Test.YtdofolejfdfocaaGreatDoorqDivP
import Derived.Test.YtdofolejfdfocaaGreatDoorqR3
namespace Go.Proofs.YtdofolejfdfocaaGreatDoor
open Go.RowKit

section
variable {ops : Array Oper} {N : Nat} {Wb W0 : World} {a0 : Act} {F : List PF} {BX : List BoxS} {AD : List (Nat × Nat × Nat)} {i : Nat} {g : Option (Nat × Bool)}
theorem s_call3 (hP : Plan ops N BX AD) {f : Nat} {x y z : Operand} {T : Array TypeId} {fx fy fz R : PF} (ho : IsOp ops i g (.call { callee := .value (.func f), args := #[x, y, z], argTypes := T })) (hp : plainB BX i = true) (hna : noAd AD i = true) (hg : Grd ops N Wb W0 a0 F BX AD i g true) (hx : Src ops N Wb W0 a0 F BX AD i x fx) (hy : Src ops N Wb W0 a0 F BX AD i y fy) (hz : Src ops N Wb W0 a0 F BX AD i z fz)
    (hpl : Plainly f) (hc : ∀ w vx vy vz, Below Wb.heap.size Wb w → fx.p vx w → fy.p vy w → fz.p vz w → Calls Tryz.prog f #[vx, vy, vz] w (GivesP R w)) (hF : F.getD i anyF = R) : Step ops N Wb W0 a0 F BX AD i :=
  step_call hP ho hp hna fun m a w hI hr => ⟨hg m a w hI hr, f, #[a.eval x, a.eval y, a.eval z], fun _ ho => run_callR ho rfl hpl (by generalize a.eval = ρ; simp), hF ▸ hc w _ _ _ hI.below (hx m a w hI hr) (hy m a w hI hr) (hz m a w hI hr)⟩
end
def StepsOk (p q a0 b0 a1 b1 : Nat) (o : Bool) : Prop := a0 < 4294967296 ∧ b0 < 4294967296 ∧ a1 < 4294967296 ∧ b1 < 4294967296 ∧ (b0 ≠ 0 → Good p q a0 b0 a1 b1 o)
def simF (p q : Nat) : PF := ⟨fun v _ => ∃ (a0 b0 a1 b1 : Nat) (o : Bool), v = .agg #[.int .u64 (a0 : Int), .int .u64 (b0 : Int), .int .u64 (a1 : Int), .int .u64 (b1 : Int), .bool o] ∧ StepsOk p q a0 b0 a1 b1 o, fun _ _ _ _ h => h⟩
def stExF (p q : Nat) : CF := ⟨fun g w => ∃ (a0 b0 a1 b1 : Nat) (o : Bool), StepsOk p q a0 b0 a1 b1 o ∧ (stBF a0 b0 a1 b1 o).p g w,
  fun g w w' hg e ⟨a0, b0, a1, b1, o, hk, h⟩ => ⟨a0, b0, a1, b1, o, hk, (stBF a0 b0 a1 b1 o).st g w w' hg e h⟩, fun g w ⟨a0, b0, a1, b1, o, _, h⟩ => (stBF a0 b0 a1 b1 o).ty g w h⟩
theorem st_open {Wb : World} {N p q : Nat} {S : List (Nat × PF)} {a : Act} {w : World} (hst : St Wb N S [(5, stExF p q)] a w) : ∃ (a0 b0 a1 b1 : Nat) (o : Bool), StepsOk p q a0 b0 a1 b1 o ∧ St Wb N S [(5, stBF a0 b0 a1 b1 o)] a w := by
  obtain ⟨s1, s2, s3, s4, s5, s6, s7⟩ := hst
  obtain ⟨⟨g, h1, h2, a0, b0, a1, b1, o, hk, hb⟩, _⟩ := s6
  exact ⟨a0, b0, a1, b1, o, hk, s1, s2, s3, s4, s5, ⟨⟨g, h1, h2, hb⟩, trivial⟩, by simp⟩
theorem allocS_run (w : World) : (Instr.alloc 99 true (.tuple #[])).run Tryz.prog w = .ok (.pointer (some ⟨w.heap.size, 0, none⟩)) (w.alloc (.cells #[.int .u64 0, .int .u64 0, .int .u64 0, .int .u64 0, .bool false] 99 (0, 0))) := by simp [go_sem]
theorem allocS_old (w : World) : (stBF 0 0 0 0 false).p w.heap.size (w.alloc (.cells #[.int .u64 0, .int .u64 0, .int .u64 0, .int .u64 0, .bool false] 99 (0, 0))) := heap1 w _
theorem storeS {p q : Nat} : StoreOk 99 (stBF 0 0 0 0 false) (simF p q) (stExF p q) := by
  intro w g v h1 h2
  obtain ⟨a0, b0, a1, b1, o, rfl, hk⟩ := h2
  have hh : w.heap[g]? = some (.cells #[.int .u64 0, .int .u64 0, .int .u64 0, .int .u64 0, .bool false] 99 (0, 0)) := h1
  have c0 : w.cell? ⟨g, 0, none⟩ = some (.int .u64 0) := by rw [cell_of_row w g 0 _ _ (0, 0) hh]; rfl
  have c1 : w.cell? ⟨g, 1, none⟩ = some (.int .u64 0) := by rw [cell_of_row w g 1 _ _ (0, 0) hh]; rfl
  have c2 : w.cell? ⟨g, 2, none⟩ = some (.int .u64 0) := by rw [cell_of_row w g 2 _ _ (0, 0) hh]; rfl
  have c3 : w.cell? ⟨g, 3, none⟩ = some (.int .u64 0) := by rw [cell_of_row w g 3 _ _ (0, 0) hh]; rfl
  have c4 : w.cell? ⟨g, 4, none⟩ = some (.bool false) := by rw [cell_of_row w g 4 _ _ (0, 0) hh]; rfl
  have f0 := frozen_of_row hh 0
  have f1 := frozen_of_row hh 1
  have f2 := frozen_of_row hh 2
  have f3 := frozen_of_row hh 3
  have f4 := frozen_of_row hh 4
  have hne : (99 : TypeId) ≠ 76 := by decide
  have k1 := block_setCell hh 0 (.int .u64 (a0 : Int))
  have k2 := block_setCell k1 1 (.int .u64 (b0 : Int))
  have k3 := block_setCell k2 2 (.int .u64 (a1 : Int))
  have k4 := block_setCell k3 3 (.int .u64 (b1 : Int))
  have k5 := block_setCell k4 4 (.bool o)
  refine ⟨((((w.setCell ⟨g, 0, none⟩ (.int .u64 a0)).setCell ⟨g, 1, none⟩ (.int .u64 b0)).setCell ⟨g, 2, none⟩ (.int .u64 a1)).setCell ⟨g, 3, none⟩ (.int .u64 b1)).setCell ⟨g, 4, none⟩ (.bool o), by simp [go_sem, c0, c1, c2, c3, c4, f0, f1, f2, f3, f4],
    fun B W hq hB => ((((hB.setCell hq _).setCell hq _).setCell hq _).setCell hq _).setCell hq _, ?_, fun j hj => ?_, ⟨a0, b0, a1, b1, o, hk, k5⟩⟩
  · exact ((((Grow.set hh hne 0 _).trans (Grow.set k1 hne 1 _)).trans (Grow.set k2 hne 2 _)).trans (Grow.set k3 hne 3 _)).trans (Grow.set k4 hne 4 _)
  · exact (Below.heap_setCell _ _ _ j (by simpa using hj)).trans ((Below.heap_setCell _ _ _ j (by simpa using hj)).trans ((Below.heap_setCell _ _ _ j (by simpa using hj)).trans ((Below.heap_setCell _ _ _ j (by simpa using hj)).trans (Below.heap_setCell _ _ _ j (by simpa using hj)))))
theorem loadS {a0 b0 a1 b1 : Nat} {o : Bool} (w : World) (q : Nat) (h : (stBF a0 b0 a1 b1 o).p q w) : ∃ v, (Instr.loadAt 99 (.pointer (some ⟨q, 0, none⟩))).run Tryz.prog w = .ok v w ∧ (eqF (.agg #[.int .u64 (a0 : Int), .int .u64 (b0 : Int), .int .u64 (a1 : Int), .int .u64 (b1 : Int), .bool o])).p v w := by
  have hh : w.heap[q]? = some (.cells #[.int .u64 (a0 : Int), .int .u64 (b0 : Int), .int .u64 (a1 : Int), .int .u64 (b1 : Int), .bool o] 99 (0, 0)) := h
  have c0 : w.cell? ⟨q, 0, none⟩ = some (.int .u64 (a0 : Int)) := by rw [cell_of_row w q 0 _ _ (0, 0) hh]; rfl
  have c1 : w.cell? ⟨q, 1, none⟩ = some (.int .u64 (b0 : Int)) := by rw [cell_of_row w q 1 _ _ (0, 0) hh]; rfl
  have c2 : w.cell? ⟨q, 2, none⟩ = some (.int .u64 (a1 : Int)) := by rw [cell_of_row w q 2 _ _ (0, 0) hh]; rfl
  have c3 : w.cell? ⟨q, 3, none⟩ = some (.int .u64 (b1 : Int)) := by rw [cell_of_row w q 3 _ _ (0, 0) hh]; rfl
  have c4 : w.cell? ⟨q, 4, none⟩ = some (.bool o) := by rw [cell_of_row w q 4 _ _ (0, 0) hh]; rfl
  exact ⟨_, by simp [go_sem, c0, c1, c2, c3, c4], rfl⟩
theorem h_lenN {ρ : Operand → Value} {w : World} {x : Operand} {n : Nat} (hx : (natF n).p (ρ x) w) : Yld (.call { callee := .builtin .len, args := #[x], argTypes := #[22] }) ρ w (eqF (.int .i64 (len n : Int))) := by
  have hx : NatAt w (ρ x) n := hx
  obtain ⟨A, c, e, _⟩ := hx
  exact h_len (show (eqF (.slice A (len n) c)).p (ρ x) w from e)
theorem cmpN_ge {x y : Nat} (h : y ≤ x) : decide (cmpN x y < 0) = false := by
  rcases Nat.lt_or_eq_of_le h with h | h
  · rw [cmpN_gt h]; decide
  · rw [cmpN_eq h.symm]; decide
theorem len_ne {q : Nat} (h : 0 < q) : ((len q : Int) == 0) = false := by
  have : len q ≠ 0 := fun e => by have := len_eq_zero.1 e; omega
  simp
  omega
section
variable {w : World} {va vb : Value} {x y : Nat}
theorem kCompare (ha : (natF x).p va w) (hb : (natF y).p vb w) (hx : len x ≤ 1099511627776) (hy : len y ≤ 1099511627776) : Calls Tryz.prog 82 #[va, vb] w (GivesP (eqF (.int .i64 (cmpN x y))) w) := by
  have ha : NatAt w va x := ha
  have hb : NatAt w vb y := hb
  obtain ⟨A, c, rfl, HA⟩ := ha.open_
  obtain ⟨B, d, rfl, HB⟩ := hb.open_
  exact (compare_b A B c d x y w HA.out HB.out hx hy).mono fun _ _ ⟨he, hb⟩ => ⟨_, he, rfl, hb⟩
theorem kSimulate (ha : (natF x).p va w) (hb : (natF y).p vb w) (h3 : 3 ≤ len x) (hla : len x ≤ 1099511627776) (hba : y ≤ x) : Calls Tryz.prog 94 #[va, vb] w (GivesP (simF x y) w) :=
  (simulate_any va vb x y w ha hb h3 hla hba).mono fun _ _ ⟨a0, b0, a1, b1, o, he, k0, k1, k2, k3, k4, hb⟩ => ⟨_, he, ⟨a0, b0, a1, b1, o, rfl, k0, k1, k2, k3, k4⟩, hb⟩
theorem kDivide (ha : (natF x).p va w) (hb : (natF y).p vb w) (hx : len x ≤ 1099511627775) (hy : len y ≤ 1099511627775) (h0 : 0 < y) : Calls Tryz.prog 95 #[va, vb] w (GivesP (tup2F (natF (x / y)) (natF (x % y))) w) :=
  (divide_any va vb x y w ha hb hx hy h0).mono fun _ _ ⟨vq, vr, he, hq, hr, hb⟩ => ⟨_, he, ⟨vq, vr, rfl, hq, hr⟩, hb⟩
theorem kToWord (ha : (natF x).p va w) (hx : x < 18446744073709551616) : Calls Tryz.prog 98 #[va] w (GivesP (eqF (.int .u64 (x : Int))) w) := by
  have ha : NatAt w va x := ha
  obtain ⟨A, c, rfl, HA⟩ := ha.open_
  exact (toWord_any A c x w HA.out.mem.2.2 hx).mono fun _ _ ⟨he, hw⟩ => ⟨_, he, rfl, hw ▸ Below.refl _ _⟩
theorem kWordDivisor (ha : (eqF (.int .u64 (x : Int))).p va w) (hb : (eqF (.int .u64 (y : Int))).p vb w) (hx : x < 18446744073709551616) (hy : y < 18446744073709551616) : Calls Tryz.prog 97 #[va, vb] w (GivesP (eqF (.int .u64 (Nat.gcd x y : Nat))) w) := by
  have ha : va = .int .u64 (x : Int) := ha
  have hb : vb = .int .u64 (y : Int) := hb
  subst ha hb
  exact (wordDivisor_any x y w hx hy).mono fun _ _ ⟨he, hb⟩ => ⟨_, he, rfl, hb⟩
theorem kFromWord (ha : (eqF (.int .u64 (x : Int))).p va w) (hx : x < 18446744073709551616) : Calls Tryz.prog 81 #[va] w (GivesP (natF x) w) := by
  have ha : va = .int .u64 (x : Int) := ha
  subst ha
  exact fromWord_any x w hx
theorem kApply {vs : Value} {p q c0 d0 c1 d1 U V : Nat} {o : Bool} (hs : (eqF (.agg #[.int .u64 (c0 : Int), .int .u64 (d0 : Int), .int .u64 (c1 : Int), .int .u64 (d1 : Int), .bool o])).p vs w) (ha : (natF p).p va w) (hb : (natF q).p vb w) (hok : StepsOk p q c0 d0 c1 d1 o) (hUV : if o then U + c0 * p = d0 * q ∧ V + d1 * q = c1 * p else U + d0 * q = c0 * p ∧ V + c1 * p = d1 * q) (hU : U < p) (hV : V < q) (bp : len p ≤ 1099511627775) (bq : len q ≤ 1099511627775) :
    Calls Tryz.prog 96 #[vs, va, vb] w (GivesP (tup2F (natF U) (natF V)) w) := by
  have hs : vs = .agg #[.int .u64 (c0 : Int), .int .u64 (d0 : Int), .int .u64 (c1 : Int), .int .u64 (d1 : Int), .bool o] := hs
  subst hs
  have h1 := len_mono (Nat.le_of_lt hU)
  have h2 := len_mono (Nat.le_of_lt hV)
  obtain ⟨k0, k1, k2, k3, _⟩ := hok
  cases o
  · simp only [Bool.false_eq_true, if_false] at hUV
    exact apply_even va vb p q c0 d0 c1 d1 U V w ha hb k0 k1 k2 k3 (by omega) (by omega) (by omega) hUV.1 hUV.2
  · simp only [if_true] at hUV
    exact apply_odd va vb p q c0 d0 c1 d1 U V w ha hb k0 k1 k2 k3 (by omega) (by omega) (by omega) hUV.1 hUV.2
end
theorem dsrpl__quadrature_integer_steps__apply : Plainly 96 := fun _ _ => by simp [go_sem]
theorem dsrpl_quadrature_integer_compare : Plainly 82 := fun _ _ => by simp [go_sem]
theorem dsrpl_quadrature_integer_divide : Plainly 95 := fun _ _ => by simp [go_sem]
theorem dsrpl_quadrature_integer_fromWord : Plainly 81 := fun _ _ => by simp [go_sem]
theorem dsrpl_quadrature_integer_simulate : Plainly 94 := fun _ _ => by simp [go_sem]
theorem dsrpl_quadrature_integer_toWord : Plainly 98 := fun _ _ => by simp [go_sem]
theorem dsrpl_quadrature_integer_wordDivisor : Plainly 97 := fun _ _ => by simp [go_sem]
noncomputable def dsr_n0 : Code := bodyOf Tryz.f73
noncomputable def dsr_n1 : Code := cl dsr_n0
noncomputable def dsr_n2 : Code := cr dsr_n0
theorem dsr_e0 : dsr_n0 = .seq dsr_n1 dsr_n2 := by kernel_rfl
noncomputable def dsr_o0 : Array Oper := opsOf dsr_n1
theorem dsr_e1 : dsr_n1 = .region 0 dsr_o0 false := by kernel_rfl
noncomputable def dsr_n3 : Code := cl dsr_n2
noncomputable def dsr_n4 : Code := cr dsr_n2
theorem dsr_e2 : dsr_n2 = .seq dsr_n3 dsr_n4 := by kernel_rfl
noncomputable def dsr_n5 : Code := cl dsr_n3
noncomputable def dsr_n6 : Code := cr dsr_n3
theorem dsr_e3 : dsr_n3 = .seq dsr_n5 dsr_n6 := by kernel_rfl
noncomputable def dsr_o1 : Array Oper := opsOf dsr_n5
theorem dsr_e5 : dsr_n5 = .region 1 dsr_o1 false := by kernel_rfl
noncomputable def dsr_n7 : Code := cl dsr_n6
noncomputable def dsr_n8 : Code := cr dsr_n6
theorem dsr_e6 : dsr_n6 = .cond (.tmp 13) dsr_n7 dsr_n8 := by kernel_rfl
noncomputable def dsr_o2 : Array Oper := opsOf dsr_n7
theorem dsr_e7 : dsr_n7 = .region 2 dsr_o2 false := by kernel_rfl
theorem dsr_e8 : dsr_n8 = .skip := by kernel_rfl
noncomputable def dsr_n9 : Code := cl dsr_n4
noncomputable def dsr_n10 : Code := cr dsr_n4
theorem dsr_e4 : dsr_n4 = .seq dsr_n9 dsr_n10 := by kernel_rfl
noncomputable def dsr_n11 : Code := cl dsr_n9
theorem dsr_e9 : dsr_n9 = .block 0 dsr_n11 := by kernel_rfl
noncomputable def dsr_n12 : Code := cl dsr_n11
theorem dsr_e11 : dsr_n11 = .loop dsr_n12 := by kernel_rfl
noncomputable def dsr_n13 : Code := cl dsr_n12
noncomputable def dsr_n14 : Code := cr dsr_n12
theorem dsr_e12 : dsr_n12 = .seq dsr_n13 dsr_n14 := by kernel_rfl
noncomputable def dsr_n15 : Code := cl dsr_n13
noncomputable def dsr_n16 : Code := cr dsr_n13
theorem dsr_e13 : dsr_n13 = .seq dsr_n15 dsr_n16 := by kernel_rfl
noncomputable def dsr_o3 : Array Oper := opsOf dsr_n15
theorem dsr_e15 : dsr_n15 = .region 3 dsr_o3 false := by kernel_rfl
noncomputable def dsr_n17 : Code := cl dsr_n16
noncomputable def dsr_n18 : Code := cr dsr_n16
theorem dsr_e16 : dsr_n16 = .cond (.tmp 18) dsr_n17 dsr_n18 := by kernel_rfl
theorem dsr_e17 : dsr_n17 = .skip := by kernel_rfl
theorem dsr_e18 : dsr_n18 = .exit 0 := by kernel_rfl
noncomputable def dsr_n19 : Code := cl dsr_n14
theorem dsr_e14 : dsr_n14 = .block 1 dsr_n19 := by kernel_rfl
noncomputable def dsr_n20 : Code := cl dsr_n19
noncomputable def dsr_n21 : Code := cr dsr_n19
theorem dsr_e19 : dsr_n19 = .seq dsr_n20 dsr_n21 := by kernel_rfl
noncomputable def dsr_o4 : Array Oper := opsOf dsr_n20
theorem dsr_e20 : dsr_n20 = .region 4 dsr_o4 false := by kernel_rfl
noncomputable def dsr_n22 : Code := cl dsr_n21
noncomputable def dsr_n23 : Code := cr dsr_n21
theorem dsr_e21 : dsr_n21 = .seq dsr_n22 dsr_n23 := by kernel_rfl
noncomputable def dsr_o5 : Array Oper := opsOf dsr_n22
theorem dsr_e22 : dsr_n22 = .region 5 dsr_o5 false := by kernel_rfl
noncomputable def dsr_n24 : Code := cl dsr_n23
noncomputable def dsr_n25 : Code := cr dsr_n23
theorem dsr_e23 : dsr_n23 = .cond (.tmp 24) dsr_n24 dsr_n25 := by kernel_rfl
noncomputable def dsr_n26 : Code := cl dsr_n24
noncomputable def dsr_n27 : Code := cr dsr_n24
theorem dsr_e24 : dsr_n24 = .seq dsr_n26 dsr_n27 := by kernel_rfl
noncomputable def dsr_o6 : Array Oper := opsOf dsr_n26
theorem dsr_e26 : dsr_n26 = .region 6 dsr_o6 false := by kernel_rfl
noncomputable def dsr_o7 : Array Oper := opsOf dsr_n27
theorem dsr_e27 : dsr_n27 = .region 7 dsr_o7 false := by kernel_rfl
noncomputable def dsr_o8 : Array Oper := opsOf dsr_n25
theorem dsr_e25 : dsr_n25 = .region 8 dsr_o8 false := by kernel_rfl
noncomputable def dsr_n28 : Code := cl dsr_n10
noncomputable def dsr_n29 : Code := cr dsr_n10
theorem dsr_e10 : dsr_n10 = .seq dsr_n28 dsr_n29 := by kernel_rfl
noncomputable def dsr_n30 : Code := cl dsr_n28
noncomputable def dsr_n31 : Code := cr dsr_n28
theorem dsr_e28 : dsr_n28 = .seq dsr_n30 dsr_n31 := by kernel_rfl
noncomputable def dsr_o9 : Array Oper := opsOf dsr_n30
theorem dsr_e30 : dsr_n30 = .region 9 dsr_o9 false := by kernel_rfl
noncomputable def dsr_n32 : Code := cl dsr_n31
noncomputable def dsr_n33 : Code := cr dsr_n31
theorem dsr_e31 : dsr_n31 = .cond (.tmp 42) dsr_n32 dsr_n33 := by kernel_rfl
noncomputable def dsr_n34 : Code := cl dsr_n32
noncomputable def dsr_n35 : Code := cr dsr_n32
theorem dsr_e32 : dsr_n32 = .seq dsr_n34 dsr_n35 := by kernel_rfl
noncomputable def dsr_o10 : Array Oper := opsOf dsr_n34
theorem dsr_e34 : dsr_n34 = .region 10 dsr_o10 false := by kernel_rfl
theorem dsr_e35 : dsr_n35 = .ret := by kernel_rfl
theorem dsr_e33 : dsr_n33 = .skip := by kernel_rfl
noncomputable def dsr_n36 : Code := cl dsr_n29
noncomputable def dsr_n37 : Code := cr dsr_n29
theorem dsr_e29 : dsr_n29 = .seq dsr_n36 dsr_n37 := by kernel_rfl
noncomputable def dsr_o11 : Array Oper := opsOf dsr_n36
theorem dsr_e36 : dsr_n36 = .region 11 dsr_o11 false := by kernel_rfl
noncomputable def dsr_n38 : Code := cl dsr_n37
noncomputable def dsr_n39 : Code := cr dsr_n37
theorem dsr_e37 : dsr_n37 = .seq dsr_n38 dsr_n39 := by kernel_rfl
noncomputable def dsr_o12 : Array Oper := opsOf dsr_n38
theorem dsr_e38 : dsr_n38 = .region 12 dsr_o12 false := by kernel_rfl
theorem dsr_e39 : dsr_n39 = .ret := by kernel_rfl
set_option maxRecDepth 100000 in
theorem dsr_r0 {Q : Exit → Act → World → Prop} {Wb W0 : World} {a0 : Act}  {pp qq : Nat} (_hlp : len pp ≤ 1099511627775) (_hlq : len qq ≤ 1099511627775) (_lt : pp < qq) (hst : St Wb 56 [(0, (natF pp)), (1, (natF qq))] [] a0 W0)
    (fin : ∀ a w, St Wb 56 [(0, (natF pp)), (1, (natF qq)), (4, (eqF (.slice none 0 0)))] [] a w → Q .normal a w) : (Code.region 0 dsr_o0 false).wp Tryz.prog Q a0 W0 := by
  have hP : Plan dsr_o0 56 ([] : List BoxS) [] := ⟨by kernel_rfl, by kernel_rfl, by kernel_rfl, by kernel_rfl, by kernel_rfl, by kernel_rfl⟩
  refine region_st (F := [(eqF (.slice none 0 0))]) hP hst rfl rfl ?_ ?_ fin
  · show Steps dsr_o0 56 Wb W0 a0 _ _ _ 1
    refine steps_snoc (k := 0) ?_ (s_assign (i := 0) hP (g := none) (isOp_of (by kernel_rfl) : IsOp dsr_o0 0 none (.assign (.const (.slice none 0 0)))) (by kernel_rfl) (by kernel_rfl) (grd_none) (src_const _) rfl)
    exact steps_nil
  · intro m a w hI hm
    exact ⟨(low_fact hst 0 rfl (by kernel_rfl) hI), (low_fact hst 1 rfl (by kernel_rfl) hI), (out_op hI hm 0 4 _ (by kernel_rfl) rfl), trivial⟩
set_option maxRecDepth 100000 in
theorem dsr_r1 {Q : Exit → Act → World → Prop} {Wb W0 : World} {a0 : Act}  {pp qq : Nat} (_hlp : len pp ≤ 1099511627775) (_hlq : len qq ≤ 1099511627775) (lt : pp < qq) (hst : St Wb 56 [(0, (natF pp)), (1, (natF qq)), (4, (eqF (.slice none 0 0)))] [] a0 W0)
    (fin : ∀ a w, St Wb 56 [(0, (natF pp)), (1, (natF qq)), (4, (eqF (.slice none 0 0))), (13, (eqF (.bool true)))] [] a w → Q .normal a w) : (Code.region 1 dsr_o1 false).wp Tryz.prog Q a0 W0 := by
  have hP : Plan dsr_o1 56 ([] : List BoxS) [] := ⟨by kernel_rfl, by kernel_rfl, by kernel_rfl, by kernel_rfl, by kernel_rfl, by kernel_rfl⟩
  refine region_st (F := [(natF pp), (natF qq), (eqF (.int .i64 (cmpN pp qq))), (eqF (.bool true))]) hP hst rfl rfl ?_ ?_ fin
  · show Steps dsr_o1 56 Wb W0 a0 _ _ _ 4
    refine steps_snoc (k := 3) ?_ (s_op2 (i := 3) hP (g := none) (isOp_of (by kernel_rfl) : IsOp dsr_o1 3 none (.binOp .lss 3 (.tmp 12) (.const (.int .i64 0)) 3)) (by kernel_rfl) (by kernel_rfl) (grd_none) (src_op (f := (eqF (.int .i64 (cmpN pp qq)))) 2 (by kernel_rfl) (by kernel_rfl) rfl) (src_const _) (fun ρ w hx hy => h_lss (r := true) (by rw [cmpN_lt lt]; decide) hx hy) rfl)
    refine steps_snoc (k := 2) ?_ (s_call2 (i := 2) hP (g := none) (isOp_of (by kernel_rfl) : IsOp dsr_o1 2 none (.call { callee := .value (.func 82), args := #[.tmp 10, .tmp 11], argTypes := #[22, 22] })) (by kernel_rfl) (by kernel_rfl) (grd_none) (src_op (f := (natF pp)) 0 (by kernel_rfl) (by kernel_rfl) rfl) (src_op (f := (natF qq)) 1 (by kernel_rfl) (by kernel_rfl) rfl) dsrpl_quadrature_integer_compare (fun w v0 v1 hb h0 h1 => kCompare h0 h1 (by omega) (by omega)) rfl)
    refine steps_snoc (k := 1) ?_ (s_move (i := 1) hP (g := none) (isOp_of (by kernel_rfl) : IsOp dsr_o1 1 none (.move (.tmp 1))) (by kernel_rfl) (by kernel_rfl) (grd_none) (src_low hst 1 rfl (by kernel_rfl)) rfl)
    refine steps_snoc (k := 0) ?_ (s_move (i := 0) hP (g := none) (isOp_of (by kernel_rfl) : IsOp dsr_o1 0 none (.move (.tmp 0))) (by kernel_rfl) (by kernel_rfl) (grd_none) (src_low hst 0 rfl (by kernel_rfl)) rfl)
    exact steps_nil
  · intro m a w hI hm
    exact ⟨(low_fact hst 0 rfl (by kernel_rfl) hI), (low_fact hst 1 rfl (by kernel_rfl) hI), (low_fact hst 2 rfl (by kernel_rfl) hI), (out_op hI hm 3 13 _ (by kernel_rfl) rfl), trivial⟩
set_option maxRecDepth 100000 in
theorem dsr_r2 {Q : Exit → Act → World → Prop} {Wb W0 : World} {a0 : Act}  {pp qq : Nat} (_hlp : len pp ≤ 1099511627775) (_hlq : len qq ≤ 1099511627775) (_lt : pp < qq) (hst : St Wb 56 [(0, (natF pp)), (1, (natF qq)), (4, (eqF (.slice none 0 0))), (13, (eqF (.bool true)))] [] a0 W0)
    (fin : ∀ a w, St Wb 56 [(0, (natF qq)), (1, (natF pp)), (4, (eqF (.slice none 0 0))), (13, (eqF (.bool true)))] [] a w → Q .normal a w) : (Code.region 2 dsr_o2 false).wp Tryz.prog Q a0 W0 := by
  have hP : Plan dsr_o2 56 ([] : List BoxS) [] := ⟨by kernel_rfl, by kernel_rfl, by kernel_rfl, by kernel_rfl, by kernel_rfl, by kernel_rfl⟩
  refine region_st (F := [(natF qq), (natF pp), (natF qq), (natF pp)]) hP hst rfl rfl ?_ ?_ fin
  · show Steps dsr_o2 56 Wb W0 a0 _ _ _ 4
    refine steps_snoc (k := 3) ?_ (s_assign (i := 3) hP (g := none) (isOp_of (by kernel_rfl) : IsOp dsr_o2 3 none (.assign (.tmp 15))) (by kernel_rfl) (by kernel_rfl) (grd_none) (src_op (f := (natF pp)) 1 (by kernel_rfl) (by kernel_rfl) rfl) rfl)
    refine steps_snoc (k := 2) ?_ (s_assign (i := 2) hP (g := none) (isOp_of (by kernel_rfl) : IsOp dsr_o2 2 none (.assign (.tmp 14))) (by kernel_rfl) (by kernel_rfl) (grd_none) (src_op (f := (natF qq)) 0 (by kernel_rfl) (by kernel_rfl) rfl) rfl)
    refine steps_snoc (k := 1) ?_ (s_move (i := 1) hP (g := none) (isOp_of (by kernel_rfl) : IsOp dsr_o2 1 none (.move (.tmp 0))) (by kernel_rfl) (by kernel_rfl) (grd_none) (src_low hst 0 rfl (by kernel_rfl)) rfl)
    refine steps_snoc (k := 0) ?_ (s_move (i := 0) hP (g := none) (isOp_of (by kernel_rfl) : IsOp dsr_o2 0 none (.move (.tmp 1))) (by kernel_rfl) (by kernel_rfl) (grd_none) (src_low hst 1 rfl (by kernel_rfl)) rfl)
    exact steps_nil
  · intro m a w hI hm
    exact ⟨(out_op hI hm 2 0 _ (by kernel_rfl) rfl), (out_op hI hm 3 1 _ (by kernel_rfl) rfl), (low_fact hst 2 rfl (by kernel_rfl) hI), (low_fact hst 3 rfl (by kernel_rfl) hI), trivial⟩
set_option maxRecDepth 100000 in
theorem dsr_r3 {Q : Exit → Act → World → Prop} {Wb W0 : World} {a0 : Act}  {p q : Nat} (_hqp : q ≤ p) (_bp : len p ≤ 1099511627775) (_bq : len q ≤ 1099511627775) (_h3 : 3 ≤ len q) (hst : St Wb 56 [(0, (natF p)), (1, (natF q))] [] a0 W0)
    (fin : ∀ a w, St Wb 56 [(0, (natF p)), (1, (natF q)), (18, (eqF (.bool true)))] [] a w → Q .normal a w) : (Code.region 3 dsr_o3 false).wp Tryz.prog Q a0 W0 := by
  have hP : Plan dsr_o3 56 ([] : List BoxS) [] := ⟨by kernel_rfl, by kernel_rfl, by kernel_rfl, by kernel_rfl, by kernel_rfl, by kernel_rfl⟩
  refine region_st (F := [(natF q), (eqF (.int .i64 (len q : Int))), (eqF (.bool true))]) hP hst rfl rfl ?_ ?_ fin
  · show Steps dsr_o3 56 Wb W0 a0 _ _ _ 3
    refine steps_snoc (k := 2) ?_ (s_op2 (i := 2) hP (g := none) (isOp_of (by kernel_rfl) : IsOp dsr_o3 2 none (.binOp .gtr 3 (.tmp 17) (.const (.int .i64 2)) 3)) (by kernel_rfl) (by kernel_rfl) (grd_none) (src_op (f := (eqF (.int .i64 (len q : Int)))) 1 (by kernel_rfl) (by kernel_rfl) rfl) (src_const _) (fun ρ w hx hy => h_gtr (r := true) (by simp; omega) hx hy) rfl)
    refine steps_snoc (k := 1) ?_ (s_op1 (i := 1) hP (g := none) (isOp_of (by kernel_rfl) : IsOp dsr_o3 1 none (.call { callee := .builtin .len, args := #[.tmp 16], argTypes := #[22] })) (by kernel_rfl) (by kernel_rfl) (grd_none) (src_op (f := (natF q)) 0 (by kernel_rfl) (by kernel_rfl) rfl) (fun ρ w hx => h_lenN hx) rfl)
    refine steps_snoc (k := 0) ?_ (s_move (i := 0) hP (g := none) (isOp_of (by kernel_rfl) : IsOp dsr_o3 0 none (.move (.tmp 1))) (by kernel_rfl) (by kernel_rfl) (grd_none) (src_low hst 1 rfl (by kernel_rfl)) rfl)
    exact steps_nil
  · intro m a w hI hm
    exact ⟨(low_fact hst 0 rfl (by kernel_rfl) hI), (low_fact hst 1 rfl (by kernel_rfl) hI), (out_op hI hm 2 18 _ (by kernel_rfl) rfl), trivial⟩
set_option maxRecDepth 100000 in
theorem dsr_r4 {Q : Exit → Act → World → Prop} {Wb W0 : World} {a0 : Act}  {p q : Nat} (hqp : q ≤ p) (_bp : len p ≤ 1099511627775) (_bq : len q ≤ 1099511627775) (_h3 : 3 ≤ len q) (hst : St Wb 56 [(0, (natF p)), (1, (natF q)), (18, (eqF (.bool true)))] [] a0 W0)
    (fin : ∀ a w, St Wb 56 [(0, (natF p)), (1, (natF q)), (18, (eqF (.bool true)))] [(5, (stExF p q))] a w → Q .normal a w) : (Code.region 4 dsr_o4 false).wp Tryz.prog Q a0 W0 := by
  have hP : Plan dsr_o4 56 ([⟨5, some 3, some 4, (stBF 0 0 0 0 false), (stExF p q)⟩] : List BoxS) [] := ⟨by kernel_rfl, by kernel_rfl, by kernel_rfl, by kernel_rfl, by kernel_rfl, by kernel_rfl⟩
  refine region_st (F := [(natF p), (natF q), (simF p q), anyF, anyF]) hP hst rfl rfl ?_ ?_ fin
  · show Steps dsr_o4 56 Wb W0 a0 _ _ _ 5
    refine steps_snoc (k := 4) ?_ (s_store (i := 4) 0 _ (isOp_of (by kernel_rfl) : IsOp dsr_o4 4 none (.store 99 (.tmp 5) (.tmp 21))) (by kernel_rfl) rfl rfl rfl (by kernel_rfl) (by kernel_rfl) (by kernel_rfl) (src_op (f := (simF p q)) 2 (by kernel_rfl) (by kernel_rfl) rfl) storeS)
    refine steps_snoc (k := 3) ?_ (s_alloc (i := 3) (d := 5) hP 0 _ (isOp_of (by kernel_rfl) : IsOp dsr_o4 3 none (.alloc 99)) (by kernel_rfl) rfl rfl rfl (by kernel_rfl) (by kernel_rfl) (by kernel_rfl) (by kernel_rfl) rfl allocS_run allocS_old)
    refine steps_snoc (k := 2) ?_ (s_call2 (i := 2) hP (g := none) (isOp_of (by kernel_rfl) : IsOp dsr_o4 2 none (.call { callee := .value (.func 94), args := #[.tmp 19, .tmp 20], argTypes := #[22, 22] })) (by kernel_rfl) (by kernel_rfl) (grd_none) (src_op (f := (natF p)) 0 (by kernel_rfl) (by kernel_rfl) rfl) (src_op (f := (natF q)) 1 (by kernel_rfl) (by kernel_rfl) rfl) dsrpl_quadrature_integer_simulate (fun w v0 v1 hb h0 h1 => kSimulate h0 h1 (by have := len_mono hqp; omega) (by omega) hqp) rfl)
    refine steps_snoc (k := 1) ?_ (s_move (i := 1) hP (g := none) (isOp_of (by kernel_rfl) : IsOp dsr_o4 1 none (.move (.tmp 1))) (by kernel_rfl) (by kernel_rfl) (grd_none) (src_low hst 1 rfl (by kernel_rfl)) rfl)
    refine steps_snoc (k := 0) ?_ (s_move (i := 0) hP (g := none) (isOp_of (by kernel_rfl) : IsOp dsr_o4 0 none (.move (.tmp 0))) (by kernel_rfl) (by kernel_rfl) (grd_none) (src_low hst 0 rfl (by kernel_rfl)) rfl)
    exact steps_nil
  · intro m a w hI hm
    exact ⟨(low_fact hst 0 rfl (by kernel_rfl) hI), (low_fact hst 1 rfl (by kernel_rfl) hI), (low_fact hst 2 rfl (by kernel_rfl) hI), trivial⟩
set_option maxRecDepth 100000 in
theorem dsr_r5 {Q : Exit → Act → World → Prop} {Wb W0 : World} {a0 : Act}  {p q : Nat} (_hqp : q ≤ p) (_bp : len p ≤ 1099511627775) (_bq : len q ≤ 1099511627775) (_h3 : 3 ≤ len q) {c0 d0 c1 d1 : Nat} {o : Bool} (_hok : StepsOk p q c0 d0 c1 d1 o) (_hz : d0 = 0) (_q0 : 0 < q) (hst : St Wb 56 [(0, (natF p)), (1, (natF q)), (18, (eqF (.bool true)))] [(5, (stBF c0 d0 c1 d1 o))] a0 W0)
    (fin : ∀ a w, St Wb 56 [(0, (natF p)), (1, (natF q)), (18, (eqF (.bool true))), (24, (eqF (.bool true)))] [(5, (stBF c0 d0 c1 d1 o))] a w → Q .normal a w) : (Code.region 5 dsr_o5 false).wp Tryz.prog Q a0 W0 := by
  have hP : Plan dsr_o5 56 ([⟨5, none, none, (stBF c0 d0 c1 d1 o), (stBF c0 d0 c1 d1 o)⟩] : List BoxS) [(0, 5, 1)] := ⟨by kernel_rfl, by kernel_rfl, by kernel_rfl, by kernel_rfl, by kernel_rfl, by kernel_rfl⟩
  refine region_st (F := [anyF, (eqF (.int .u64 (d0 : Int))), (eqF (.bool true))]) hP hst rfl rfl ?_ ?_ fin
  · show Steps dsr_o5 56 Wb W0 a0 _ _ _ 3
    refine steps_snoc (k := 2) ?_ (s_op2 (i := 2) hP (g := none) (isOp_of (by kernel_rfl) : IsOp dsr_o5 2 none (.binOp .eql 77 (.tmp 23) (.const (.int .u64 0)) 77)) (by kernel_rfl) (by kernel_rfl) (grd_none) (src_op (f := (eqF (.int .u64 (d0 : Int)))) 1 (by kernel_rfl) (by kernel_rfl) rfl) (src_const _) (fun ρ w hx hy => h_eqlI (r := true) (by simp; omega) hx hy) rfl)
    refine steps_snoc (k := 1) ?_ (s_load (i := 1) hP (g := none) (isOp_of (by kernel_rfl) : IsOp dsr_o5 1 none (.load 77 (.tmp 22))) (by kernel_rfl) (by kernel_rfl) (grd_none) (bsrc_at 0 (bsrc_old 0 _ rfl rfl rfl (by kernel_rfl) (by kernel_rfl)) (by kernel_rfl) (by kernel_rfl) (by kernel_rfl)) (fun w q h => loadS1 w q h) rfl)
    refine steps_snoc (k := 0) ?_ (step_addr (i := 0) (d := 22) (g := none) hP (isOp_of (by kernel_rfl) : IsOp dsr_o5 0 none (.fieldAddr 99 (.tmp 5) 1)) (by kernel_rfl) (by kernel_rfl) 1 rfl rfl _ 0 rfl rfl (by kernel_rfl) (grd_none) fldS1)
    exact steps_nil
  · intro m a w hI hm
    exact ⟨(low_fact hst 0 rfl (by kernel_rfl) hI), (low_fact hst 1 rfl (by kernel_rfl) hI), (low_fact hst 2 rfl (by kernel_rfl) hI), (out_op hI hm 2 24 _ (by kernel_rfl) rfl), trivial⟩
set_option maxRecDepth 100000 in
theorem dsr_r6 {Q : Exit → Act → World → Prop} {Wb W0 : World} {a0 : Act}  {p q : Nat} (_hqp : q ≤ p) (_bp : len p ≤ 1099511627775) (_bq : len q ≤ 1099511627775) (_h3 : 3 ≤ len q) {c0 d0 c1 d1 : Nat} {o : Bool} (_hok : StepsOk p q c0 d0 c1 d1 o) (_hz : d0 = 0) (q0 : 0 < q) (hst : St Wb 56 [(0, (natF p)), (1, (natF q)), (18, (eqF (.bool true))), (24, (eqF (.bool true)))] [(5, (stBF c0 d0 c1 d1 o))] a0 W0)
    (fin : ∀ a w, St Wb 56 [(0, (natF p)), (1, (natF q)), (7, (natF (p % q))), (18, (eqF (.bool true))), (24, (eqF (.bool true)))] [(5, (stBF c0 d0 c1 d1 o))] a w → Q .normal a w) : (Code.region 6 dsr_o6 false).wp Tryz.prog Q a0 W0 := by
  have hP : Plan dsr_o6 56 ([⟨5, none, none, (stBF c0 d0 c1 d1 o), (stBF c0 d0 c1 d1 o)⟩] : List BoxS) [] := ⟨by kernel_rfl, by kernel_rfl, by kernel_rfl, by kernel_rfl, by kernel_rfl, by kernel_rfl⟩
  refine region_st (F := [(natF p), (natF q), (tup2F (natF (p / q)) (natF (p % q))), (tup2F (natF (p / q)) (natF (p % q))), (natF (p / q)), (natF (p % q)), (natF (p / q)), (natF (p % q))]) hP hst rfl rfl ?_ ?_ fin
  · show Steps dsr_o6 56 Wb W0 a0 _ _ _ 8
    refine steps_snoc (k := 7) ?_ (s_assign (i := 7) hP (g := none) (isOp_of (by kernel_rfl) : IsOp dsr_o6 7 none (.assign (.tmp 30))) (by kernel_rfl) (by kernel_rfl) (grd_none) (src_op (f := (natF (p % q))) 5 (by kernel_rfl) (by kernel_rfl) rfl) rfl)
    refine steps_snoc (k := 6) ?_ (s_assign (i := 6) hP (g := none) (isOp_of (by kernel_rfl) : IsOp dsr_o6 6 none (.assign (.tmp 29))) (by kernel_rfl) (by kernel_rfl) (grd_none) (src_op (f := (natF (p / q))) 4 (by kernel_rfl) (by kernel_rfl) rfl) rfl)
    refine steps_snoc (k := 5) ?_ (s_op1 (i := 5) hP (g := none) (isOp_of (by kernel_rfl) : IsOp dsr_o6 5 none (.extract (.tmp 25) 1)) (by kernel_rfl) (by kernel_rfl) (grd_none) (src_op (f := (tup2F (natF (p / q)) (natF (p % q)))) 3 (by kernel_rfl) (by kernel_rfl) rfl) (fun ρ w hx => h_ext2_1 hx) rfl)
    refine steps_snoc (k := 4) ?_ (s_op1 (i := 4) hP (g := none) (isOp_of (by kernel_rfl) : IsOp dsr_o6 4 none (.extract (.tmp 25) 0)) (by kernel_rfl) (by kernel_rfl) (grd_none) (src_op (f := (tup2F (natF (p / q)) (natF (p % q)))) 3 (by kernel_rfl) (by kernel_rfl) rfl) (fun ρ w hx => h_ext2_0 hx) rfl)
    refine steps_snoc (k := 3) ?_ (s_move (i := 3) hP (g := none) (isOp_of (by kernel_rfl) : IsOp dsr_o6 3 none (.move (.tmp 28))) (by kernel_rfl) (by kernel_rfl) (grd_none) (src_op (f := (tup2F (natF (p / q)) (natF (p % q)))) 2 (by kernel_rfl) (by kernel_rfl) rfl) rfl)
    refine steps_snoc (k := 2) ?_ (s_call2 (i := 2) hP (g := none) (isOp_of (by kernel_rfl) : IsOp dsr_o6 2 none (.call { callee := .value (.func 95), args := #[.tmp 26, .tmp 27], argTypes := #[22, 22] })) (by kernel_rfl) (by kernel_rfl) (grd_none) (src_op (f := (natF p)) 0 (by kernel_rfl) (by kernel_rfl) rfl) (src_op (f := (natF q)) 1 (by kernel_rfl) (by kernel_rfl) rfl) dsrpl_quadrature_integer_divide (fun w v0 v1 hb h0 h1 => kDivide h0 h1 (by omega) (by omega) q0) rfl)
    refine steps_snoc (k := 1) ?_ (s_move (i := 1) hP (g := none) (isOp_of (by kernel_rfl) : IsOp dsr_o6 1 none (.move (.tmp 1))) (by kernel_rfl) (by kernel_rfl) (grd_none) (src_low hst 1 rfl (by kernel_rfl)) rfl)
    refine steps_snoc (k := 0) ?_ (s_move (i := 0) hP (g := none) (isOp_of (by kernel_rfl) : IsOp dsr_o6 0 none (.move (.tmp 0))) (by kernel_rfl) (by kernel_rfl) (grd_none) (src_low hst 0 rfl (by kernel_rfl)) rfl)
    exact steps_nil
  · intro m a w hI hm
    exact ⟨(low_fact hst 0 rfl (by kernel_rfl) hI), (low_fact hst 1 rfl (by kernel_rfl) hI), (out_op hI hm 7 7 _ (by kernel_rfl) rfl), (low_fact hst 2 rfl (by kernel_rfl) hI), (low_fact hst 3 rfl (by kernel_rfl) hI), trivial⟩
set_option maxRecDepth 100000 in
theorem dsr_r7 {Q : Exit → Act → World → Prop} {Wb W0 : World} {a0 : Act}  {p q : Nat} (_hqp : q ≤ p) (_bp : len p ≤ 1099511627775) (_bq : len q ≤ 1099511627775) (_h3 : 3 ≤ len q) {c0 d0 c1 d1 : Nat} {o : Bool} (_hok : StepsOk p q c0 d0 c1 d1 o) (_hz : d0 = 0) (_q0 : 0 < q) (hst : St Wb 56 [(0, (natF p)), (1, (natF q)), (7, (natF (p % q))), (18, (eqF (.bool true))), (24, (eqF (.bool true)))] [(5, (stBF c0 d0 c1 d1 o))] a0 W0)
    (fin : ∀ a w, St Wb 56 [(0, (natF q)), (1, (natF (p % q))), (7, (natF (p % q))), (18, (eqF (.bool true))), (24, (eqF (.bool true)))] [(5, (stBF c0 d0 c1 d1 o))] a w → Q .normal a w) : (Code.region 7 dsr_o7 false).wp Tryz.prog Q a0 W0 := by
  have hP : Plan dsr_o7 56 ([⟨5, none, none, (stBF c0 d0 c1 d1 o), (stBF c0 d0 c1 d1 o)⟩] : List BoxS) [] := ⟨by kernel_rfl, by kernel_rfl, by kernel_rfl, by kernel_rfl, by kernel_rfl, by kernel_rfl⟩
  refine region_st (F := [(natF q), (natF (p % q)), (natF q), (natF (p % q))]) hP hst rfl rfl ?_ ?_ fin
  · show Steps dsr_o7 56 Wb W0 a0 _ _ _ 4
    refine steps_snoc (k := 3) ?_ (s_assign (i := 3) hP (g := none) (isOp_of (by kernel_rfl) : IsOp dsr_o7 3 none (.assign (.tmp 32))) (by kernel_rfl) (by kernel_rfl) (grd_none) (src_op (f := (natF (p % q))) 1 (by kernel_rfl) (by kernel_rfl) rfl) rfl)
    refine steps_snoc (k := 2) ?_ (s_assign (i := 2) hP (g := none) (isOp_of (by kernel_rfl) : IsOp dsr_o7 2 none (.assign (.tmp 31))) (by kernel_rfl) (by kernel_rfl) (grd_none) (src_op (f := (natF q)) 0 (by kernel_rfl) (by kernel_rfl) rfl) rfl)
    refine steps_snoc (k := 1) ?_ (s_move (i := 1) hP (g := none) (isOp_of (by kernel_rfl) : IsOp dsr_o7 1 none (.move (.tmp 7))) (by kernel_rfl) (by kernel_rfl) (grd_none) (src_low hst 2 rfl (by kernel_rfl)) rfl)
    refine steps_snoc (k := 0) ?_ (s_move (i := 0) hP (g := none) (isOp_of (by kernel_rfl) : IsOp dsr_o7 0 none (.move (.tmp 1))) (by kernel_rfl) (by kernel_rfl) (grd_none) (src_low hst 1 rfl (by kernel_rfl)) rfl)
    exact steps_nil
  · intro m a w hI hm
    exact ⟨(out_op hI hm 2 0 _ (by kernel_rfl) rfl), (out_op hI hm 3 1 _ (by kernel_rfl) rfl), (low_fact hst 2 rfl (by kernel_rfl) hI), (low_fact hst 3 rfl (by kernel_rfl) hI), (low_fact hst 4 rfl (by kernel_rfl) hI), trivial⟩
set_option maxRecDepth 100000 in
theorem dsr_r5b {Q : Exit → Act → World → Prop} {Wb W0 : World} {a0 : Act}  {p q : Nat} (_hqp : q ≤ p) (_bp : len p ≤ 1099511627775) (_bq : len q ≤ 1099511627775) (_h3 : 3 ≤ len q) {c0 d0 c1 d1 : Nat} {o : Bool} (_hok : StepsOk p q c0 d0 c1 d1 o) (_hz : d0 ≠ 0) {U V : Nat} (_hUV : if o then U + c0 * p = d0 * q ∧ V + d1 * q = c1 * p else U + d0 * q = c0 * p ∧ V + c1 * p = d1 * q) (_hU : U < p) (_hV : V < q) (hst : St Wb 56 [(0, (natF p)), (1, (natF q)), (18, (eqF (.bool true)))] [(5, (stBF c0 d0 c1 d1 o))] a0 W0)
    (fin : ∀ a w, St Wb 56 [(0, (natF p)), (1, (natF q)), (18, (eqF (.bool true))), (24, (eqF (.bool false)))] [(5, (stBF c0 d0 c1 d1 o))] a w → Q .normal a w) : (Code.region 5 dsr_o5 false).wp Tryz.prog Q a0 W0 := by
  have hP : Plan dsr_o5 56 ([⟨5, none, none, (stBF c0 d0 c1 d1 o), (stBF c0 d0 c1 d1 o)⟩] : List BoxS) [(0, 5, 1)] := ⟨by kernel_rfl, by kernel_rfl, by kernel_rfl, by kernel_rfl, by kernel_rfl, by kernel_rfl⟩
  refine region_st (F := [anyF, (eqF (.int .u64 (d0 : Int))), (eqF (.bool false))]) hP hst rfl rfl ?_ ?_ fin
  · show Steps dsr_o5 56 Wb W0 a0 _ _ _ 3
    refine steps_snoc (k := 2) ?_ (s_op2 (i := 2) hP (g := none) (isOp_of (by kernel_rfl) : IsOp dsr_o5 2 none (.binOp .eql 77 (.tmp 23) (.const (.int .u64 0)) 77)) (by kernel_rfl) (by kernel_rfl) (grd_none) (src_op (f := (eqF (.int .u64 (d0 : Int)))) 1 (by kernel_rfl) (by kernel_rfl) rfl) (src_const _) (fun ρ w hx hy => h_eqlI (r := false) (by simp; omega) hx hy) rfl)
    refine steps_snoc (k := 1) ?_ (s_load (i := 1) hP (g := none) (isOp_of (by kernel_rfl) : IsOp dsr_o5 1 none (.load 77 (.tmp 22))) (by kernel_rfl) (by kernel_rfl) (grd_none) (bsrc_at 0 (bsrc_old 0 _ rfl rfl rfl (by kernel_rfl) (by kernel_rfl)) (by kernel_rfl) (by kernel_rfl) (by kernel_rfl)) (fun w q h => loadS1 w q h) rfl)
    refine steps_snoc (k := 0) ?_ (step_addr (i := 0) (d := 22) (g := none) hP (isOp_of (by kernel_rfl) : IsOp dsr_o5 0 none (.fieldAddr 99 (.tmp 5) 1)) (by kernel_rfl) (by kernel_rfl) 1 rfl rfl _ 0 rfl rfl (by kernel_rfl) (grd_none) fldS1)
    exact steps_nil
  · intro m a w hI hm
    exact ⟨(low_fact hst 0 rfl (by kernel_rfl) hI), (low_fact hst 1 rfl (by kernel_rfl) hI), (low_fact hst 2 rfl (by kernel_rfl) hI), (out_op hI hm 2 24 _ (by kernel_rfl) rfl), trivial⟩
set_option maxRecDepth 100000 in
theorem dsr_r8 {Q : Exit → Act → World → Prop} {Wb W0 : World} {a0 : Act}  {p q : Nat} (_hqp : q ≤ p) (bp : len p ≤ 1099511627775) (bq : len q ≤ 1099511627775) (_h3 : 3 ≤ len q) {c0 d0 c1 d1 : Nat} {o : Bool} (hok : StepsOk p q c0 d0 c1 d1 o) (_hz : d0 ≠ 0) {U V : Nat} (hUV : if o then U + c0 * p = d0 * q ∧ V + d1 * q = c1 * p else U + d0 * q = c0 * p ∧ V + c1 * p = d1 * q) (hU : U < p) (hV : V < q) (hst : St Wb 56 [(0, (natF p)), (1, (natF q)), (18, (eqF (.bool true))), (24, (eqF (.bool false)))] [(5, (stBF c0 d0 c1 d1 o))] a0 W0)
    (fin : ∀ a w, St Wb 56 [(0, (natF U)), (1, (natF V)), (18, (eqF (.bool true))), (24, (eqF (.bool false)))] [(5, (stBF c0 d0 c1 d1 o))] a w → Q .normal a w) : (Code.region 8 dsr_o8 false).wp Tryz.prog Q a0 W0 := by
  have hP : Plan dsr_o8 56 ([⟨5, none, none, (stBF c0 d0 c1 d1 o), (stBF c0 d0 c1 d1 o)⟩] : List BoxS) [] := ⟨by kernel_rfl, by kernel_rfl, by kernel_rfl, by kernel_rfl, by kernel_rfl, by kernel_rfl⟩
  refine region_st (F := [(eqF (.agg #[.int .u64 (c0 : Int), .int .u64 (d0 : Int), .int .u64 (c1 : Int), .int .u64 (d1 : Int), .bool o])), (natF p), (natF q), (tup2F (natF U) (natF V)), (tup2F (natF U) (natF V)), (natF U), (natF V), (natF U), (natF V)]) hP hst rfl rfl ?_ ?_ fin
  · show Steps dsr_o8 56 Wb W0 a0 _ _ _ 9
    refine steps_snoc (k := 8) ?_ (s_assign (i := 8) hP (g := none) (isOp_of (by kernel_rfl) : IsOp dsr_o8 8 none (.assign (.tmp 39))) (by kernel_rfl) (by kernel_rfl) (grd_none) (src_op (f := (natF V)) 6 (by kernel_rfl) (by kernel_rfl) rfl) rfl)
    refine steps_snoc (k := 7) ?_ (s_assign (i := 7) hP (g := none) (isOp_of (by kernel_rfl) : IsOp dsr_o8 7 none (.assign (.tmp 38))) (by kernel_rfl) (by kernel_rfl) (grd_none) (src_op (f := (natF U)) 5 (by kernel_rfl) (by kernel_rfl) rfl) rfl)
    refine steps_snoc (k := 6) ?_ (s_op1 (i := 6) hP (g := none) (isOp_of (by kernel_rfl) : IsOp dsr_o8 6 none (.extract (.tmp 33) 1)) (by kernel_rfl) (by kernel_rfl) (grd_none) (src_op (f := (tup2F (natF U) (natF V))) 4 (by kernel_rfl) (by kernel_rfl) rfl) (fun ρ w hx => h_ext2_1 hx) rfl)
    refine steps_snoc (k := 5) ?_ (s_op1 (i := 5) hP (g := none) (isOp_of (by kernel_rfl) : IsOp dsr_o8 5 none (.extract (.tmp 33) 0)) (by kernel_rfl) (by kernel_rfl) (grd_none) (src_op (f := (tup2F (natF U) (natF V))) 4 (by kernel_rfl) (by kernel_rfl) rfl) (fun ρ w hx => h_ext2_0 hx) rfl)
    refine steps_snoc (k := 4) ?_ (s_move (i := 4) hP (g := none) (isOp_of (by kernel_rfl) : IsOp dsr_o8 4 none (.move (.tmp 37))) (by kernel_rfl) (by kernel_rfl) (grd_none) (src_op (f := (tup2F (natF U) (natF V))) 3 (by kernel_rfl) (by kernel_rfl) rfl) rfl)
    refine steps_snoc (k := 3) ?_ (s_call3 (i := 3) hP (g := none) (isOp_of (by kernel_rfl) : IsOp dsr_o8 3 none (.call { callee := .value (.func 96), args := #[.tmp 34, .tmp 35, .tmp 36], argTypes := #[99, 22, 22] })) (by kernel_rfl) (by kernel_rfl) (grd_none) (src_op (f := (eqF (.agg #[.int .u64 (c0 : Int), .int .u64 (d0 : Int), .int .u64 (c1 : Int), .int .u64 (d1 : Int), .bool o]))) 0 (by kernel_rfl) (by kernel_rfl) rfl) (src_op (f := (natF p)) 1 (by kernel_rfl) (by kernel_rfl) rfl) (src_op (f := (natF q)) 2 (by kernel_rfl) (by kernel_rfl) rfl) dsrpl__quadrature_integer_steps__apply (fun w v0 v1 v2 hb h0 h1 h2 => kApply h0 h1 h2 hok hUV hU hV bp bq) rfl)
    refine steps_snoc (k := 2) ?_ (s_move (i := 2) hP (g := none) (isOp_of (by kernel_rfl) : IsOp dsr_o8 2 none (.move (.tmp 1))) (by kernel_rfl) (by kernel_rfl) (grd_none) (src_low hst 1 rfl (by kernel_rfl)) rfl)
    refine steps_snoc (k := 1) ?_ (s_move (i := 1) hP (g := none) (isOp_of (by kernel_rfl) : IsOp dsr_o8 1 none (.move (.tmp 0))) (by kernel_rfl) (by kernel_rfl) (grd_none) (src_low hst 0 rfl (by kernel_rfl)) rfl)
    refine steps_snoc (k := 0) ?_ (s_load (i := 0) hP (g := none) (isOp_of (by kernel_rfl) : IsOp dsr_o8 0 none (.load 99 (.tmp 5))) (by kernel_rfl) (by kernel_rfl) (grd_none) (bsrc_old 0 _ rfl rfl rfl (by kernel_rfl) (by kernel_rfl)) (fun w q h => loadS w q h) rfl)
    exact steps_nil
  · intro m a w hI hm
    exact ⟨(out_op hI hm 7 0 _ (by kernel_rfl) rfl), (out_op hI hm 8 1 _ (by kernel_rfl) rfl), (low_fact hst 2 rfl (by kernel_rfl) hI), (low_fact hst 3 rfl (by kernel_rfl) hI), trivial⟩
set_option maxRecDepth 100000 in
theorem dsr_r3b {Q : Exit → Act → World → Prop} {Wb W0 : World} {a0 : Act}  {p q : Nat} (_hqp : q ≤ p) (_bp : len p ≤ 1099511627775) (_bq : len q ≤ 1099511627775) (_h3 : len q ≤ 2) (hst : St Wb 56 [(0, (natF p)), (1, (natF q))] [] a0 W0)
    (fin : ∀ a w, St Wb 56 [(0, (natF p)), (1, (natF q)), (18, (eqF (.bool false)))] [] a w → Q .normal a w) : (Code.region 3 dsr_o3 false).wp Tryz.prog Q a0 W0 := by
  have hP : Plan dsr_o3 56 ([] : List BoxS) [] := ⟨by kernel_rfl, by kernel_rfl, by kernel_rfl, by kernel_rfl, by kernel_rfl, by kernel_rfl⟩
  refine region_st (F := [(natF q), (eqF (.int .i64 (len q : Int))), (eqF (.bool false))]) hP hst rfl rfl ?_ ?_ fin
  · show Steps dsr_o3 56 Wb W0 a0 _ _ _ 3
    refine steps_snoc (k := 2) ?_ (s_op2 (i := 2) hP (g := none) (isOp_of (by kernel_rfl) : IsOp dsr_o3 2 none (.binOp .gtr 3 (.tmp 17) (.const (.int .i64 2)) 3)) (by kernel_rfl) (by kernel_rfl) (grd_none) (src_op (f := (eqF (.int .i64 (len q : Int)))) 1 (by kernel_rfl) (by kernel_rfl) rfl) (src_const _) (fun ρ w hx hy => h_gtr (r := false) (by simp; omega) hx hy) rfl)
    refine steps_snoc (k := 1) ?_ (s_op1 (i := 1) hP (g := none) (isOp_of (by kernel_rfl) : IsOp dsr_o3 1 none (.call { callee := .builtin .len, args := #[.tmp 16], argTypes := #[22] })) (by kernel_rfl) (by kernel_rfl) (grd_none) (src_op (f := (natF q)) 0 (by kernel_rfl) (by kernel_rfl) rfl) (fun ρ w hx => h_lenN hx) rfl)
    refine steps_snoc (k := 0) ?_ (s_move (i := 0) hP (g := none) (isOp_of (by kernel_rfl) : IsOp dsr_o3 0 none (.move (.tmp 1))) (by kernel_rfl) (by kernel_rfl) (grd_none) (src_low hst 1 rfl (by kernel_rfl)) rfl)
    exact steps_nil
  · intro m a w hI hm
    exact ⟨(low_fact hst 0 rfl (by kernel_rfl) hI), (low_fact hst 1 rfl (by kernel_rfl) hI), (out_op hI hm 2 18 _ (by kernel_rfl) rfl), trivial⟩
set_option maxRecDepth 100000 in
theorem dsr_r9 {Q : Exit → Act → World → Prop} {Wb W0 : World} {a0 : Act}  {p q : Nat} (_hqp : q ≤ p) (_bp : len p ≤ 1099511627775) (_bq : len q ≤ 1099511627775) (q0 : q = 0) (hst : St Wb 56 [(0, (natF p)), (1, (natF q)), (18, (eqF (.bool false)))] [] a0 W0)
    (fin : ∀ a w, St Wb 56 [(0, (natF p)), (1, (natF q)), (18, (eqF (.bool false))), (42, (eqF (.bool true)))] [] a w → Q .normal a w) : (Code.region 9 dsr_o9 false).wp Tryz.prog Q a0 W0 := by
  have hP : Plan dsr_o9 56 ([] : List BoxS) [] := ⟨by kernel_rfl, by kernel_rfl, by kernel_rfl, by kernel_rfl, by kernel_rfl, by kernel_rfl⟩
  refine region_st (F := [(natF q), (eqF (.int .i64 (len q : Int))), (eqF (.bool true))]) hP hst rfl rfl ?_ ?_ fin
  · show Steps dsr_o9 56 Wb W0 a0 _ _ _ 3
    refine steps_snoc (k := 2) ?_ (s_op2 (i := 2) hP (g := none) (isOp_of (by kernel_rfl) : IsOp dsr_o9 2 none (.binOp .eql 3 (.tmp 41) (.const (.int .i64 0)) 3)) (by kernel_rfl) (by kernel_rfl) (grd_none) (src_op (f := (eqF (.int .i64 (len q : Int)))) 1 (by kernel_rfl) (by kernel_rfl) rfl) (src_const _) (fun ρ w hx hy => h_eqlI (r := true) (by rw [q0, len_zero]; rfl) hx hy) rfl)
    refine steps_snoc (k := 1) ?_ (s_op1 (i := 1) hP (g := none) (isOp_of (by kernel_rfl) : IsOp dsr_o9 1 none (.call { callee := .builtin .len, args := #[.tmp 40], argTypes := #[22] })) (by kernel_rfl) (by kernel_rfl) (grd_none) (src_op (f := (natF q)) 0 (by kernel_rfl) (by kernel_rfl) rfl) (fun ρ w hx => h_lenN hx) rfl)
    refine steps_snoc (k := 0) ?_ (s_move (i := 0) hP (g := none) (isOp_of (by kernel_rfl) : IsOp dsr_o9 0 none (.move (.tmp 1))) (by kernel_rfl) (by kernel_rfl) (grd_none) (src_low hst 1 rfl (by kernel_rfl)) rfl)
    exact steps_nil
  · intro m a w hI hm
    exact ⟨(low_fact hst 0 rfl (by kernel_rfl) hI), (low_fact hst 1 rfl (by kernel_rfl) hI), (low_fact hst 2 rfl (by kernel_rfl) hI), (out_op hI hm 2 42 _ (by kernel_rfl) rfl), trivial⟩
set_option maxRecDepth 100000 in
theorem dsr_r10 {Q : Exit → Act → World → Prop} {Wb W0 : World} {a0 : Act}  {p q : Nat} (_hqp : q ≤ p) (_bp : len p ≤ 1099511627775) (_bq : len q ≤ 1099511627775) (_q0 : q = 0) (hst : St Wb 56 [(0, (natF p)), (1, (natF q)), (18, (eqF (.bool false))), (42, (eqF (.bool true)))] [] a0 W0)
    (fin : ∀ a w, St Wb 56 [(0, (natF p)), (1, (natF q)), (4, (natF p)), (18, (eqF (.bool false))), (42, (eqF (.bool true)))] [] a w → Q .normal a w) : (Code.region 10 dsr_o10 false).wp Tryz.prog Q a0 W0 := by
  have hP : Plan dsr_o10 56 ([] : List BoxS) [] := ⟨by kernel_rfl, by kernel_rfl, by kernel_rfl, by kernel_rfl, by kernel_rfl, by kernel_rfl⟩
  refine region_st (F := [(natF p), (natF p)]) hP hst rfl rfl ?_ ?_ fin
  · show Steps dsr_o10 56 Wb W0 a0 _ _ _ 2
    refine steps_snoc (k := 1) ?_ (s_assign (i := 1) hP (g := none) (isOp_of (by kernel_rfl) : IsOp dsr_o10 1 none (.assign (.tmp 43))) (by kernel_rfl) (by kernel_rfl) (grd_none) (src_op (f := (natF p)) 0 (by kernel_rfl) (by kernel_rfl) rfl) rfl)
    refine steps_snoc (k := 0) ?_ (s_move (i := 0) hP (g := none) (isOp_of (by kernel_rfl) : IsOp dsr_o10 0 none (.move (.tmp 0))) (by kernel_rfl) (by kernel_rfl) (grd_none) (src_low hst 0 rfl (by kernel_rfl)) rfl)
    exact steps_nil
  · intro m a w hI hm
    exact ⟨(low_fact hst 0 rfl (by kernel_rfl) hI), (low_fact hst 1 rfl (by kernel_rfl) hI), (out_op hI hm 1 4 _ (by kernel_rfl) rfl), (low_fact hst 2 rfl (by kernel_rfl) hI), (low_fact hst 3 rfl (by kernel_rfl) hI), trivial⟩
set_option maxRecDepth 100000 in
theorem dsr_r9b {Q : Exit → Act → World → Prop} {Wb W0 : World} {a0 : Act}  {p q : Nat} (_hqp : q ≤ p) (_bp : len p ≤ 1099511627775) (_bq : len q ≤ 1099511627775) (q0 : 0 < q) (_q64 : q < 18446744073709551616) (hst : St Wb 56 [(0, (natF p)), (1, (natF q)), (18, (eqF (.bool false)))] [] a0 W0)
    (fin : ∀ a w, St Wb 56 [(0, (natF p)), (1, (natF q)), (18, (eqF (.bool false))), (42, (eqF (.bool false)))] [] a w → Q .normal a w) : (Code.region 9 dsr_o9 false).wp Tryz.prog Q a0 W0 := by
  have hP : Plan dsr_o9 56 ([] : List BoxS) [] := ⟨by kernel_rfl, by kernel_rfl, by kernel_rfl, by kernel_rfl, by kernel_rfl, by kernel_rfl⟩
  refine region_st (F := [(natF q), (eqF (.int .i64 (len q : Int))), (eqF (.bool false))]) hP hst rfl rfl ?_ ?_ fin
  · show Steps dsr_o9 56 Wb W0 a0 _ _ _ 3
    refine steps_snoc (k := 2) ?_ (s_op2 (i := 2) hP (g := none) (isOp_of (by kernel_rfl) : IsOp dsr_o9 2 none (.binOp .eql 3 (.tmp 41) (.const (.int .i64 0)) 3)) (by kernel_rfl) (by kernel_rfl) (grd_none) (src_op (f := (eqF (.int .i64 (len q : Int)))) 1 (by kernel_rfl) (by kernel_rfl) rfl) (src_const _) (fun ρ w hx hy => h_eqlI (r := false) (len_ne q0) hx hy) rfl)
    refine steps_snoc (k := 1) ?_ (s_op1 (i := 1) hP (g := none) (isOp_of (by kernel_rfl) : IsOp dsr_o9 1 none (.call { callee := .builtin .len, args := #[.tmp 40], argTypes := #[22] })) (by kernel_rfl) (by kernel_rfl) (grd_none) (src_op (f := (natF q)) 0 (by kernel_rfl) (by kernel_rfl) rfl) (fun ρ w hx => h_lenN hx) rfl)
    refine steps_snoc (k := 0) ?_ (s_move (i := 0) hP (g := none) (isOp_of (by kernel_rfl) : IsOp dsr_o9 0 none (.move (.tmp 1))) (by kernel_rfl) (by kernel_rfl) (grd_none) (src_low hst 1 rfl (by kernel_rfl)) rfl)
    exact steps_nil
  · intro m a w hI hm
    exact ⟨(low_fact hst 0 rfl (by kernel_rfl) hI), (low_fact hst 1 rfl (by kernel_rfl) hI), (low_fact hst 2 rfl (by kernel_rfl) hI), (out_op hI hm 2 42 _ (by kernel_rfl) rfl), trivial⟩
set_option maxRecDepth 100000 in
theorem dsr_r11 {Q : Exit → Act → World → Prop} {Wb W0 : World} {a0 : Act}  {p q : Nat} (_hqp : q ≤ p) (_bp : len p ≤ 1099511627775) (_bq : len q ≤ 1099511627775) (q0 : 0 < q) (_q64 : q < 18446744073709551616) (hst : St Wb 56 [(0, (natF p)), (1, (natF q)), (18, (eqF (.bool false))), (42, (eqF (.bool false)))] [] a0 W0)
    (fin : ∀ a w, St Wb 56 [(0, (natF p)), (1, (natF q)), (9, (natF (p % q))), (18, (eqF (.bool false))), (42, (eqF (.bool false)))] [] a w → Q .normal a w) : (Code.region 11 dsr_o11 false).wp Tryz.prog Q a0 W0 := by
  have hP : Plan dsr_o11 56 ([] : List BoxS) [] := ⟨by kernel_rfl, by kernel_rfl, by kernel_rfl, by kernel_rfl, by kernel_rfl, by kernel_rfl⟩
  refine region_st (F := [(natF p), (natF q), (tup2F (natF (p / q)) (natF (p % q))), (tup2F (natF (p / q)) (natF (p % q))), (natF (p / q)), (natF (p % q)), (natF (p / q)), (natF (p % q))]) hP hst rfl rfl ?_ ?_ fin
  · show Steps dsr_o11 56 Wb W0 a0 _ _ _ 8
    refine steps_snoc (k := 7) ?_ (s_assign (i := 7) hP (g := none) (isOp_of (by kernel_rfl) : IsOp dsr_o11 7 none (.assign (.tmp 49))) (by kernel_rfl) (by kernel_rfl) (grd_none) (src_op (f := (natF (p % q))) 5 (by kernel_rfl) (by kernel_rfl) rfl) rfl)
    refine steps_snoc (k := 6) ?_ (s_assign (i := 6) hP (g := none) (isOp_of (by kernel_rfl) : IsOp dsr_o11 6 none (.assign (.tmp 48))) (by kernel_rfl) (by kernel_rfl) (grd_none) (src_op (f := (natF (p / q))) 4 (by kernel_rfl) (by kernel_rfl) rfl) rfl)
    refine steps_snoc (k := 5) ?_ (s_op1 (i := 5) hP (g := none) (isOp_of (by kernel_rfl) : IsOp dsr_o11 5 none (.extract (.tmp 44) 1)) (by kernel_rfl) (by kernel_rfl) (grd_none) (src_op (f := (tup2F (natF (p / q)) (natF (p % q)))) 3 (by kernel_rfl) (by kernel_rfl) rfl) (fun ρ w hx => h_ext2_1 hx) rfl)
    refine steps_snoc (k := 4) ?_ (s_op1 (i := 4) hP (g := none) (isOp_of (by kernel_rfl) : IsOp dsr_o11 4 none (.extract (.tmp 44) 0)) (by kernel_rfl) (by kernel_rfl) (grd_none) (src_op (f := (tup2F (natF (p / q)) (natF (p % q)))) 3 (by kernel_rfl) (by kernel_rfl) rfl) (fun ρ w hx => h_ext2_0 hx) rfl)
    refine steps_snoc (k := 3) ?_ (s_move (i := 3) hP (g := none) (isOp_of (by kernel_rfl) : IsOp dsr_o11 3 none (.move (.tmp 47))) (by kernel_rfl) (by kernel_rfl) (grd_none) (src_op (f := (tup2F (natF (p / q)) (natF (p % q)))) 2 (by kernel_rfl) (by kernel_rfl) rfl) rfl)
    refine steps_snoc (k := 2) ?_ (s_call2 (i := 2) hP (g := none) (isOp_of (by kernel_rfl) : IsOp dsr_o11 2 none (.call { callee := .value (.func 95), args := #[.tmp 45, .tmp 46], argTypes := #[22, 22] })) (by kernel_rfl) (by kernel_rfl) (grd_none) (src_op (f := (natF p)) 0 (by kernel_rfl) (by kernel_rfl) rfl) (src_op (f := (natF q)) 1 (by kernel_rfl) (by kernel_rfl) rfl) dsrpl_quadrature_integer_divide (fun w v0 v1 hb h0 h1 => kDivide h0 h1 (by omega) (by omega) q0) rfl)
    refine steps_snoc (k := 1) ?_ (s_move (i := 1) hP (g := none) (isOp_of (by kernel_rfl) : IsOp dsr_o11 1 none (.move (.tmp 1))) (by kernel_rfl) (by kernel_rfl) (grd_none) (src_low hst 1 rfl (by kernel_rfl)) rfl)
    refine steps_snoc (k := 0) ?_ (s_move (i := 0) hP (g := none) (isOp_of (by kernel_rfl) : IsOp dsr_o11 0 none (.move (.tmp 0))) (by kernel_rfl) (by kernel_rfl) (grd_none) (src_low hst 0 rfl (by kernel_rfl)) rfl)
    exact steps_nil
  · intro m a w hI hm
    exact ⟨(low_fact hst 0 rfl (by kernel_rfl) hI), (low_fact hst 1 rfl (by kernel_rfl) hI), (out_op hI hm 7 9 _ (by kernel_rfl) rfl), (low_fact hst 2 rfl (by kernel_rfl) hI), (low_fact hst 3 rfl (by kernel_rfl) hI), trivial⟩
set_option maxRecDepth 100000 in
theorem dsr_r12 {Q : Exit → Act → World → Prop} {Wb W0 : World} {a0 : Act}  {p q : Nat} (_hqp : q ≤ p) (_bp : len p ≤ 1099511627775) (_bq : len q ≤ 1099511627775) (q0 : 0 < q) (q64 : q < 18446744073709551616) (hst : St Wb 56 [(0, (natF p)), (1, (natF q)), (9, (natF (p % q))), (18, (eqF (.bool false))), (42, (eqF (.bool false)))] [] a0 W0)
    (fin : ∀ a w, St Wb 56 [(0, (natF p)), (1, (natF q)), (4, (natF (Nat.gcd q (p % q)))), (9, (natF (p % q))), (18, (eqF (.bool false))), (42, (eqF (.bool false)))] [] a w → Q .normal a w) : (Code.region 12 dsr_o12 false).wp Tryz.prog Q a0 W0 := by
  have hP : Plan dsr_o12 56 ([] : List BoxS) [] := ⟨by kernel_rfl, by kernel_rfl, by kernel_rfl, by kernel_rfl, by kernel_rfl, by kernel_rfl⟩
  refine region_st (F := [(natF q), (eqF (.int .u64 ((q : Nat) : Int))), (natF (p % q)), (eqF (.int .u64 (((p % q) : Nat) : Int))), (eqF (.int .u64 ((Nat.gcd q (p % q) : Nat) : Int))), (natF (Nat.gcd q (p % q))), (natF (Nat.gcd q (p % q)))]) hP hst rfl rfl ?_ ?_ fin
  · show Steps dsr_o12 56 Wb W0 a0 _ _ _ 7
    refine steps_snoc (k := 6) ?_ (s_assign (i := 6) hP (g := none) (isOp_of (by kernel_rfl) : IsOp dsr_o12 6 none (.assign (.tmp 55))) (by kernel_rfl) (by kernel_rfl) (grd_none) (src_op (f := (natF (Nat.gcd q (p % q)))) 5 (by kernel_rfl) (by kernel_rfl) rfl) rfl)
    refine steps_snoc (k := 5) ?_ (s_call1 (i := 5) hP (g := none) (isOp_of (by kernel_rfl) : IsOp dsr_o12 5 none (.call { callee := .value (.func 81), args := #[.tmp 54], argTypes := #[77] })) (by kernel_rfl) (by kernel_rfl) (grd_none) (src_op (f := (eqF (.int .u64 ((Nat.gcd q (p % q) : Nat) : Int)))) 4 (by kernel_rfl) (by kernel_rfl) rfl) dsrpl_quadrature_integer_fromWord (fun w v0 hb h0 => kFromWord h0 (Nat.lt_of_le_of_lt (Nat.le_of_dvd q0 (Nat.gcd_dvd_left _ _)) q64)) rfl)
    refine steps_snoc (k := 4) ?_ (s_call2 (i := 4) hP (g := none) (isOp_of (by kernel_rfl) : IsOp dsr_o12 4 none (.call { callee := .value (.func 97), args := #[.tmp 51, .tmp 53], argTypes := #[77, 77] })) (by kernel_rfl) (by kernel_rfl) (grd_none) (src_op (f := (eqF (.int .u64 ((q : Nat) : Int)))) 1 (by kernel_rfl) (by kernel_rfl) rfl) (src_op (f := (eqF (.int .u64 (((p % q) : Nat) : Int)))) 3 (by kernel_rfl) (by kernel_rfl) rfl) dsrpl_quadrature_integer_wordDivisor (fun w v0 v1 hb h0 h1 => kWordDivisor h0 h1 q64 (Nat.lt_trans (Nat.mod_lt _ q0) q64)) rfl)
    refine steps_snoc (k := 3) ?_ (s_call1 (i := 3) hP (g := none) (isOp_of (by kernel_rfl) : IsOp dsr_o12 3 none (.call { callee := .value (.func 98), args := #[.tmp 52], argTypes := #[22] })) (by kernel_rfl) (by kernel_rfl) (grd_none) (src_op (f := (natF (p % q))) 2 (by kernel_rfl) (by kernel_rfl) rfl) dsrpl_quadrature_integer_toWord (fun w v0 hb h0 => kToWord h0 (Nat.lt_trans (Nat.mod_lt _ q0) q64)) rfl)
    refine steps_snoc (k := 2) ?_ (s_move (i := 2) hP (g := none) (isOp_of (by kernel_rfl) : IsOp dsr_o12 2 none (.move (.tmp 9))) (by kernel_rfl) (by kernel_rfl) (grd_none) (src_low hst 2 rfl (by kernel_rfl)) rfl)
    refine steps_snoc (k := 1) ?_ (s_call1 (i := 1) hP (g := none) (isOp_of (by kernel_rfl) : IsOp dsr_o12 1 none (.call { callee := .value (.func 98), args := #[.tmp 50], argTypes := #[22] })) (by kernel_rfl) (by kernel_rfl) (grd_none) (src_op (f := (natF q)) 0 (by kernel_rfl) (by kernel_rfl) rfl) dsrpl_quadrature_integer_toWord (fun w v0 hb h0 => kToWord h0 q64) rfl)
    refine steps_snoc (k := 0) ?_ (s_move (i := 0) hP (g := none) (isOp_of (by kernel_rfl) : IsOp dsr_o12 0 none (.move (.tmp 1))) (by kernel_rfl) (by kernel_rfl) (grd_none) (src_low hst 1 rfl (by kernel_rfl)) rfl)
    exact steps_nil
  · intro m a w hI hm
    exact ⟨(low_fact hst 0 rfl (by kernel_rfl) hI), (low_fact hst 1 rfl (by kernel_rfl) hI), (out_op hI hm 6 4 _ (by kernel_rfl) rfl), (low_fact hst 2 rfl (by kernel_rfl) hI), (low_fact hst 3 rfl (by kernel_rfl) hI), (low_fact hst 4 rfl (by kernel_rfl) hI), trivial⟩
set_option maxRecDepth 100000 in
theorem dsr_r0b {Q : Exit → Act → World → Prop} {Wb W0 : World} {a0 : Act}  {pp qq : Nat} (_hlp : len pp ≤ 1099511627775) (_hlq : len qq ≤ 1099511627775) (_lt : qq ≤ pp) (hst : St Wb 56 [(0, (natF pp)), (1, (natF qq))] [] a0 W0)
    (fin : ∀ a w, St Wb 56 [(0, (natF pp)), (1, (natF qq)), (4, (eqF (.slice none 0 0)))] [] a w → Q .normal a w) : (Code.region 0 dsr_o0 false).wp Tryz.prog Q a0 W0 := by
  have hP : Plan dsr_o0 56 ([] : List BoxS) [] := ⟨by kernel_rfl, by kernel_rfl, by kernel_rfl, by kernel_rfl, by kernel_rfl, by kernel_rfl⟩
  refine region_st (F := [(eqF (.slice none 0 0))]) hP hst rfl rfl ?_ ?_ fin
  · show Steps dsr_o0 56 Wb W0 a0 _ _ _ 1
    refine steps_snoc (k := 0) ?_ (s_assign (i := 0) hP (g := none) (isOp_of (by kernel_rfl) : IsOp dsr_o0 0 none (.assign (.const (.slice none 0 0)))) (by kernel_rfl) (by kernel_rfl) (grd_none) (src_const _) rfl)
    exact steps_nil
  · intro m a w hI hm
    exact ⟨(low_fact hst 0 rfl (by kernel_rfl) hI), (low_fact hst 1 rfl (by kernel_rfl) hI), (out_op hI hm 0 4 _ (by kernel_rfl) rfl), trivial⟩
set_option maxRecDepth 100000 in
theorem dsr_r1b {Q : Exit → Act → World → Prop} {Wb W0 : World} {a0 : Act}  {pp qq : Nat} (_hlp : len pp ≤ 1099511627775) (_hlq : len qq ≤ 1099511627775) (lt : qq ≤ pp) (hst : St Wb 56 [(0, (natF pp)), (1, (natF qq)), (4, (eqF (.slice none 0 0)))] [] a0 W0)
    (fin : ∀ a w, St Wb 56 [(0, (natF pp)), (1, (natF qq)), (4, (eqF (.slice none 0 0))), (13, (eqF (.bool false)))] [] a w → Q .normal a w) : (Code.region 1 dsr_o1 false).wp Tryz.prog Q a0 W0 := by
  have hP : Plan dsr_o1 56 ([] : List BoxS) [] := ⟨by kernel_rfl, by kernel_rfl, by kernel_rfl, by kernel_rfl, by kernel_rfl, by kernel_rfl⟩
  refine region_st (F := [(natF pp), (natF qq), (eqF (.int .i64 (cmpN pp qq))), (eqF (.bool false))]) hP hst rfl rfl ?_ ?_ fin
  · show Steps dsr_o1 56 Wb W0 a0 _ _ _ 4
    refine steps_snoc (k := 3) ?_ (s_op2 (i := 3) hP (g := none) (isOp_of (by kernel_rfl) : IsOp dsr_o1 3 none (.binOp .lss 3 (.tmp 12) (.const (.int .i64 0)) 3)) (by kernel_rfl) (by kernel_rfl) (grd_none) (src_op (f := (eqF (.int .i64 (cmpN pp qq)))) 2 (by kernel_rfl) (by kernel_rfl) rfl) (src_const _) (fun ρ w hx hy => h_lss (r := false) (cmpN_ge lt) hx hy) rfl)
    refine steps_snoc (k := 2) ?_ (s_call2 (i := 2) hP (g := none) (isOp_of (by kernel_rfl) : IsOp dsr_o1 2 none (.call { callee := .value (.func 82), args := #[.tmp 10, .tmp 11], argTypes := #[22, 22] })) (by kernel_rfl) (by kernel_rfl) (grd_none) (src_op (f := (natF pp)) 0 (by kernel_rfl) (by kernel_rfl) rfl) (src_op (f := (natF qq)) 1 (by kernel_rfl) (by kernel_rfl) rfl) dsrpl_quadrature_integer_compare (fun w v0 v1 hb h0 h1 => kCompare h0 h1 (by omega) (by omega)) rfl)
    refine steps_snoc (k := 1) ?_ (s_move (i := 1) hP (g := none) (isOp_of (by kernel_rfl) : IsOp dsr_o1 1 none (.move (.tmp 1))) (by kernel_rfl) (by kernel_rfl) (grd_none) (src_low hst 1 rfl (by kernel_rfl)) rfl)
    refine steps_snoc (k := 0) ?_ (s_move (i := 0) hP (g := none) (isOp_of (by kernel_rfl) : IsOp dsr_o1 0 none (.move (.tmp 0))) (by kernel_rfl) (by kernel_rfl) (grd_none) (src_low hst 0 rfl (by kernel_rfl)) rfl)
    exact steps_nil
  · intro m a w hI hm
    exact ⟨(low_fact hst 0 rfl (by kernel_rfl) hI), (low_fact hst 1 rfl (by kernel_rfl) hI), (low_fact hst 2 rfl (by kernel_rfl) hI), (out_op hI hm 3 13 _ (by kernel_rfl) rfl), trivial⟩
set_option maxRecDepth 100000 in
theorem divisor_any (va vb : Value) (pp qq : Nat) (W : World) (ha : NatAt W va pp) (hb : NatAt W vb qq) (hlp : len pp ≤ 1099511627775) (hlq : len qq ≤ 1099511627775) :
    Calls Tryz.prog 73 #[va, vb] W (GivesP (natF (Nat.gcd pp qq)) W) := by
  refine calls_stW (S := [(0, (natF pp)), (1, (natF qq))]) Tryz.func73 (by kernel_rfl) Tryz.ntmps73 (by simp) (fun x hx => ?_) fun a w hst => ?_
  · simp only [List.mem_cons, List.not_mem_nil, or_false] at hx
    rcases hx with rfl | rfl
    · exact ⟨_, rfl, ha⟩
    · exact ⟨_, rfl, hb⟩
  show Code.wp _ dsr_n0 _ a w
  rcases Nat.lt_or_ge pp qq with lt | lt
  · rw [dsr_e0]
    refine wp_seq ?_
    rw [dsr_e1]
    refine dsr_r0 hlp hlq lt hst ?_
    clear hst
    intro a w hst
    show Code.wp _ dsr_n2 _ a w
    rw [dsr_e2]
    refine wp_seq ?_
    rw [dsr_e3]
    refine wp_seq ?_
    rw [dsr_e5]
    refine dsr_r1 hlp hlq lt hst ?_
    clear hst
    intro a w hst
    show Code.wp _ dsr_n6 _ a w
    rw [dsr_e6]
    refine wp_cond_true (st_bool hst 3 rfl) ?_
    show Code.wp _ dsr_n7 _ a w
    rw [dsr_e7]
    refine dsr_r2 hlp hlq lt hst ?_
    clear hst
    intro a w hst
    show Code.wp _ dsr_n4 _ a w
    rw [dsr_e4]
    refine wp_seq ?_
    rw [dsr_e9]
    refine wp_block ?_
    show Code.wp _ dsr_n11 _ a w
    rw [dsr_e11]
    refine loop_ghost (fun (z : Nat × Nat) a w => St W 56 [(0, (natF z.1)), (1, (natF z.2))] [] a w ∧ z.2 ≤ z.1 ∧ z.1 ≤ max pp qq ∧ Nat.gcd z.1 z.2 = Nat.gcd pp qq) (fun z => z.2) ?_ (qq, pp) ⟨hst.to ⟨hst.slots.get (k := 0) rfl, hst.slots.get (k := 1) rfl, trivial⟩, by show pp ≤ qq; omega, by show qq ≤ max pp qq; omega, Nat.gcd_comm _ _⟩
    rintro ⟨p, q⟩ a w ⟨hst, hqp, hpm, hg⟩
    simp only [] at hst hqp hpm hg
    have bm : len (max pp qq) ≤ 1099511627775 := by rcases Nat.le_total pp qq with h | h; (rw [Nat.max_eq_right h]; exact hlq); (rw [Nat.max_eq_left h]; exact hlp)
    have bp : len p ≤ 1099511627775 := Nat.le_trans (len_mono hpm) bm
    have bq : len q ≤ 1099511627775 := Nat.le_trans (len_mono hqp) bp
    show Code.wp _ dsr_n12 _ a w
    rcases Nat.lt_or_ge 2 (len q) with h3 | h3
    · have h3 : 3 ≤ len q := h3
      rw [dsr_e12]
      refine wp_seq ?_
      rw [dsr_e13]
      refine wp_seq ?_
      rw [dsr_e15]
      refine dsr_r3 hqp bp bq h3 hst ?_
      clear hst
      intro a w hst
      show Code.wp _ dsr_n16 _ a w
      rw [dsr_e16]
      refine wp_cond_true (st_bool hst 2 rfl) ?_
      show Code.wp _ dsr_n17 _ a w
      rw [dsr_e17]
      refine wp_skip ?_
      show Code.wp _ dsr_n14 _ a w
      rw [dsr_e14]
      refine wp_block ?_
      show Code.wp _ dsr_n19 _ a w
      rw [dsr_e19]
      refine wp_seq ?_
      rw [dsr_e20]
      refine dsr_r4 hqp bp bq h3 hst ?_
      clear hst
      intro a w hst
      obtain ⟨c0, d0, c1, d1, o, hok, hst⟩ := st_open hst
      by_cases hz : d0 = 0
      · have q0 : 0 < q := by rcases Nat.eq_zero_or_pos q with h | h; (rw [h, len_zero] at h3; omega); exact h
        show Code.wp _ dsr_n21 _ a w
        rw [dsr_e21]
        refine wp_seq ?_
        rw [dsr_e22]
        refine dsr_r5 hqp bp bq h3 hok hz q0 hst ?_
        clear hst
        intro a w hst
        show Code.wp _ dsr_n23 _ a w
        rw [dsr_e23]
        refine wp_cond_true (st_bool hst 3 rfl) ?_
        show Code.wp _ dsr_n24 _ a w
        rw [dsr_e24]
        refine wp_seq ?_
        rw [dsr_e26]
        refine dsr_r6 hqp bp bq h3 hok hz q0 hst ?_
        clear hst
        intro a w hst
        show Code.wp _ dsr_n27 _ a w
        rw [dsr_e27]
        refine dsr_r7 hqp bp bq h3 hok hz q0 hst ?_
        clear hst
        intro a w hst
        exact ⟨(q, p % q), ⟨((hst.to (S' := [(0, (natF q)), (1, (natF (p % q)))]) ⟨hst.slots.get (k := 0) rfl, hst.slots.get (k := 1) rfl, trivial⟩).firstB 0), Nat.le_of_lt (Nat.mod_lt _ q0), by show q ≤ max pp qq; omega, by show Nat.gcd q (p % q) = _; rw [← hg, Nat.gcd_comm p q, Nat.gcd_rec q p, Nat.gcd_comm]⟩, Nat.mod_lt _ q0⟩
      · obtain ⟨U, V, hUV, hgU, hU, hV, hVU⟩ := hok.2.2.2.2 hz
        show Code.wp _ dsr_n21 _ a w
        rw [dsr_e21]
        refine wp_seq ?_
        rw [dsr_e22]
        refine dsr_r5b hqp bp bq h3 hok hz hUV hU hV hst ?_
        clear hst
        intro a w hst
        show Code.wp _ dsr_n23 _ a w
        rw [dsr_e23]
        refine wp_cond_false (st_bool hst 3 rfl) ?_
        show Code.wp _ dsr_n25 _ a w
        rw [dsr_e25]
        refine dsr_r8 hqp bp bq h3 hok hz hUV hU hV hst ?_
        clear hst
        intro a w hst
        exact ⟨(U, V), ⟨((hst.to (S' := [(0, (natF U)), (1, (natF V))]) ⟨hst.slots.get (k := 0) rfl, hst.slots.get (k := 1) rfl, trivial⟩).firstB 0), hVU, by show U ≤ max pp qq; omega, by show Nat.gcd U V = _; rw [hgU, hg]⟩, hV⟩
    · rw [dsr_e12]
      refine wp_seq ?_
      rw [dsr_e13]
      refine wp_seq ?_
      rw [dsr_e15]
      refine dsr_r3b hqp bp bq h3 hst ?_
      clear hst
      intro a w hst
      show Code.wp _ dsr_n16 _ a w
      rw [dsr_e16]
      refine wp_cond_false (st_bool hst 2 rfl) ?_
      show Code.wp _ dsr_n18 _ a w
      rw [dsr_e18]
      refine wp_exit ?_
      rcases Nat.eq_zero_or_pos q with q0 | q0
      · have e0 : p = Nat.gcd pp qq := by rw [← hg, q0, Nat.gcd_zero_right]
        show Code.wp _ dsr_n10 _ a w
        rw [dsr_e10]
        refine wp_seq ?_
        rw [dsr_e28]
        refine wp_seq ?_
        rw [dsr_e30]
        refine dsr_r9 hqp bp bq q0 hst ?_
        clear hst
        intro a w hst
        show Code.wp _ dsr_n31 _ a w
        rw [dsr_e31]
        refine wp_cond_true (st_bool hst 3 rfl) ?_
        show Code.wp _ dsr_n32 _ a w
        rw [dsr_e32]
        refine wp_seq ?_
        rw [dsr_e34]
        refine dsr_r10 hqp bp bq q0 hst ?_
        clear hst
        intro a w hst
        show Code.wp _ dsr_n35 _ a w
        rw [dsr_e35]
        refine wp_ret ?_
        rw [e0] at hst
        exact ret_tmp hst rfl 2 rfl
      · have q64 : q < 18446744073709551616 := Nat.lt_of_lt_of_le (lt_pow_len q) (Nat.pow_le_pow_right (n := 4294967296) (by decide) h3)
        show Code.wp _ dsr_n10 _ a w
        rw [dsr_e10]
        refine wp_seq ?_
        rw [dsr_e28]
        refine wp_seq ?_
        rw [dsr_e30]
        refine dsr_r9b hqp bp bq q0 q64 hst ?_
        clear hst
        intro a w hst
        show Code.wp _ dsr_n31 _ a w
        rw [dsr_e31]
        refine wp_cond_false (st_bool hst 3 rfl) ?_
        show Code.wp _ dsr_n33 _ a w
        rw [dsr_e33]
        refine wp_skip ?_
        show Code.wp _ dsr_n29 _ a w
        rw [dsr_e29]
        refine wp_seq ?_
        rw [dsr_e36]
        refine dsr_r11 hqp bp bq q0 q64 hst ?_
        clear hst
        intro a w hst
        show Code.wp _ dsr_n37 _ a w
        rw [dsr_e37]
        refine wp_seq ?_
        rw [dsr_e38]
        refine dsr_r12 hqp bp bq q0 q64 hst ?_
        clear hst
        intro a w hst
        show Code.wp _ dsr_n39 _ a w
        rw [dsr_e39]
        refine wp_ret ?_
        have e0 : Nat.gcd q (p % q) = Nat.gcd pp qq := by rw [← hg, Nat.gcd_comm p q, Nat.gcd_rec q p, Nat.gcd_comm]
        rw [e0] at hst
        exact ret_tmp hst rfl 2 rfl
  · rw [dsr_e0]
    refine wp_seq ?_
    rw [dsr_e1]
    refine dsr_r0b hlp hlq lt hst ?_
    clear hst
    intro a w hst
    show Code.wp _ dsr_n2 _ a w
    rw [dsr_e2]
    refine wp_seq ?_
    rw [dsr_e3]
    refine wp_seq ?_
    rw [dsr_e5]
    refine dsr_r1b hlp hlq lt hst ?_
    clear hst
    intro a w hst
    show Code.wp _ dsr_n6 _ a w
    rw [dsr_e6]
    refine wp_cond_false (st_bool hst 3 rfl) ?_
    show Code.wp _ dsr_n8 _ a w
    rw [dsr_e8]
    refine wp_skip ?_
    show Code.wp _ dsr_n4 _ a w
    rw [dsr_e4]
    refine wp_seq ?_
    rw [dsr_e9]
    refine wp_block ?_
    show Code.wp _ dsr_n11 _ a w
    rw [dsr_e11]
    refine loop_ghost (fun (z : Nat × Nat) a w => St W 56 [(0, (natF z.1)), (1, (natF z.2))] [] a w ∧ z.2 ≤ z.1 ∧ z.1 ≤ max pp qq ∧ Nat.gcd z.1 z.2 = Nat.gcd pp qq) (fun z => z.2) ?_ (pp, qq) ⟨hst.to ⟨hst.slots.get (k := 0) rfl, hst.slots.get (k := 1) rfl, trivial⟩, by show qq ≤ pp; omega, by show pp ≤ max pp qq; omega, rfl⟩
    rintro ⟨p, q⟩ a w ⟨hst, hqp, hpm, hg⟩
    simp only [] at hst hqp hpm hg
    have bm : len (max pp qq) ≤ 1099511627775 := by rcases Nat.le_total pp qq with h | h; (rw [Nat.max_eq_right h]; exact hlq); (rw [Nat.max_eq_left h]; exact hlp)
    have bp : len p ≤ 1099511627775 := Nat.le_trans (len_mono hpm) bm
    have bq : len q ≤ 1099511627775 := Nat.le_trans (len_mono hqp) bp
    show Code.wp _ dsr_n12 _ a w
    rcases Nat.lt_or_ge 2 (len q) with h3 | h3
    · have h3 : 3 ≤ len q := h3
      rw [dsr_e12]
      refine wp_seq ?_
      rw [dsr_e13]
      refine wp_seq ?_
      rw [dsr_e15]
      refine dsr_r3 hqp bp bq h3 hst ?_
      clear hst
      intro a w hst
      show Code.wp _ dsr_n16 _ a w
      rw [dsr_e16]
      refine wp_cond_true (st_bool hst 2 rfl) ?_
      show Code.wp _ dsr_n17 _ a w
      rw [dsr_e17]
      refine wp_skip ?_
      show Code.wp _ dsr_n14 _ a w
      rw [dsr_e14]
      refine wp_block ?_
      show Code.wp _ dsr_n19 _ a w
      rw [dsr_e19]
      refine wp_seq ?_
      rw [dsr_e20]
      refine dsr_r4 hqp bp bq h3 hst ?_
      clear hst
      intro a w hst
      obtain ⟨c0, d0, c1, d1, o, hok, hst⟩ := st_open hst
      by_cases hz : d0 = 0
      · have q0 : 0 < q := by rcases Nat.eq_zero_or_pos q with h | h; (rw [h, len_zero] at h3; omega); exact h
        show Code.wp _ dsr_n21 _ a w
        rw [dsr_e21]
        refine wp_seq ?_
        rw [dsr_e22]
        refine dsr_r5 hqp bp bq h3 hok hz q0 hst ?_
        clear hst
        intro a w hst
        show Code.wp _ dsr_n23 _ a w
        rw [dsr_e23]
        refine wp_cond_true (st_bool hst 3 rfl) ?_
        show Code.wp _ dsr_n24 _ a w
        rw [dsr_e24]
        refine wp_seq ?_
        rw [dsr_e26]
        refine dsr_r6 hqp bp bq h3 hok hz q0 hst ?_
        clear hst
        intro a w hst
        show Code.wp _ dsr_n27 _ a w
        rw [dsr_e27]
        refine dsr_r7 hqp bp bq h3 hok hz q0 hst ?_
        clear hst
        intro a w hst
        exact ⟨(q, p % q), ⟨((hst.to (S' := [(0, (natF q)), (1, (natF (p % q)))]) ⟨hst.slots.get (k := 0) rfl, hst.slots.get (k := 1) rfl, trivial⟩).firstB 0), Nat.le_of_lt (Nat.mod_lt _ q0), by show q ≤ max pp qq; omega, by show Nat.gcd q (p % q) = _; rw [← hg, Nat.gcd_comm p q, Nat.gcd_rec q p, Nat.gcd_comm]⟩, Nat.mod_lt _ q0⟩
      · obtain ⟨U, V, hUV, hgU, hU, hV, hVU⟩ := hok.2.2.2.2 hz
        show Code.wp _ dsr_n21 _ a w
        rw [dsr_e21]
        refine wp_seq ?_
        rw [dsr_e22]
        refine dsr_r5b hqp bp bq h3 hok hz hUV hU hV hst ?_
        clear hst
        intro a w hst
        show Code.wp _ dsr_n23 _ a w
        rw [dsr_e23]
        refine wp_cond_false (st_bool hst 3 rfl) ?_
        show Code.wp _ dsr_n25 _ a w
        rw [dsr_e25]
        refine dsr_r8 hqp bp bq h3 hok hz hUV hU hV hst ?_
        clear hst
        intro a w hst
        exact ⟨(U, V), ⟨((hst.to (S' := [(0, (natF U)), (1, (natF V))]) ⟨hst.slots.get (k := 0) rfl, hst.slots.get (k := 1) rfl, trivial⟩).firstB 0), hVU, by show U ≤ max pp qq; omega, by show Nat.gcd U V = _; rw [hgU, hg]⟩, hV⟩
    · rw [dsr_e12]
      refine wp_seq ?_
      rw [dsr_e13]
      refine wp_seq ?_
      rw [dsr_e15]
      refine dsr_r3b hqp bp bq h3 hst ?_
      clear hst
      intro a w hst
      show Code.wp _ dsr_n16 _ a w
      rw [dsr_e16]
      refine wp_cond_false (st_bool hst 2 rfl) ?_
      show Code.wp _ dsr_n18 _ a w
      rw [dsr_e18]
      refine wp_exit ?_
      rcases Nat.eq_zero_or_pos q with q0 | q0
      · have e0 : p = Nat.gcd pp qq := by rw [← hg, q0, Nat.gcd_zero_right]
        show Code.wp _ dsr_n10 _ a w
        rw [dsr_e10]
        refine wp_seq ?_
        rw [dsr_e28]
        refine wp_seq ?_
        rw [dsr_e30]
        refine dsr_r9 hqp bp bq q0 hst ?_
        clear hst
        intro a w hst
        show Code.wp _ dsr_n31 _ a w
        rw [dsr_e31]
        refine wp_cond_true (st_bool hst 3 rfl) ?_
        show Code.wp _ dsr_n32 _ a w
        rw [dsr_e32]
        refine wp_seq ?_
        rw [dsr_e34]
        refine dsr_r10 hqp bp bq q0 hst ?_
        clear hst
        intro a w hst
        show Code.wp _ dsr_n35 _ a w
        rw [dsr_e35]
        refine wp_ret ?_
        rw [e0] at hst
        exact ret_tmp hst rfl 2 rfl
      · have q64 : q < 18446744073709551616 := Nat.lt_of_lt_of_le (lt_pow_len q) (Nat.pow_le_pow_right (n := 4294967296) (by decide) h3)
        show Code.wp _ dsr_n10 _ a w
        rw [dsr_e10]
        refine wp_seq ?_
        rw [dsr_e28]
        refine wp_seq ?_
        rw [dsr_e30]
        refine dsr_r9b hqp bp bq q0 q64 hst ?_
        clear hst
        intro a w hst
        show Code.wp _ dsr_n31 _ a w
        rw [dsr_e31]
        refine wp_cond_false (st_bool hst 3 rfl) ?_
        show Code.wp _ dsr_n33 _ a w
        rw [dsr_e33]
        refine wp_skip ?_
        show Code.wp _ dsr_n29 _ a w
        rw [dsr_e29]
        refine wp_seq ?_
        rw [dsr_e36]
        refine dsr_r11 hqp bp bq q0 q64 hst ?_
        clear hst
        intro a w hst
        show Code.wp _ dsr_n37 _ a w
        rw [dsr_e37]
        refine wp_seq ?_
        rw [dsr_e38]
        refine dsr_r12 hqp bp bq q0 q64 hst ?_
        clear hst
        intro a w hst
        show Code.wp _ dsr_n39 _ a w
        rw [dsr_e39]
        refine wp_ret ?_
        have e0 : Nat.gcd q (p % q) = Nat.gcd pp qq := by rw [← hg, Nat.gcd_comm p q, Nat.gcd_rec q p, Nat.gcd_comm]
        rw [e0] at hst
        exact ret_tmp hst rfl 2 rfl
end Go.Proofs.YtdofolejfdfocaaGreatDoor
