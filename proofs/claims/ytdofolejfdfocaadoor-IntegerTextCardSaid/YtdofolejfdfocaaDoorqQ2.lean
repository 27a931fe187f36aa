/- Rational numbers: isOne, and the ends of functions whose results lie in boxes. -/
import Derived.Test.YtdofolejfdfocaaDoorqDivP
import Derived.Test.YtdofolejfdfocaaDoorqGcdL
import Derived.Test.YtdofolejfdfocaaDoorqCon
import Derived.Test.YtdofolejfdfocaaDoorqR3
import Derived.Test.YtdofolejfdfocaaDoorqPow
namespace Go.Proofs.YtdofolejfdfocaaDoor
open Go.RowKit

section
variable {Wb : World} {N : Nat} {S : List (Nat × PF)} {B : List (Nat × CF)} {a : Act} {w : World}
theorem ret_boxI3 {fn : Func} {t t' t'' : Nat} {z z' z'' : Int} (hst : St Wb N S B a w) (hr : fn.results = #[.cell t 27, .cell t' 27, .cell t'' 27]) (k : Nat) (hk : B[k]? = some (t, boxIF z)) (k' : Nat) (hk' : B[k']? = some (t', boxIF z')) (k'' : Nat) (hk'' : B[k'']? = some (t'', boxIF z'')) : bodyPost Tryd.prog fn (GivesP (tup3F (intF z) (intF z') (intF z'')) Wb) .ret a w := by
  obtain ⟨g, h1, _, b, A, n, c, hh, hi⟩ := hst.boxes.get hk
  obtain ⟨g', h1', _, b', A', n', c', hh', hi'⟩ := hst.boxes.get hk'
  obtain ⟨g'', h1'', _, b'', A'', n'', c'', hh'', hi''⟩ := hst.boxes.get hk''
  have h0 : w.cell? ⟨g, 0, none⟩ = some (.bool b) := by rw [cell_of_row w g 0 _ _ (0, 0) hh]; rfl
  have h2 : w.cell? ⟨g, 1, none⟩ = some (.slice A n c) := by rw [cell_of_row w g 1 _ _ (0, 0) hh]; rfl
  have h0' : w.cell? ⟨g', 0, none⟩ = some (.bool b') := by rw [cell_of_row w g' 0 _ _ (0, 0) hh']; rfl
  have h2' : w.cell? ⟨g', 1, none⟩ = some (.slice A' n' c') := by rw [cell_of_row w g' 1 _ _ (0, 0) hh']; rfl
  have h0'' : w.cell? ⟨g'', 0, none⟩ = some (.bool b'') := by rw [cell_of_row w g'' 0 _ _ (0, 0) hh'']; rfl
  have h2'' : w.cell? ⟨g'', 1, none⟩ = some (.slice A'' n'' c'') := by rw [cell_of_row w g'' 1 _ _ (0, 0) hh'']; rfl
  refine bodyPost_ret (v := .tuple #[.agg #[.bool b, .slice A n c], .agg #[.bool b', .slice A' n' c'], .agg #[.bool b'', .slice A'' n'' c'']]) ?_ hst.defers ⟨_, rfl, ⟨_, _, _, rfl, hi, hi', hi''⟩, hst.below⟩
  simp [results, hr, go_sem, h0, h2, h0', h2', h0'', h2'', Array.getD_eq_getD_getElem?, h1, h1', h1'']
end
end Go.Proofs.YtdofolejfdfocaaDoor
namespace Go.Proofs.YtdofolejfdfocaaDoor
open Go.RowKit

theorem RSm.of2 {n d : Int} {i j : Nat} (hn : Sm n i) (hd : Sm d j) (h0 : d ≠ 0) : RSm (Rat.divInt n d) (max i j) := RSm.of (hn.mono (Nat.le_max_left _ _)) (hd.mono (Nat.le_max_right _ _)) h0
theorem sm_i64 {z : Int} (h0 : -9223372036854775808 ≤ z) (h1 : z ≤ 9223372036854775807) : Sm z 2 := by
  show z.natAbs < 4294967296 ^ 2
  have : (4294967296 : Nat) ^ 2 = 18446744073709551616 := by decide
  omega
theorem gcd_den_ne (x : Int) (y : Rat) : ((Int.gcd x (y.den : Int) : Nat) : Int) ≠ 0 := by
  have := Int.gcd_ne_zero_right (a := x) (Int.ne_of_gt (den_pos' y))
  omega
theorem gcd_ne (x : Int) {y : Int} (ny : y ≠ 0) : ((Int.gcd x y : Nat) : Int) ≠ 0 := by
  have := Int.gcd_ne_zero_right (a := x) ny
  omega
end Go.Proofs.YtdofolejfdfocaaDoor
namespace Go.Proofs.YtdofolejfdfocaaDoor
open Go.RowKit

/-- What sum has added up behind k numbers. -/
def sumAcc (x y : Rat) (k : Nat) : Rat := if k = 0 then x else x + y
theorem sumAcc_sm {x y : Rat} {i j : Nat} (hx : RSm x i) (hy : RSm y j) (k : Nat) : RSm (sumAcc x y k) (i + j + 1) := by
  unfold sumAcc
  split
  · exact hx.mono (by omega)
  · exact hx.add hy
section
variable {ops : Array Oper} {N : Nat} {Wb W0 : World} {a0 : Act} {F : List PF} {BX : List BoxS} {AD : List (Nat × Nat × Nat)} {i : Nat} {g : Option (Nat × Bool)}
end
end Go.Proofs.YtdofolejfdfocaaDoor
namespace Go.Proofs.YtdofolejfdfocaaDoor
open Go.RowKit

theorem PairAt.open_ {w : World} {v : Value} {n d : Int} (h : PairAt w v n d) : ∃ b A k c b' A' k' c', v = .agg #[.bool b, .slice A k c, .bool b', .slice A' k' c'] ∧ Hid (PairAt w (.agg #[.bool b, .slice A k c, .bool b', .slice A' k' c']) n d) := by
  obtain ⟨b, A, k, c, b', A', k', c', rfl, h1, h2⟩ := h
  exact ⟨b, A, k, c, b', A', k', c', rfl, ⟨b, A, k, c, b', A', k', c', rfl, h1, h2⟩⟩
theorem PairAt.into {w w' : World} {v : Value} {n d : Int} (h : PairAt w v n d) (hb : Below w.heap.size w w') : PairAt w' v n d := h.grow (Grow.of_below hb)
theorem far4 {w : World} {g g' : Nat} (hne : g' ≠ g) (i : Nat) (u0 u1 u2 u3 : Value) {x : Value} (h : w.cell? ⟨g, i, none⟩ = some x) : ((((w.setCell ⟨g', 0, none⟩ u0).setCell ⟨g', 1, none⟩ u1).setCell ⟨g', 2, none⟩ u2).setCell ⟨g', 3, none⟩ u3).cell? ⟨g, i, none⟩ = some x := by
  rw [World.cell?_setCell_far _ _ _ _ (by simpa using hne), World.cell?_setCell_far _ _ _ _ (by simpa using hne), World.cell?_setCell_far _ _ _ _ (by simpa using hne), World.cell?_setCell_far _ _ _ _ (by simpa using hne)]
  exact h
end Go.Proofs.YtdofolejfdfocaaDoor
namespace Go.Proofs.YtdofolejfdfocaaDoor
open Go.RowKit

theorem cmpI_sign (p q : Int) : cmpI p q = Int.sign (p - q) := by
  unfold cmpI
  split
  · rename_i h; exact (Int.sign_eq_neg_one_of_neg (by omega)).symm
  · split
    · rename_i h; rw [h, Int.sub_self]; rfl
    · rename_i h1 h2; rw [Int.sign_eq_one_of_pos (by omega)]
theorem cmpI_rat (x y : Rat) : cmpI (x.num * (y.den : Int)) (y.num * (x.den : Int)) = cmpR x y := by rw [cmpI_sign, cmpR_sign]
section
variable {w : World} {va vb : Value} {x y : Rat} {i j : Nat}
end
section
variable {w : World} {va vb : Value} {x y : Int} {i j : Nat}
end
theorem cmp0_ne {x : Rat} (h : x ≠ 0) : (cmpR x 0 == 0) = false := by
  unfold cmpR
  rw [if_neg h]
  split <;> rfl
theorem cmp0_eq {x : Rat} (h : x = 0) : (cmpR x 0 == 0) = true := by subst h; decide
theorem of_neg2 (n d : Int) (hd : d < 0) : (Rat.divInt n d).num = -n / (Int.gcd (-n) (-d) : Nat) ∧ ((Rat.divInt n d).den : Int) = -d / (Int.gcd (-n) (-d) : Nat) := by
  have h := of_pos (-n) (-d) (by omega)
  rwa [Rat.neg_divInt_neg] at h
theorem kSameF {x y : Int} {i j : Nat} {va vb : Value} {w : World} (ha : (intF x).p va w) (hb : (intF y).p vb w) (sx : Sm x i) (sy : Sm y j) (hi : i ≤ 1000) (hj : j ≤ 1000) (e : x ≠ y) : Calls Tryd.prog 10 #[va, vb] w (GivesP (eqF (.bool false)) w) := by
  have := kSame ha hb sx sy hi hj
  rwa [decide_eq_false e] at this
theorem rat_ext {x y : Rat} (h1 : x.num = y.num) (h2 : (x.den : Int) = (y.den : Int)) : x = y := Rat.ext h1 (by omega)
end Go.Proofs.YtdofolejfdfocaaDoor
namespace Go.Proofs.YtdofolejfdfocaaDoor
open Go.RowKit

theorem add_divInt (x y : Rat) : Rat.divInt (x.num * (y.den : Int) + y.num * (x.den : Int)) ((x.den : Int) * (y.den : Int)) = x + y := by
  have h := Rat.divInt_add_divInt x.num y.num (Int.ne_of_gt (den_pos' x)) (Int.ne_of_gt (den_pos' y))
  rw [Rat.num_divInt_den, Rat.num_divInt_den] at h
  exact h.symm
theorem mul_divInt (x y : Rat) : Rat.divInt (x.num * y.num) ((x.den : Int) * (y.den : Int)) = x * y := by
  have h := Rat.divInt_mul_divInt x.num y.num (d₁ := (x.den : Int)) (d₂ := (y.den : Int))
  rw [Rat.num_divInt_den, Rat.num_divInt_den] at h
  exact h.symm
theorem div_divInt (x y : Rat) : Rat.divInt (x.num * (y.den : Int)) ((x.den : Int) * y.num) = x / y := by
  have h := Rat.divInt_mul_divInt x.num (y.den : Int) (d₁ := (x.den : Int)) (d₂ := y.num)
  rw [Rat.num_divInt_den, ← Rat.inv_divInt, Rat.num_divInt_den, ← Rat.div_def] at h
  exact h.symm
theorem dd_ne (x y : Rat) : (x.den : Int) * (y.den : Int) ≠ 0 := Int.mul_ne_zero (Int.ne_of_gt (den_pos' x)) (Int.ne_of_gt (den_pos' y))
theorem dn_ne {x y : Rat} (h : y ≠ 0) : (x.den : Int) * y.num ≠ 0 := Int.mul_ne_zero (Int.ne_of_gt (den_pos' x)) (fun e => h (Rat.num_eq_zero.1 e))
theorem dn_eq {x y : Rat} (h : y = 0) : (x.den : Int) * y.num = 0 := by subst h; exact Int.mul_zero _
theorem cmpR_sub (x y : Rat) : cmpR (x - y) 0 = cmpR x y := by
  unfold cmpR
  have h1 : x - y < 0 ↔ x < y := by
    have := Rat.add_lt_add_right (a := x) (b := y) (c := -y)
    rwa [Rat.add_neg_cancel, ← Rat.sub_eq_add_neg] at this
  have h2 : x - y = 0 ↔ x = y := by
    rw [Rat.sub_eq_add_neg]
    constructor
    · intro h
      have e : x + -y + y = y := by rw [h, Rat.zero_add]
      rwa [Rat.add_assoc, Rat.neg_add_cancel, Rat.add_zero] at e
    · rintro rfl; exact Rat.add_neg_cancel _
  simp only [h1, h2]
section
variable {w : World} {va vb : Value} {x y : Rat} {i j : Nat}
end
end Go.Proofs.YtdofolejfdfocaaDoor
namespace Go.Proofs.YtdofolejfdfocaaDoor
open Go.RowKit

/-- The boxes that arguments point to. -/
def ArgBoxes (Wb : World) (args : Array Value) (w : World) : List (Nat × CF) → Prop
  | [] => True
  | x :: r => (∃ g, args[x.1]? = some (.pointer (some ⟨g, 0, none⟩)) ∧ Wb.heap.size ≤ g ∧ x.2.p g w) ∧ ArgBoxes Wb args w r
theorem calls_stB {f : FuncId} {fn : Func} {N : Nat} {args : Array Value} {Wb W : World} {R : Ending → World → Prop} {S : List (Nat × PF)} {B : List (Nat × CF)} (hf : Tryd.prog.funcs[f]? = some fn) (hb : fn.body.isSome = true) (hN : fn.ntmps = N) (hs : args.size ≤ N)
    (hB : Below Wb.heap.size Wb W) (hG : Grow Wb W) (hS : ∀ x ∈ S, ∃ v, args[x.1]? = some v ∧ x.2.p v W) (hBx : ArgBoxes Wb args W B) (hap : B.length ≤ 1)
    (h : ∀ a w, St Wb N S B a w → (bodyOf fn).wp Tryd.prog (bodyPost Tryd.prog fn R) a w) : Calls Tryd.prog f args W R := by
  obtain ⟨c, hc⟩ := Option.isSome_iff_exists.1 hb
  refine calls_of_wp hf hc ?_
  have hbo : bodyOf fn = c := by unfold bodyOf; rw [hc]; rfl
  rw [hbo] at h
  refine h _ _ ⟨by simp [hN]; omega, rfl, hB, hG, ?_, ?_, ?_⟩
  · have key : ∀ (L : List (Nat × PF)), (∀ x ∈ L, ∃ v, args[x.1]? = some v ∧ x.2.p v W) → SlotsOk L { tmps := args ++ Array.replicate (fn.ntmps - args.size) undef, defers := [] } W := by
      intro L
      induction L with
      | nil => intro _; trivial
      | cons x r ih =>
        intro h
        obtain ⟨v, h1, h2⟩ := h x (by simp)
        exact ⟨⟨v, frame_slot h1, h2⟩, ih fun y hy => h y (by simp [hy])⟩
    exact key S hS
  · have key : ∀ (L : List (Nat × CF)), ArgBoxes Wb args W L → BoxesOk Wb L { tmps := args ++ Array.replicate (fn.ntmps - args.size) undef, defers := [] } W := by
      intro L
      induction L with
      | nil => intro _; trivial
      | cons x r ih =>
        rintro ⟨⟨g, h1, h2, h3⟩, h4⟩
        exact ⟨⟨g, frame_slot h1, h2, h3⟩, ih h4⟩
    exact key B hBx
  · rcases B with _ | ⟨x, _ | ⟨y, r⟩⟩
    · exact List.Pairwise.nil
    · exact List.pairwise_singleton _ _
    · simp at hap
theorem pw1pl_quadrature_integer_Mul : Plainly 40 := fun _ _ => by simp [go_sem]
end Go.Proofs.YtdofolejfdfocaaDoor
namespace Go.Proofs.YtdofolejfdfocaaDoor
open Go.RowKit

theorem powQ_num (x : Rat) (e f : Nat) : (x ^ e).num * (x ^ f).num = (x ^ (e + f)).num := by
  rw [(pow_eq x e).1, (pow_eq x f).1, (pow_eq x (e + f)).1, Int.pow_add]
theorem powQ_den (x : Rat) (e f : Nat) : ((x ^ e).den : Int) * ((x ^ f).den : Int) = ((x ^ (e + f)).den : Int) := by
  rw [(pow_eq x e).2, (pow_eq x f).2, (pow_eq x (e + f)).2, Int.pow_add]
theorem powQ_num1 (x : Rat) (e : Nat) : (x ^ e).num * x.num = (x ^ (e + 1)).num := by
  rw [(pow_eq x e).1, (pow_eq x (e + 1)).1, Int.pow_succ]
theorem powQ_den1 (x : Rat) (e : Nat) : ((x ^ e).den : Int) * (x.den : Int) = ((x ^ (e + 1)).den : Int) := by
  rw [(pow_eq x e).2, (pow_eq x (e + 1)).2, Int.pow_succ]
theorem powQ_sm {x : Rat} {i n k : Nat} (sx : RSm x i) (hk : k ≤ n) (hi : i * n + 1 ≤ 100) : RSm (x ^ k) 100 :=
  (sx.pow k).mono (Nat.le_trans (Nat.succ_le_succ (Nat.mul_le_mul_left i hk)) hi)

end Go.Proofs.YtdofolejfdfocaaDoor
