/- The contracts of the arithmetic of integers, in the form that a region's plan asks for. -/
import Derived.Test.YtjajmonhcnmidaaDoorGi
import Derived.Test.YtjajmonhcnmidaaDoorqRSmall
import Derived.Test.YtjajmonhcnmidaaDoorqRMul
import Derived.Test.YtjajmonhcnmidaaDoorqSq
import Derived.Test.YtjajmonhcnmidaaDoorqValid
import Derived.Test.YtjajmonhcnmidaaDoorqPow
namespace Go.Proofs.YtjajmonhcnmidaaDoor
open Go.RowKit

section
variable {w : World} {va vb : Value} {x y : Int} {i j : Nat}
theorem kOf (z : Int) (h0 : -9223372036854775808 ≤ z) (h1 : z ≤ 9223372036854775807) (hv : (eqF (.int .i64 z)).p va w) : Calls Tryd.prog 30 #[va] w (GivesP (intF z) w) := by
  have hv : va = .int .i64 z := hv
  subst hv
  exact cOf z h0 h1
theorem kROf (z : Int) (h0 : -9223372036854775808 ≤ z) (h1 : z ≤ 9223372036854775807) (hv : (eqF (.int .i64 z)).p va w) : Calls Tryd.prog 42 #[va] w (GivesP (intF z) w) := by
  have hv : va = .int .i64 z := hv
  subst hv
  exact ROf_any z w h0 h1
theorem kAdd (ha : (intF x).p va w) (hb : (intF y).p vb w) (sx : Sm x i) (sy : Sm y j) (hi : i ≤ 1000) (hj : j ≤ 1000) : Calls Tryd.prog 15 #[va, vb] w (GivesP (intF (x + y)) w) := cAdd ha hb sx sy hi hj
theorem kSub (ha : (intF x).p va w) (hb : (intF y).p vb w) (sx : Sm x i) (sy : Sm y j) (hi : i ≤ 1000) (hj : j ≤ 1000) : Calls Tryd.prog 16 #[va, vb] w (GivesP (intF (x - y)) w) := cSub ha hb sx sy hi hj
theorem kMul (ha : (intF x).p va w) (hb : (intF y).p vb w) (sx : Sm x i) (sy : Sm y j) (hi : i ≤ 1000) (hj : j ≤ 1000) : Calls Tryd.prog 17 #[va, vb] w (GivesP (intF (x * y)) w) := cMul ha hb sx sy hi hj
theorem kNeg (ha : (intF x).p va w) (sx : Sm x i) (hi : i ≤ 1000) : Calls Tryd.prog 18 #[va] w (GivesP (intF (-x)) w) := cNeg ha sx hi
theorem kSign (ha : (intF x).p va w) (sx : Sm x i) (hi : i ≤ 1000) : Calls Tryd.prog 28 #[va] w (GivesP (eqF (.int .i64 x.sign)) w) := cSign ha sx hi
theorem kCmp (ha : (intF x).p va w) (hb : (intF y).p vb w) (sx : Sm x i) (sy : Sm y j) (hi : i ≤ 1000) (hj : j ≤ 1000) : Calls Tryd.prog 26 #[va, vb] w (GivesP (eqF (.int .i64 (cmpI x y))) w) := cCmp ha hb sx sy hi hj
theorem kSame (ha : (intF x).p va w) (hb : (intF y).p vb w) (sx : Sm x i) (sy : Sm y j) (hi : i ≤ 1000) (hj : j ≤ 1000) : Calls Tryd.prog 21 #[va, vb] w (GivesP (eqF (.bool (decide (x = y)))) w) := cSame ha hb sx sy hi hj
theorem kSameT (ha : (intF x).p va w) (hb : (intF y).p vb w) (sx : Sm x i) (sy : Sm y j) (hi : i ≤ 1000) (hj : j ≤ 1000) (e : x = y) : Calls Tryd.prog 21 #[va, vb] w (GivesP (eqF (.bool true)) w) := cSameT ha hb sx sy hi hj e
theorem kRAdd (ha : (intF x).p va w) (hb : (intF y).p vb w) (sx : Sm x i) (sy : Sm y j) (hi : i ≤ 1000) (hj : j ≤ 1000) : Calls Tryd.prog 22 #[va, vb] w (GivesP (intF (x + y)) w) := RAdd_any va vb x y w ha hb (sx.len hi) (sy.len hj)
theorem kRSub (ha : (intF x).p va w) (hb : (intF y).p vb w) (sx : Sm x i) (sy : Sm y j) (hi : i ≤ 1000) (hj : j ≤ 1000) : Calls Tryd.prog 23 #[va, vb] w (GivesP (intF (x - y)) w) := RSub_any va vb x y w ha hb (sx.len hi) (sy.len hj)
theorem kRMul (ha : (intF x).p va w) (hb : (intF y).p vb w) (sx : Sm x i) (sy : Sm y j) (hi : i ≤ 1000) (hj : j ≤ 1000) : Calls Tryd.prog 24 #[va, vb] w (GivesP (intF (x * y)) w) := RMul_any va vb x y w ha hb (Nat.le_trans (sx.len hi) (by decide)) (Nat.le_trans (sy.len hj) (by decide))
theorem kRNeg (ha : (intF x).p va w) (sx : Sm x i) (hi : i ≤ 1000) : Calls Tryd.prog 25 #[va] w (GivesP (intF (-x)) w) := RNeg_any va x w ha (Nat.le_trans (sx.len hi) (by decide))
theorem kRSign (ha : (intF x).p va w) (sx : Sm x i) (hi : i ≤ 1000) : Calls Tryd.prog 29 #[va] w (GivesP (eqF (.int .i64 x.sign)) w) :=
  (RSign_any va x w ha (Nat.le_trans (sx.len hi) (by decide))).mono fun _ _ ⟨he, hb⟩ => ⟨_, he, rfl, hb⟩
theorem sm_len' {z : Int} {k : Nat} (h : Sm z k) (hk : k ≤ 1000) : len z.natAbs ≤ 1099511627774 := Nat.le_trans (len_le_pow h) (by omega)
theorem kRCmp (ha : (intF x).p va w) (hb : (intF y).p vb w) (sx : Sm x i) (sy : Sm y j) (hi : i ≤ 1000) (hj : j ≤ 1000) : Calls Tryd.prog 27 #[va, vb] w (GivesP (eqF (.int .i64 (Int.sign (x - y)))) w) :=
  (RCmp_any va vb x y w ha hb (sm_len' sx hi) (sm_len' sy hj)).mono fun _ _ ⟨he, hb⟩ => ⟨_, he, rfl, hb⟩
theorem kRValid (ha : (intF x).p va w) (sx : Sm x i) (hi : i ≤ 1000) : Calls Tryd.prog 20 #[va] w (GivesP (eqF (.bool true)) w) :=
  (RValid_int va x w ha (Nat.le_trans (sx.len hi) (by decide))).mono fun _ _ ⟨he, hb⟩ => ⟨_, he, rfl, hb⟩
theorem kValid (ha : (intF x).p va w) (sx : Sm x i) (hi : i ≤ 1000) : Calls Tryd.prog 19 #[va] w (GivesP (eqF (.bool true)) w) :=
  (Valid_int va x w ha (Nat.le_trans (sx.len hi) (by decide))).mono fun _ _ ⟨he, hb⟩ => ⟨_, he, rfl, hb⟩
theorem kSmallT (ha : (intF x).p va w) (sx : Sm x i) (hi : i ≤ 1000) (h : inI64 x = true) : Calls Tryd.prog 13 #[va] w (GivesP (tup2F (eqF (.int .i64 x)) (eqF (.bool true))) w) :=
  (Small_any va x w ha (Nat.le_trans (sx.len hi) (by decide))).mono fun _ _ ⟨he, hb⟩ => ⟨_, he, ⟨_, _, rfl, by rw [h]; rfl, by rw [h]; rfl⟩, hb⟩
theorem kSmallF (ha : (intF x).p va w) (sx : Sm x i) (hi : i ≤ 1000) (h : inI64 x = false) : Calls Tryd.prog 13 #[va] w (GivesP (tup2F (eqF (.int .i64 0)) (eqF (.bool false))) w) :=
  (Small_any va x w ha (Nat.le_trans (sx.len hi) (by decide))).mono fun _ _ ⟨he, hb⟩ => ⟨_, he, ⟨_, _, rfl, by rw [h]; rfl, by rw [h]; rfl⟩, hb⟩
theorem kRSmallT (ha : (intF x).p va w) (sx : Sm x i) (hi : i ≤ 1000) (h : inI64 x = true) : Calls Tryd.prog 14 #[va] w (GivesP (tup2F (eqF (.int .i64 x)) (eqF (.bool true))) w) :=
  (RSmall_any va x w ha (Nat.le_trans (sx.len hi) (by decide))).mono fun _ _ ⟨r, he, hr, hb⟩ => ⟨_, he, ⟨_, _, rfl, by rw [hr h]; rfl, by rw [h]; rfl⟩, hb⟩
theorem kRSmallF (ha : (intF x).p va w) (sx : Sm x i) (hi : i ≤ 1000) (h : inI64 x = false) : Calls Tryd.prog 14 #[va] w (GivesP (tup2F (i64F fun _ => True) (eqF (.bool false))) w) :=
  (RSmall_any va x w ha (Nat.le_trans (sx.len hi) (by decide))).mono fun _ _ ⟨r, he, hr, hb⟩ => ⟨_, he, ⟨_, _, rfl, ⟨r, rfl, trivial⟩, by rw [h]; rfl⟩, hb⟩
end
/-- A raw argument's box, and what is read from it. -/
def rawBF (r : RawArg) : CF := objF #[.slice r.A r.k r.c, .bool r.b] 24 (by decide)
theorem boxR_run {r : RawArg} (w : World) (v : Value) (h : (eqF r.val_).p v w) : ∃ ob, (Instr.box 24 v).run Tryd.prog w = .ok (.pointer (some ⟨w.heap.size, 0, none⟩)) (w.alloc ob) ∧ (rawBF r).p w.heap.size (w.alloc ob) := by
  have h : v = r.val_ := h
  subst h
  exact ⟨.cells #[.slice r.A r.k r.c, .bool r.b] 24 (0, 0), by simp [go_sem, RawArg.val_], heap1 w _⟩
theorem loadR_raw {r : RawArg} (w : World) (q : Nat) (h : (rawBF r).p q w) : ∃ v, (Instr.loadAt 24 (.pointer (some ⟨q, 0, none⟩))).run Tryd.prog w = .ok v w ∧ (eqF r.val_).p v w := by
  have hh : w.heap[q]? = some (.cells #[.slice r.A r.k r.c, .bool r.b] 24 (0, 0)) := h
  have h0 : w.cell? ⟨q, 0, none⟩ = some (.slice r.A r.k r.c) := by rw [cell_of_row w q 0 _ _ (0, 0) hh]; rfl
  have h1 : w.cell? ⟨q, 1, none⟩ = some (.bool r.b) := by rw [cell_of_row w q 1 _ _ (0, 0) hh]; rfl
  exact ⟨_, by simp [go_sem, h0, h1]; rfl, rfl⟩
theorem kMade {Wb w : World} {va : Value} {r : RawArg} (k : r.Ok Wb) (hb : Below Wb.heap.size Wb w) (h : (eqF r.val_).p va w) : Calls Tryd.prog 12 #[va] w (GivesP (intF r.int) w) := by
  have h : va = r.val_ := h
  subst h
  exact (k.into hb).made
theorem kSanity (hS : Sanity) {Wb w : World} (ht : P10 Wb) (hb : Below Wb.heap.size Wb w) : Calls Tryd.prog 11 #[] w (GivesP (eqF (.bool true)) w) :=
  (hS w (tab_below ht hb)).mono fun _ _ ⟨he, hb⟩ => ⟨_, he, rfl, hb⟩
end Go.Proofs.YtjajmonhcnmidaaDoor
namespace Go.Proofs.YtjajmonhcnmidaaDoor
open Go.RowKit

/-- An operation yields a value with f, given what its operands are. -/
def Yld (op : Op) (ρ : Operand → Value) (w : World) (f : PF) : Prop := ∃ v w', (∀ o : Oper, o.op = op → (execOp ρ o).run Tryd.prog w = .ok (.value v) w') ∧ Below w.heap.size w w' ∧ f.p v w'
theorem yld_mk {op : Op} {ρ : Operand → Value} {w : World} {u : Value} (h : ∀ o : Oper, o.op = op → (execOp ρ o).run Tryd.prog w = .ok (.value u) w) : Yld op ρ w (eqF u) := ⟨u, w, h, Below.refl _ _, rfl⟩
section
variable {ρ : Operand → Value} {w : World} {ty ty2 : TypeId} {x y : Operand} {k : IntKind} {a b z : Int} {p q r : Bool}
theorem h_eqlI (e : (a == b) = r) (hx : (eqF (.int k a)).p (ρ x) w) (hy : (eqF (.int k b)).p (ρ y) w) : Yld (.binOp .eql ty x y ty2) ρ w (eqF (.bool r)) := by
  have hx : ρ x = .int k a := hx
  have hy : ρ y = .int k b := hy
  subst e
  exact yld_mk fun o ho => by unfold execOp; rw [ho]; simp [go_sem, hx, hy]
theorem h_neqI (e : (a != b) = r) (hx : (eqF (.int k a)).p (ρ x) w) (hy : (eqF (.int k b)).p (ρ y) w) : Yld (.binOp .neq ty x y ty2) ρ w (eqF (.bool r)) := by
  have hx : ρ x = .int k a := hx
  have hy : ρ y = .int k b := hy
  subst e
  exact yld_mk fun o ho => by unfold execOp; rw [ho]; simp [go_sem, hx, hy]
theorem h_eqlB (e : (p == q) = r) (hx : (eqF (.bool p)).p (ρ x) w) (hy : (eqF (.bool q)).p (ρ y) w) : Yld (.binOp .eql 4 x y 4) ρ w (eqF (.bool r)) := by
  have hx : ρ x = .bool p := hx
  have hy : ρ y = .bool q := hy
  subst e
  exact yld_mk fun o ho => by unfold execOp; rw [ho]; cases p <;> cases q <;> simp [go_sem, hx, hy]
theorem h_neqB (e : (p != q) = r) (hx : (eqF (.bool p)).p (ρ x) w) (hy : (eqF (.bool q)).p (ρ y) w) : Yld (.binOp .neq 4 x y 4) ρ w (eqF (.bool r)) := by
  have hx : ρ x = .bool p := hx
  have hy : ρ y = .bool q := hy
  subst e
  exact yld_mk fun o ho => by unfold execOp; rw [ho]; cases p <;> cases q <;> simp [go_sem, hx, hy]
theorem h_gtr (e : decide (b < a) = r) (hx : (eqF (.int k a)).p (ρ x) w) (hy : (eqF (.int k b)).p (ρ y) w) : Yld (.binOp .gtr ty x y ty2) ρ w (eqF (.bool r)) := by
  have hx : ρ x = .int k a := hx
  have hy : ρ y = .int k b := hy
  subst e
  exact yld_mk fun o ho => by unfold execOp; rw [ho]; simp [go_sem, hx, hy]
theorem h_lss (e : decide (a < b) = r) (hx : (eqF (.int k a)).p (ρ x) w) (hy : (eqF (.int k b)).p (ρ y) w) : Yld (.binOp .lss ty x y ty2) ρ w (eqF (.bool r)) := by
  have hx : ρ x = .int k a := hx
  have hy : ρ y = .int k b := hy
  subst e
  exact yld_mk fun o ho => by unfold execOp; rw [ho]; simp [go_sem, hx, hy]
theorem h_leq (e : decide (a ≤ b) = r) (hx : (eqF (.int k a)).p (ρ x) w) (hy : (eqF (.int k b)).p (ρ y) w) : Yld (.binOp .leq ty x y ty2) ρ w (eqF (.bool r)) := by
  have hx : ρ x = .int k a := hx
  have hy : ρ y = .int k b := hy
  subst e
  exact yld_mk fun o ho => by unfold execOp; rw [ho]; simp [go_sem, hx, hy]
theorem h_geq (e : decide (b ≤ a) = r) (hx : (eqF (.int k a)).p (ρ x) w) (hy : (eqF (.int k b)).p (ρ y) w) : Yld (.binOp .geq ty x y ty2) ρ w (eqF (.bool r)) := by
  have hx : ρ x = .int k a := hx
  have hy : ρ y = .int k b := hy
  subst e
  exact yld_mk fun o ho => by unfold execOp; rw [ho]; simp [go_sem, hx, hy]
theorem h_not (e : (!p) = r) (hx : (eqF (.bool p)).p (ρ x) w) : Yld (.unOp .not ty x) ρ w (eqF (.bool r)) := by
  have hx : ρ x = .bool p := hx
  subst e
  exact yld_mk fun o ho => by unfold execOp; rw [ho]; simp [go_sem, hx]
theorem h_neg (e : k.wrap (-a) = z) (hx : (eqF (.int k a)).p (ρ x) w) : Yld (.unOp .neg ty x) ρ w (eqF (.int k z)) := by
  have hx : ρ x = .int k a := hx
  subst e
  exact yld_mk fun o ho => by unfold execOp; rw [ho]; simp [go_sem, hx]
theorem h_add (e : k.wrap (a + b) = z) (hx : (eqF (.int k a)).p (ρ x) w) (hy : (eqF (.int k b)).p (ρ y) w) : Yld (.binOp .add ty x y ty2) ρ w (eqF (.int k z)) := by
  have hx : ρ x = .int k a := hx
  have hy : ρ y = .int k b := hy
  subst e
  exact yld_mk fun o ho => by unfold execOp; rw [ho]; simp [go_sem, hx, hy]
theorem h_sub (e : k.wrap (a - b) = z) (hx : (eqF (.int k a)).p (ρ x) w) (hy : (eqF (.int k b)).p (ρ y) w) : Yld (.binOp .sub ty x y ty2) ρ w (eqF (.int k z)) := by
  have hx : ρ x = .int k a := hx
  have hy : ρ y = .int k b := hy
  subst e
  exact yld_mk fun o ho => by unfold execOp; rw [ho]; simp [go_sem, hx, hy]
theorem h_mul (e : k.wrap (a * b) = z) (hx : (eqF (.int k a)).p (ρ x) w) (hy : (eqF (.int k b)).p (ρ y) w) : Yld (.binOp .mul ty x y ty2) ρ w (eqF (.int k z)) := by
  have hx : ρ x = .int k a := hx
  have hy : ρ y = .int k b := hy
  subst e
  exact yld_mk fun o ho => by unfold execOp; rw [ho]; simp [go_sem, hx, hy]
/-- Some number that nobody looks at, compared. -/
theorem h_ext2_0 {f g : PF} (hx : (tup2F f g).p (ρ x) w) : Yld (.extract x 0) ρ w f := by
  obtain ⟨u, v, e, h1, h2⟩ := hx
  exact ⟨u, w, fun o ho => by unfold execOp; rw [ho]; simp [go_sem, e], Below.refl _ _, h1⟩
theorem h_ext2_1 {f g : PF} (hx : (tup2F f g).p (ρ x) w) : Yld (.extract x 1) ρ w g := by
  obtain ⟨u, v, e, h1, h2⟩ := hx
  exact ⟨v, w, fun o ho => by unfold execOp; rw [ho]; simp [go_sem, e], Below.refl _ _, h2⟩
theorem h_ext3_0 {f g h : PF} (hx : (tup3F f g h).p (ρ x) w) : Yld (.extract x 0) ρ w f := by
  obtain ⟨u, v, t, e, h1, h2, h3⟩ := hx
  exact ⟨u, w, fun o ho => by unfold execOp; rw [ho]; simp [go_sem, e], Below.refl _ _, h1⟩
theorem h_ext3_1 {f g h : PF} (hx : (tup3F f g h).p (ρ x) w) : Yld (.extract x 1) ρ w g := by
  obtain ⟨u, v, t, e, h1, h2, h3⟩ := hx
  exact ⟨v, w, fun o ho => by unfold execOp; rw [ho]; simp [go_sem, e], Below.refl _ _, h2⟩
theorem h_ext3_2 {f g h : PF} (hx : (tup3F f g h).p (ρ x) w) : Yld (.extract x 2) ρ w h := by
  obtain ⟨u, v, t, e, h1, h2, h3⟩ := hx
  exact ⟨t, w, fun o ho => by unfold execOp; rw [ho]; simp [go_sem, e], Below.refl _ _, h3⟩
end
end Go.Proofs.YtjajmonhcnmidaaDoor
namespace Go.Proofs.YtjajmonhcnmidaaDoor
open Go.RowKit

/-- A contract from a walk that speaks of its worlds by the state alone. -/
theorem calls_stW {f : FuncId} {fn : Func} {N : Nat} {args : Array Value} {W : World} {R : Ending → World → Prop} {S : List (Nat × PF)} (hf : Tryd.prog.funcs[f]? = some fn) (hb : fn.body.isSome = true) (hN : fn.ntmps = N) (hs : args.size ≤ N)
    (hS : ∀ x ∈ S, ∃ v, args[x.1]? = some v ∧ x.2.p v W)
    (h : ∀ a w, St W N S [] a w → (bodyOf fn).wp Tryd.prog (bodyPost Tryd.prog fn R) a w) : Calls Tryd.prog f args W R := calls_st hf hb hN hs hS fun a hst => h a W hst
theorem St.to {Wb : World} {N : Nat} {S S' : List (Nat × PF)} {B : List (Nat × CF)} {a : Act} {w : World} (h : St Wb N S B a w) (hs : SlotsOk S' a w) : St Wb N S' B a w := ⟨h.size, h.defers, h.below, h.grow, hs, h.boxes, h.apart⟩
theorem BoxesOk.take {Wb : World} {a : Act} {w : World} : ∀ {B : List (Nat × CF)}, BoxesOk Wb B a w → ∀ n, BoxesOk Wb (B.take n) a w
  | [], _, n => by simp [BoxesOk]
  | _ :: _, h, 0 => by simp [BoxesOk]
  | _ :: r, h, n + 1 => ⟨h.1, h.2.take n⟩
theorem St.firstB {Wb : World} {N : Nat} {S : List (Nat × PF)} {B : List (Nat × CF)} {a : Act} {w : World} (h : St Wb N S B a w) (n : Nat) : St Wb N S (B.take n) a w := ⟨h.size, h.defers, h.below, h.grow, h.slots, h.boxes.take n, h.apart.sublist (List.take_sublist n B)⟩
theorem Sm.pow {z : Int} {c : Nat} (h : Sm z c) (k : Nat) : Sm (z ^ k) (c * k + 1) := by
  unfold Sm at *
  rw [Int.natAbs_pow, Nat.pow_succ, Nat.pow_mul]
  have h1 : z.natAbs ^ k ≤ (4294967296 ^ c) ^ k := Nat.pow_le_pow_left (Nat.le_of_lt h) k
  have h2 : 0 < (4294967296 ^ c) ^ k := Nat.pow_pos (Nat.pow_pos (by decide))
  omega

section
variable {ops : Array Oper} {N : Nat} {Wb W0 : World} {a0 : Act} {F : List PF} {BX : List BoxS} {AD : List (Nat × Nat × Nat)} {i : Nat}
def StoreAtOk (T : TypeId) (off : Nat) (old : CF) (fx : PF) (new : CF) : Prop := ∀ (w : World) (q : Nat) (v : Value), old.p q w → fx.p v w → ∃ w', (Instr.storeAt T (.pointer (some ⟨q, off, none⟩)) v).run Tryd.prog w = .ok () w' ∧ (∀ B : Nat, ∀ W : World, B ≤ q → Below B W w → Below B W w') ∧ Grow w w' ∧ (∀ j, j ≠ q → w'.heap[j]? = w.heap[j]?) ∧ new.p q w'
theorem s_storeAt {T : TypeId} {t d off : Nat} {x : Operand} {fx : PF} (k : Nat) (b : BoxS) (j : Nat) (ho : IsOp ops i none (.store T (.tmp d) x)) (hd : dstOf ops i = none) (hk : BX[k]? = some b) (ht : b.slot = t) (hb : b.st = some i) (hst : (BX.map (·.st)).count (some i) = 1) (haln : (BX.all fun c => c.al != some i) = true)
    (hlv : (match b.al with | none => true | some j => (deps ops i).contains j) = true) (hx0 : AD.contains (j, t, off) = true) (hjd : dstOf ops j = some d) (hj : (deps ops i).contains j = true) (hx : Src ops N Wb W0 a0 F BX AD i x fx) (h : StoreAtOk T off b.old fx b.new) : Step ops N Wb W0 a0 F BX AD i :=
  step_store k b ho hd hk hb hst haln hlv fun m a w q hI hr h1 h2 h3 => by
    obtain ⟨w', g1, g2, g3, g4, g5⟩ := h w q _ h3 (hx m a w hI hr)
    obtain ⟨q', e1, e2⟩ := hI.addrs (j, t, off) (by simpa using hx0) (ready_dep hr (by simpa using hj)) d hjd
    simp only [] at e1 e2
    rw [← ht, h1] at e1
    simp only [Option.some.injEq, Value.pointer.injEq, Addr.mk.injEq, and_true] at e1
    subst e1
    refine ⟨w', fun o ho => ?_, g2 _ _ h2 hI.below, g3, g4, g5⟩
    unfold execOp
    rw [ho]
    show Sem.run _ (Instr.storeAt T (a.eval (.tmp d)) (a.eval x) >>= fun _ => pure Next.skip) w = _
    rw [eval_of e2]
    exact run_u g1
end

section
variable {ρ : Operand → Value} {w : World} {ty ty2 : TypeId} {x y : Operand} {a b z : Int}
theorem h_len {A : Option Addr} {k c : Nat} (hx : (eqF (.slice A k c)).p (ρ x) w) : Yld (.call { callee := .builtin .len, args := #[x], argTypes := #[22] }) ρ w (eqF (.int .i64 k)) := by
  have hx : ρ x = .slice A k c := hx
  exact yld_mk fun o ho => by unfold execOp; rw [ho]; simp [go_sem, hx]
theorem h_min (e : min a b = z) (hx : (eqF (.int .i64 a)).p (ρ x) w) (hy : (eqF (.int .i64 b)).p (ρ y) w) : Yld (.call { callee := .builtin .min, args := #[x, y], argTypes := #[3, 3] }) ρ w (eqF (.int .i64 z)) := by
  have hx : ρ x = .int .i64 a := hx
  have hy : ρ y = .int .i64 b := hy
  subst e
  exact yld_mk fun o ho => by
    unfold execOp; rw [ho]; simp [go_sem, hx, hy]
theorem h_slice {ad : Addr} {k c n : Nat} (hn : n ≤ c) (hx : (eqF (.slice (some ad) k c)).p (ρ x) w) (hy : (eqF (.int .i64 n)).p (ρ y) w) : Yld (.slice 22 x none (some y) none) ρ w (eqF (.slice (some ad) n c)) := by
  have hx : ρ x = .slice (some ad) k c := hx
  have hy : ρ y = .int .i64 n := hy
  exact yld_mk fun o ho => by
    unfold execOp; rw [ho]; simp [go_sem, hx, hy, hn]
theorem h_slice0 {n : Nat} (hn : n = 0) (hx : (eqF (.slice none 0 0)).p (ρ x) w) (hy : (eqF (.int .i64 n)).p (ρ y) w) : Yld (.slice 22 x none (some y) none) ρ w (eqF (.slice none 0 0)) := by
  have hx : ρ x = .slice none 0 0 := hx
  have hy : ρ y = .int .i64 n := hy
  subst hn
  exact yld_mk fun o ho => by
    unfold execOp; rw [ho]; simp [go_sem, hx, hy]
theorem h_rem {k : IntKind} (hb : b ≠ 0) (e : a.tmod b = z) (hx : (eqF (.int k a)).p (ρ x) w) (hy : (eqF (.int k b)).p (ρ y) w) : Yld (.binOp .rem ty x y ty2) ρ w (eqF (.int k z)) := by
  have hx : ρ x = .int k a := hx
  have hy : ρ y = .int k b := hy
  subst e
  exact yld_mk fun o ho => by unfold execOp; rw [ho]; simp [go_sem, hx, hy, hb]
theorem h_conv_iu (e : IntKind.u64.wrap a = z) (hx : (eqF (.int .i64 a)).p (ρ x) w) : Yld (.convert 3 49 x) ρ w (eqF (.int .u64 z)) := by
  have hx : ρ x = .int .i64 a := hx
  subst e
  exact yld_mk fun o ho => by unfold execOp; rw [ho]; simp [go_sem, hx]
theorem h_conv_ui (e : IntKind.i64.wrap a = z) (hx : (eqF (.int .u64 a)).p (ρ x) w) : Yld (.convert 49 3 x) ρ w (eqF (.int .i64 z)) := by
  have hx : ρ x = .int .u64 a := hx
  subst e
  exact yld_mk fun o ho => by unfold execOp; rw [ho]; simp [go_sem, hx]
end
theorem h_sliceRaw {W : World} {r : RawArg} {ρ : Operand → Value} {w : World} {x y : Operand} (h : r.Ok W) (n : Nat) (hx : (eqF (.slice r.A r.k r.c)).p (ρ x) w) (hy : (eqF (.int .i64 ((min r.k n : Nat) : Int))).p (ρ y) w) : Yld (.slice 22 x none (some y) none) ρ w (eqF (.slice r.A (min r.k n) r.c)) := by
  cases hA : r.A with
  | some ad =>
    rw [hA] at hx
    exact h_slice (Nat.le_trans (Nat.min_le_left _ _) h.cap) hx hy
  | none =>
    have hc := h.nil hA
    have hk : r.k = 0 := by have := h.cap; omega
    rw [hA, hk, hc] at hx
    rw [hk, Nat.zero_min] at hy ⊢
    rw [hc]
    exact h_slice0 (n := 0) rfl hx hy
theorem kPow {w : World} {va vn : Value} {z : Int} {c n : Nat} (ha : (intF z).p va w) (hv : (eqF (.int .i64 (n : Int))).p vn w) (hs : Sm z c) (hc : c ≤ 1000) (hn : n ≤ 256) : Calls Tryd.prog 36 #[va, vn] w (GivesP (tup2F (intF (z ^ n)) (eqF (.int .i64 0))) w) := by
  have hv : vn = .int .i64 (n : Int) := hv
  subst hv
  exact (Pow_any va z n w ha (Nat.le_trans (len_le_pow hs) (by omega)) hn).mono fun _ _ ⟨v, he, hi, hb⟩ => ⟨_, he, ⟨_, _, rfl, hi, rfl⟩, hb⟩
theorem kPowE {w : World} {va vn : Value} {z n : Int} (ha : (intF z).p va w) (hv : (eqF (.int .i64 n)).p vn w) (hn : n < 0 ∨ 256 < n) (h0 : -9223372036854775808 ≤ n) (h1 : n ≤ 9223372036854775807) : Calls Tryd.prog 36 #[va, vn] w (GivesP (tup2F (intF 0) (eqF (.int .i64 1))) w) := by
  have hv : vn = .int .i64 n := hv
  subst hv
  have ha : IntAt w va z := ha
  obtain ⟨b, A, k, c, e, _⟩ := ha.open_
  exact (Pow_err va n w ⟨b, A, k, c, e⟩ hn h0 h1).mono fun _ _ ⟨v, he, hi, hb⟩ => ⟨_, he, ⟨_, _, rfl, hi, rfl⟩, hb⟩
def arrBF (a b : Int) : CF := objF #[.int .i64 a, .int .i64 b] 46 (by decide)
theorem boxA_run {a b : Int} (w : World) (v : Value) (h : (eqF (.agg #[.int .i64 a, .int .i64 b])).p v w) : ∃ ob, (Instr.box 46 v).run Tryd.prog w = .ok (.pointer (some ⟨w.heap.size, 0, none⟩)) (w.alloc ob) ∧ (arrBF a b).p w.heap.size (w.alloc ob) := by
  have h : v = .agg #[.int .i64 a, .int .i64 b] := h
  subst h
  exact ⟨.cells #[.int .i64 a, .int .i64 b] 46 (0, 0), by simp [go_sem], heap1 w _⟩
theorem loadA0 {a b : Int} (w : World) (q : Nat) (h : (arrBF a b).p q w) : ∃ v, (Instr.loadAt 3 (.pointer (some ⟨q, 0, none⟩))).run Tryd.prog w = .ok v w ∧ (eqF (.int .i64 a)).p v w := by
  have hh : w.heap[q]? = some (.cells #[.int .i64 a, .int .i64 b] 46 (0, 0)) := h
  have h0 : w.cell? ⟨q, 0, none⟩ = some (.int .i64 a) := by rw [cell_of_row w q 0 _ _ (0, 0) hh]; rfl
  exact ⟨_, by simp [go_sem, h0], rfl⟩
theorem loadA1 {a b : Int} (w : World) (q : Nat) (h : (arrBF a b).p q w) : ∃ v, (Instr.loadAt 3 (.pointer (some ⟨q, 1, none⟩))).run Tryd.prog w = .ok v w ∧ (eqF (.int .i64 b)).p v w := by
  have hh : w.heap[q]? = some (.cells #[.int .i64 a, .int .i64 b] 46 (0, 0)) := h
  have h0 : w.cell? ⟨q, 1, none⟩ = some (.int .i64 b) := by rw [cell_of_row w q 1 _ _ (0, 0) hh]; rfl
  exact ⟨_, by simp [go_sem, h0], rfl⟩
theorem idxA0 (q : Nat) (w : World) : (Instr.indexAt 46 (.pointer (some ⟨q, 0, none⟩)) (.int .i64 0)).run Tryd.prog w = .ok (.pointer (some ⟨q, 0, none⟩)) w := by simp [go_sem]
theorem idxA1 (q : Nat) (w : World) : (Instr.indexAt 46 (.pointer (some ⟨q, 0, none⟩)) (.int .i64 1)).run Tryd.prog w = .ok (.pointer (some ⟨q, 1, none⟩)) w := by simp [go_sem, Addr.add]
theorem fldRaw0 (q : Nat) (w : World) : (Instr.fieldAt 24 (.pointer (some ⟨q, 0, none⟩)) 0).run Tryd.prog w = .ok (.pointer (some ⟨q, 0, none⟩)) w := by simp [go_sem]
theorem loadRawMag {r : RawArg} (w : World) (q : Nat) (h : (rawBF r).p q w) : ∃ v, (Instr.loadAt 22 (.pointer (some ⟨q, 0, none⟩))).run Tryd.prog w = .ok v w ∧ (eqF (.slice r.A r.k r.c)).p v w := by
  have hh : w.heap[q]? = some (.cells #[.slice r.A r.k r.c, .bool r.b] 24 (0, 0)) := h
  have h0 : w.cell? ⟨q, 0, none⟩ = some (.slice r.A r.k r.c) := by rw [cell_of_row w q 0 _ _ (0, 0) hh]; rfl
  exact ⟨_, by simp [go_sem, h0], rfl⟩
/-- The raw integer with its first n limbs. -/
def RawArg.cut (r : RawArg) (n : Nat) : RawArg := { r with k := min r.k n, ms := r.ms.take (min r.k n) }
theorem RawArg.Ok.cut {r : RawArg} {w : World} (h : r.Ok w) (n : Nat) : (r.cut n).Ok w :=
  ⟨by simp [RawArg.cut, List.length_take, h.len], h.mem.take _, Nat.le_trans (Nat.min_le_left _ _) h.cap, h.lim.take _, Nat.le_trans (Nat.min_le_left _ _) h.big, h.nil⟩
theorem RawArg.Ok.cutSm {r : RawArg} {w : World} (h : r.Ok w) (n : Nat) : Sm (r.cut n).int n := by
  unfold Sm RawArg.int
  rw [sgn_abs]
  refine Nat.lt_of_lt_of_le (val_lt ((h.cut n).lim.take _)) (Nat.pow_le_pow_right (by decide) ?_)
  rw [List.length_take]
  have := (h.cut n).len
  simp only [RawArg.cut] at this ⊢
  omega
theorem storeRawMag {r : RawArg} {n : Nat} : StoreAtOk 22 0 (rawBF r) (eqF (.slice r.A (min r.k n) r.c)) (rawBF (r.cut n)) := by
  intro w q v h1 h2
  have hh : w.heap[q]? = some (.cells #[.slice r.A r.k r.c, .bool r.b] 24 (0, 0)) := h1
  have h2 : v = .slice r.A (min r.k n) r.c := h2
  subst h2
  have h0 : w.cell? ⟨q, 0, none⟩ = some (.slice r.A r.k r.c) := by rw [cell_of_row w q 0 _ _ (0, 0) hh]; rfl
  have f0 := frozen_of_row hh 0
  have hne : (24 : TypeId) ≠ 38 := by decide
  exact ⟨w.setCell ⟨q, 0, none⟩ (.slice r.A (min r.k n) r.c), by simp [go_sem, h0, f0], fun B W hq hB => hB.setCell hq _, Grow.set hh hne 0 _, fun j hj => Below.heap_setCell _ _ _ _ hj, block_setCell hh 0 _⟩
end Go.Proofs.YtjajmonhcnmidaaDoor
