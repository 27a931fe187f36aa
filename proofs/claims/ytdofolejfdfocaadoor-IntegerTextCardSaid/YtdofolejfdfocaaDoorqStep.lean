/- The steps of a region's plan, a lemma for each kind of operation. -/
import Derived.Test.YtdofolejfdfocaaDoorqRace
namespace Go.Proofs.YtdofolejfdfocaaDoor
open Go.RowKit

section
variable {ops : Array Oper} {N : Nat} {Wb W0 : World} {a0 : Act} {F : List PF} {BX : List BoxS} {AD : List (Nat × Nat × Nat)} {S : List (Nat × PF)} {B : List (Nat × CF)} {i : Nat} {g : Option (Nat × Bool)}

/-! ### Where values come from -/
def Src (ops : Array Oper) (N : Nat) (Wb W0 : World) (a0 : Act) (F : List PF) (BX : List BoxS) (AD : List (Nat × Nat × Nat)) (i : Nat) (x : Operand) (f : PF) : Prop := ∀ m a w, Inv ops N Wb W0 a0 F BX AD m a w → i ∈ Region.ready .any ops m → f.p (a.eval x) w
theorem src_op {t : Nat} {f : PF} (j : Nat) (hj : (deps ops i).contains j = true) (hd : dstOf ops j = some t) (hf : F.getD j anyF = f) : Src ops N Wb W0 a0 F BX AD i (.tmp t) f := fun m a w hI hr => by
  obtain ⟨v, h1, h2⟩ := hI.get hr j t f hj hd hf
  rw [eval_of h1]; exact h2
theorem unwritten {t : Nat} (h : (ops.all fun o => o.dst != some t) = true) : ∀ i, dstOf ops i ≠ some t := fun i hd => by
  unfold dstOf at hd
  cases ho : ops[i]? with
  | none => rw [ho] at hd; cases hd
  | some o =>
    rw [ho] at hd
    have h2 := Array.all_eq_true.1 h i (Array.getElem?_eq_some_iff.1 ho).1
    rw [(Array.getElem?_eq_some_iff.1 ho).2] at h2
    have h3 : o.dst = some t := hd
    rw [h3] at h2
    simp at h2
/-- Whoever writes the slot waits for operation i. -/
def lowB (ops : Array Oper) (i t : Nat) : Bool := (List.range ops.size).all fun s => dstOf ops s != some t || reach ops 4 i s
theorem low_fact {t : Nat} {f : PF} (hst : St Wb N S B a0 W0) (k : Nat) (hk : S[k]? = some (t, f)) (hw : (ops.all fun o => o.dst != some t) = true) {m : Array Bool} {a : Act} {w : World} (hI : Inv ops N Wb W0 a0 F BX AD m a w) : ∃ v, a.tmps[t]? = some v ∧ f.p v w := by
  obtain ⟨v, h1, h2⟩ := hst.slots.get hk
  exact ⟨v, (hI.low t fun i hi => absurd hi (unwritten hw i)).trans h1, f.st _ _ _ hI.grow h2⟩
theorem src_low {t : Nat} {f : PF} (hst : St Wb N S B a0 W0) (k : Nat) (hk : S[k]? = some (t, f)) (hw : lowB ops i t = true) : Src ops N Wb W0 a0 F BX AD i (.tmp t) f := fun m a w hI hr => by
  obtain ⟨v, h1, h2⟩ := hst.slots.get hk
  have hl := hI.low t fun s hs => by
    have hlt : s < ops.size := by
      unfold dstOf at hs
      cases ho : ops[s]? with
      | none => rw [ho] at hs; cases hs
      | some o => exact (Array.getElem?_eq_some_iff.1 ho).1
    have := List.all_eq_true.1 hw s (List.mem_range.2 hlt)
    rw [hs] at this
    exact hI.reach (ready_not hr) 4 s (by simpa using this)
  rw [eval_of (hl.trans h1)]; exact f.st _ _ _ hI.grow h2
theorem src_const (v : Value) : Src ops N Wb W0 a0 F BX AD i (.const v) (eqF v) := fun _ _ _ _ _ => rfl
def Grd (ops : Array Oper) (N : Nat) (Wb W0 : World) (a0 : Act) (F : List PF) (BX : List BoxS) (AD : List (Nat × Nat × Nat)) (i : Nat) (g : Option (Nat × Bool)) (b : Bool) : Prop := ∀ m a w, Inv ops N Wb W0 a0 F BX AD m a w → i ∈ Region.ready .any ops m → GuardIs ops a g b
theorem grd_none : Grd ops N Wb W0 a0 F BX AD i none true := fun _ _ _ _ _ => guard_free
theorem grd_op {j d : Nat} {b c r : Bool} (hj : (deps ops i).contains j = true) (hd : dstOf ops j = some d) (hf : F.getD j anyF = eqF (.bool c)) (hr : (c == b) = r) : Grd ops N Wb W0 a0 F BX AD i (some (j, b)) r := fun _ _ _ hI hrd => hr ▸ hI.guard hrd j d b c hj hd hf
/-- A box's place, of which something is known. -/
theorem grd_undef {j d : Nat} {b : Bool} (hj : (deps ops i).contains j = true) (hd : dstOf ops j = some d) (hf : F.getD j anyF = eqF undef) : Grd ops N Wb W0 a0 F BX AD i (some (j, b)) false := fun _ _ _ hI hrd => hI.guardU hrd j d b hj hd hf
def BSrc (ops : Array Oper) (N : Nat) (Wb W0 : World) (a0 : Act) (F : List PF) (BX : List BoxS) (AD : List (Nat × Nat × Nat)) (i t off : Nat) (c : CF) : Prop := ∀ m a w, Inv ops N Wb W0 a0 F BX AD m a w → i ∈ Region.ready .any ops m → ∃ q, a.tmps[t]? = some (.pointer (some ⟨q, off, none⟩)) ∧ c.p q w
theorem box_old (k : Nat) (b : BoxS) (hk : BX[k]? = some b) (hlv : (match b.al with | none => true | some j => (deps ops i).contains j) = true) (hst : (match b.st with | none => true | some s => reach ops 4 i s) = true)
    {m : Array Bool} {a : Act} {w : World} (hI : Inv ops N Wb W0 a0 F BX AD m a w) (hr : i ∈ Region.ready .any ops m) : ∃ q, a.tmps[b.slot]? = some (.pointer (some ⟨q, 0, none⟩)) ∧ b.old.p q w := by
  have hlive : b.live m = true := by
    unfold BoxS.live
    cases e : b.al with
    | none => rfl
    | some j => rw [e] at hlv; exact ready_dep hr (by simpa using hlv)
  obtain ⟨q, h1, _, h3⟩ := hI.boxes k b hk hlive
  have hcur : b.cur m = b.old := by
    unfold BoxS.cur
    cases e : b.st with
    | none => rfl
    | some s =>
      rw [e] at hst
      simp only []
      rw [hI.reach (ready_not hr) 4 s hst]
      rfl
  rw [hcur] at h3
  exact ⟨q, h1, h3⟩
theorem box_new (k : Nat) (b : BoxS) (s : Nat) (hk : BX[k]? = some b) (hs : b.st = some s) (hlv : (match b.al with | none => true | some j => (deps ops s).contains j) = true) (hd : (deps ops i).contains s = true)
    {m : Array Bool} {a : Act} {w : World} (hI : Inv ops N Wb W0 a0 F BX AD m a w) (hr : i ∈ Region.ready .any ops m) : ∃ q, a.tmps[b.slot]? = some (.pointer (some ⟨q, 0, none⟩)) ∧ b.new.p q w := by
  have hsm : m.getD s false = true := ready_dep hr (by simpa using hd)
  have hlive : b.live m = true := by
    unfold BoxS.live
    cases e : b.al with
    | none => rfl
    | some j => rw [e] at hlv; exact hI.closed s j hsm (by simpa using hlv)
  obtain ⟨q, h1, _, h3⟩ := hI.boxes k b hk hlive
  have hcur : b.cur m = b.new := by
    unfold BoxS.cur
    rw [hs]
    simp only []
    rw [hsm]
    rfl
  rw [hcur] at h3
  exact ⟨q, h1, h3⟩
theorem bsrc_old {t : Nat} {c : CF} (k : Nat) (b : BoxS) (hk : BX[k]? = some b) (ht : b.slot = t) (hc : b.old = c) (hlv : (match b.al with | none => true | some j => (deps ops i).contains j) = true) (hst : (match b.st with | none => true | some s => reach ops 4 i s) = true) : BSrc ops N Wb W0 a0 F BX AD i t 0 c := fun m a w hI hr => by
  obtain ⟨q, h1, h3⟩ := box_old k b hk hlv hst hI hr
  exact ⟨q, ht ▸ h1, hc ▸ h3⟩
theorem bsrc_new {t : Nat} {c : CF} (k : Nat) (b : BoxS) (s : Nat) (hk : BX[k]? = some b) (ht : b.slot = t) (hc : b.new = c) (hs : b.st = some s) (hlv : (match b.al with | none => true | some j => (deps ops s).contains j) = true) (hd : (deps ops i).contains s = true) : BSrc ops N Wb W0 a0 F BX AD i t 0 c := fun m a w hI hr => by
  obtain ⟨q, h1, h3⟩ := box_new k b s hk hs hlv hd hI hr
  exact ⟨q, ht ▸ h1, hc ▸ h3⟩
/-- The same by way of a field's address. -/
theorem bsrc_at {t d off : Nat} {c : CF} (j : Nat) (h : BSrc ops N Wb W0 a0 F BX AD i t 0 c) (hx : AD.contains (j, t, off) = true) (hd : dstOf ops j = some d) (hj : (deps ops i).contains j = true) : BSrc ops N Wb W0 a0 F BX AD i d off c := fun m a w hI hr => by
  obtain ⟨q, h1, h2⟩ := h m a w hI hr
  obtain ⟨q', h3, h4⟩ := hI.addrs (j, t, off) (by simpa using hx) (ready_dep hr (by simpa using hj)) d hd
  simp only [] at h3 h4
  rw [h1] at h3
  simp only [Option.some.injEq, Value.pointer.injEq, Addr.mk.injEq, and_true] at h3
  subst h3
  exact ⟨q, h4, h2⟩

/-! ### Operations -/
theorem s_move (hP : Plan ops N BX AD) {x : Operand} {f : PF} (ho : IsOp ops i g (.move x)) (hp : plainB BX i = true) (hna : noAd AD i = true) (hg : Grd ops N Wb W0 a0 F BX AD i g true) (hx : Src ops N Wb W0 a0 F BX AD i x f) (hF : F.getD i anyF = f) : Step ops N Wb W0 a0 F BX AD i :=
  step_val hP ho hp hna fun m a w hI hr => ⟨hg m a w hI hr, a.eval x, w, fun o ho => by unfold execOp; rw [ho]; rfl, Below.refl _ _, hF ▸ hx m a w hI hr⟩
theorem s_assign (hP : Plan ops N BX AD) {x : Operand} {f : PF} (ho : IsOp ops i g (.assign x)) (hp : plainB BX i = true) (hna : noAd AD i = true) (hg : Grd ops N Wb W0 a0 F BX AD i g true) (hx : Src ops N Wb W0 a0 F BX AD i x f) (hF : F.getD i anyF = f) : Step ops N Wb W0 a0 F BX AD i :=
  step_val hP ho hp hna fun m a w hI hr => ⟨hg m a w hI hr, a.eval x, w, fun o ho => by unfold execOp; rw [ho]; rfl, Below.refl _ _, hF ▸ hx m a w hI hr⟩
section
variable {ρ : Operand → Value} {o : Oper} {w : World}
theorem run_pickR {c x y : Operand} {b : Bool} (h : ρ c = .bool b) (ho : o.op = .pick c x y) : (execOp ρ o).run Tryd.prog w = .ok (.value (if b then ρ x else ρ y)) w := by
  unfold execOp; rw [ho]; simp [h, go_sem]
def Plainly (f : Nat) : Prop := ∀ (args : Array Value) (w : World), (callFunc f args).run Tryd.prog w = .ok (.enter f args) w
theorem run_callR {f : Nat} {args : Array Operand} {T : Array TypeId} (ho : o.op = .call { callee := .value (.func f), args := args, argTypes := T }) (hf : ρ (.func f) = .func (.func f) #[] #[]) (hpl : Plainly f) {vs : Array Value} (hv : args.map ρ = vs) : (execOp ρ o).run Tryd.prog w = .ok (.enter f vs) w := by
  subst hv
  unfold execOp; rw [ho]; simp [go_sem, hf]
  exact hpl _ _
theorem run_v {op : Sem Value} {v : Value} {w' : World} (h : op.run Tryd.prog w = .ok v w') : (op >>= fun x => pure (Next.value x)).run Tryd.prog w = .ok (.value v) w' := by
  rw [Sem.run_bind, h]; rfl
theorem run_u {op : Sem Unit} {w' : World} (h : op.run Tryd.prog w = .ok () w') : (op >>= fun _ => pure Next.skip).run Tryd.prog w = .ok .skip w' := by
  rw [Sem.run_bind, h]; rfl
end
theorem s_pickT (hP : Plan ops N BX AD) {c x y : Operand} {f : PF} (ho : IsOp ops i g (.pick c x y)) (hp : plainB BX i = true) (hna : noAd AD i = true) (hg : Grd ops N Wb W0 a0 F BX AD i g true) (hc : Src ops N Wb W0 a0 F BX AD i c (eqF (.bool true))) (hx : Src ops N Wb W0 a0 F BX AD i x f) (hF : F.getD i anyF = f) : Step ops N Wb W0 a0 F BX AD i :=
  step_val hP ho hp hna fun m a w hI hr => ⟨hg m a w hI hr, a.eval x, w, fun _ ho => run_pickR (hc m a w hI hr) ho, Below.refl _ _, hF ▸ hx m a w hI hr⟩
theorem s_pickF (hP : Plan ops N BX AD) {c x y : Operand} {f : PF} (ho : IsOp ops i g (.pick c x y)) (hp : plainB BX i = true) (hna : noAd AD i = true) (hg : Grd ops N Wb W0 a0 F BX AD i g true) (hc : Src ops N Wb W0 a0 F BX AD i c (eqF (.bool false))) (hx : Src ops N Wb W0 a0 F BX AD i y f) (hF : F.getD i anyF = f) : Step ops N Wb W0 a0 F BX AD i :=
  step_val hP ho hp hna fun m a w hI hr => ⟨hg m a w hI hr, a.eval y, w, fun _ ho => run_pickR (hc m a w hI hr) ho, Below.refl _ _, hF ▸ hx m a w hI hr⟩
theorem s_skip (hP : Plan ops N BX AD) {op : Op} (ho : IsOp ops i g op) (hp : plainB BX i = true) (hna : noAd AD i = true) (hg : Grd ops N Wb W0 a0 F BX AD i g false) (hF : F.getD i anyF = anyF) : Step ops N Wb W0 a0 F BX AD i :=
  step_skip hP ho hp hna (fun _ => by rw [hF]; trivial) hg
theorem s_skipU (hP : Plan ops N BX AD) {op : Op} (ho : IsOp ops i g op) (hp : plainB BX i = true) (hna : noAd AD i = true) (hg : Grd ops N Wb W0 a0 F BX AD i g false) (hF : F.getD i anyF = eqF undef) : Step ops N Wb W0 a0 F BX AD i :=
  step_skip hP ho hp hna (fun _ => by rw [hF]; rfl) hg

/-- Operations of no, one, two operands. -/
theorem s_op0 (hP : Plan ops N BX AD) {op : Op} {f : PF} (ho : IsOp ops i g op) (hp : plainB BX i = true) (hna : noAd AD i = true) (hg : Grd ops N Wb W0 a0 F BX AD i g true)
    (h : ∀ (ρ : Operand → Value) (w : World), ∃ v w', (∀ o : Oper, o.op = op → (execOp ρ o).run Tryd.prog w = .ok (.value v) w') ∧ Below w.heap.size w w' ∧ f.p v w') (hF : F.getD i anyF = f) : Step ops N Wb W0 a0 F BX AD i :=
  step_val hP ho hp hna fun m a w hI hr => by
    obtain ⟨v, w', h1, h2, h3⟩ := h a.eval w
    exact ⟨hg m a w hI hr, v, w', h1, h2, hF ▸ h3⟩
theorem s_op1 (hP : Plan ops N BX AD) {op : Op} {x : Operand} {fx f : PF} (ho : IsOp ops i g op) (hp : plainB BX i = true) (hna : noAd AD i = true) (hg : Grd ops N Wb W0 a0 F BX AD i g true) (hx : Src ops N Wb W0 a0 F BX AD i x fx)
    (h : ∀ (ρ : Operand → Value) (w : World), fx.p (ρ x) w → ∃ v w', (∀ o : Oper, o.op = op → (execOp ρ o).run Tryd.prog w = .ok (.value v) w') ∧ Below w.heap.size w w' ∧ f.p v w') (hF : F.getD i anyF = f) : Step ops N Wb W0 a0 F BX AD i :=
  step_val hP ho hp hna fun m a w hI hr => by
    obtain ⟨v, w', h1, h2, h3⟩ := h a.eval w (hx m a w hI hr)
    exact ⟨hg m a w hI hr, v, w', h1, h2, hF ▸ h3⟩
theorem s_op2 (hP : Plan ops N BX AD) {op : Op} {x y : Operand} {fx fy f : PF} (ho : IsOp ops i g op) (hp : plainB BX i = true) (hna : noAd AD i = true) (hg : Grd ops N Wb W0 a0 F BX AD i g true) (hx : Src ops N Wb W0 a0 F BX AD i x fx) (hy : Src ops N Wb W0 a0 F BX AD i y fy)
    (h : ∀ (ρ : Operand → Value) (w : World), fx.p (ρ x) w → fy.p (ρ y) w → ∃ v w', (∀ o : Oper, o.op = op → (execOp ρ o).run Tryd.prog w = .ok (.value v) w') ∧ Below w.heap.size w w' ∧ f.p v w') (hF : F.getD i anyF = f) : Step ops N Wb W0 a0 F BX AD i :=
  step_val hP ho hp hna fun m a w hI hr => by
    obtain ⟨v, w', h1, h2, h3⟩ := h a.eval w (hx m a w hI hr) (hy m a w hI hr)
    exact ⟨hg m a w hI hr, v, w', h1, h2, hF ▸ h3⟩
/-- Calls. -/
theorem s_call0 (hP : Plan ops N BX AD) {f : Nat} {T : Array TypeId} {R : PF} (ho : IsOp ops i g (.call { callee := .value (.func f), args := #[], argTypes := T })) (hp : plainB BX i = true) (hna : noAd AD i = true) (hg : Grd ops N Wb W0 a0 F BX AD i g true) (hpl : Plainly f)
    (hc : ∀ w, Below Wb.heap.size Wb w → Calls Tryd.prog f #[] w (GivesP R w)) (hF : F.getD i anyF = R) : Step ops N Wb W0 a0 F BX AD i :=
  step_call hP ho hp hna fun m a w hI hr => ⟨hg m a w hI hr, f, #[], fun _ ho => run_callR ho rfl hpl (by simp), hF ▸ hc w hI.below⟩
theorem s_call1 (hP : Plan ops N BX AD) {f : Nat} {x : Operand} {T : Array TypeId} {fx R : PF} (ho : IsOp ops i g (.call { callee := .value (.func f), args := #[x], argTypes := T })) (hp : plainB BX i = true) (hna : noAd AD i = true) (hg : Grd ops N Wb W0 a0 F BX AD i g true) (hx : Src ops N Wb W0 a0 F BX AD i x fx)
    (hpl : Plainly f) (hc : ∀ w vx, Below Wb.heap.size Wb w → fx.p vx w → Calls Tryd.prog f #[vx] w (GivesP R w)) (hF : F.getD i anyF = R) : Step ops N Wb W0 a0 F BX AD i :=
  step_call hP ho hp hna fun m a w hI hr => ⟨hg m a w hI hr, f, #[a.eval x], fun _ ho => run_callR ho rfl hpl (by generalize a.eval = ρ; simp), hF ▸ hc w _ hI.below (hx m a w hI hr)⟩
theorem s_call2 (hP : Plan ops N BX AD) {f : Nat} {x y : Operand} {T : Array TypeId} {fx fy R : PF} (ho : IsOp ops i g (.call { callee := .value (.func f), args := #[x, y], argTypes := T })) (hp : plainB BX i = true) (hna : noAd AD i = true) (hg : Grd ops N Wb W0 a0 F BX AD i g true) (hx : Src ops N Wb W0 a0 F BX AD i x fx) (hy : Src ops N Wb W0 a0 F BX AD i y fy)
    (hpl : Plainly f) (hc : ∀ w vx vy, Below Wb.heap.size Wb w → fx.p vx w → fy.p vy w → Calls Tryd.prog f #[vx, vy] w (GivesP R w)) (hF : F.getD i anyF = R) : Step ops N Wb W0 a0 F BX AD i :=
  step_call hP ho hp hna fun m a w hI hr => ⟨hg m a w hI hr, f, #[a.eval x, a.eval y], fun _ ho => run_callR ho rfl hpl (by generalize a.eval = ρ; simp), hF ▸ hc w _ _ hI.below (hx m a w hI hr) (hy m a w hI hr)⟩
/-- Loads. -/
theorem s_load (hP : Plan ops N BX AD) {T : TypeId} {t off : Nat} {c : CF} {f : PF} (ho : IsOp ops i g (.load T (.tmp t))) (hp : plainB BX i = true) (hna : noAd AD i = true) (hg : Grd ops N Wb W0 a0 F BX AD i g true) (hb : BSrc ops N Wb W0 a0 F BX AD i t off c)
    (h : ∀ (w : World) (q : Nat), c.p q w → ∃ v, (Instr.loadAt T (.pointer (some ⟨q, off, none⟩))).run Tryd.prog w = .ok v w ∧ f.p v w) (hF : F.getD i anyF = f) : Step ops N Wb W0 a0 F BX AD i :=
  step_val hP ho hp hna fun m a w hI hr => by
    obtain ⟨q, h1, h2⟩ := hb m a w hI hr
    obtain ⟨v, h3, h4⟩ := h w q h2
    refine ⟨hg m a w hI hr, v, w, fun o ho => ?_, Below.refl _ _, hF ▸ h4⟩
    unfold execOp
    rw [ho]
    show Sem.run _ (Instr.loadAt T (a.eval (.tmp t)) >>= fun x => pure (Next.value x)) w = _
    rw [eval_of h1]
    exact run_v h3
/-- New boxes. -/
theorem s_alloc (hP : Plan ops N BX AD) {T : TypeId} {d : Nat} {ob : Obj} (k : Nat) (b : BoxS) (ho : IsOp ops i none (.alloc T)) (hd : dstOf ops i = some d) (hk : BX[k]? = some b) (ha : b.al = some i) (hds : d = b.slot)
    (hst : (match b.st with | none => true | some s => (deps ops s).contains i) = true) (hal : (BX.map (·.al)).count (some i) = 1) (hsn : (BX.all fun c => c.st != some i) = true) (hna : noAd AD i = true) (hF : F.getD i anyF = anyF)
    (hrun : ∀ w : World, (Instr.alloc T true (.tuple #[])).run Tryd.prog w = .ok (.pointer (some ⟨w.heap.size, 0, none⟩)) (w.alloc ob)) (hz : ∀ w : World, b.old.p w.heap.size (w.alloc ob)) : Step ops N Wb W0 a0 F BX AD i :=
  step_make hP k b ho hd hk ha hds hst hal hsn hna fun m a w hI hr => ⟨ob, fun o ho => by
    unfold execOp
    rw [ho]
    exact run_v (hrun w), by rw [hF]; trivial, hz w⟩
theorem s_box (hP : Plan ops N BX AD) {T : TypeId} {d : Nat} {x : Operand} {fx : PF} (k : Nat) (b : BoxS) (ho : IsOp ops i none (.box T x)) (hd : dstOf ops i = some d) (hk : BX[k]? = some b) (ha : b.al = some i) (hds : d = b.slot)
    (hst : (match b.st with | none => true | some s => (deps ops s).contains i) = true) (hal : (BX.map (·.al)).count (some i) = 1) (hsn : (BX.all fun c => c.st != some i) = true) (hna : noAd AD i = true) (hF : F.getD i anyF = anyF)
    (hx : Src ops N Wb W0 a0 F BX AD i x fx) (h : ∀ (w : World) (v : Value), fx.p v w → ∃ ob, (Instr.box T v).run Tryd.prog w = .ok (.pointer (some ⟨w.heap.size, 0, none⟩)) (w.alloc ob) ∧ b.old.p w.heap.size (w.alloc ob)) : Step ops N Wb W0 a0 F BX AD i :=
  step_make hP k b ho hd hk ha hds hst hal hsn hna fun m a w hI hr => by
    obtain ⟨ob, h1, h2⟩ := h w _ (hx m a w hI hr)
    exact ⟨ob, fun o ho => by
      unfold execOp
      rw [ho]
      exact run_v h1, by rw [hF]; trivial, h2⟩
/-- A store into a box: what it needs of the box, what it makes of it. -/
def StoreOk (T : TypeId) (old : CF) (fx : PF) (new : CF) : Prop := ∀ (w : World) (q : Nat) (v : Value), old.p q w → fx.p v w → ∃ w', (Instr.storeAt T (.pointer (some ⟨q, 0, none⟩)) v).run Tryd.prog w = .ok () w' ∧ (∀ B : Nat, ∀ W : World, B ≤ q → Below B W w → Below B W w') ∧ Grow w w' ∧ (∀ j, j ≠ q → w'.heap[j]? = w.heap[j]?) ∧ new.p q w'
theorem s_store {T : TypeId} {t : Nat} {x : Operand} {fx : PF} (k : Nat) (b : BoxS) (ho : IsOp ops i none (.store T (.tmp t) x)) (hd : dstOf ops i = none) (hk : BX[k]? = some b) (ht : b.slot = t) (hb : b.st = some i) (hst : (BX.map (·.st)).count (some i) = 1) (haln : (BX.all fun c => c.al != some i) = true)
    (hlv : (match b.al with | none => true | some j => (deps ops i).contains j) = true) (hx : Src ops N Wb W0 a0 F BX AD i x fx) (h : StoreOk T b.old fx b.new) : Step ops N Wb W0 a0 F BX AD i :=
  step_store k b ho hd hk hb hst haln hlv fun m a w q hI hr h1 h2 h3 => by
    obtain ⟨w', g1, g2, g3, g4, g5⟩ := h w q _ h3 (hx m a w hI hr)
    refine ⟨w', fun o ho => ?_, g2 _ _ h2 hI.below, g3, g4, g5⟩
    unfold execOp
    rw [ho]
    show Sem.run _ (Instr.storeAt T (a.eval (.tmp t)) (a.eval x) >>= fun _ => pure Next.skip) w = _
    rw [eval_of (ht ▸ h1)]
    exact run_u g1

/-! ### What comes out of a region -/
theorem out_op {m : Array Bool} {a : Act} {w : World} (hI : Inv ops N Wb W0 a0 F BX AD m a w) (hm : ∀ i, i < ops.size → m.getD i false = true) (j d : Nat) (f : PF) (hd : dstOf ops j = some d) (hf : F.getD j anyF = f) : ∃ v, a.tmps[d]? = some v ∧ f.p v w := by
  refine hf ▸ hI.facts j d (hm j ?_) hd
  unfold dstOf at hd
  cases ho : ops[j]? with
  | none => rw [ho] at hd; cases hd
  | some o => exact (Array.getElem?_eq_some_iff.1 ho).1
end

/-! ### Integers -/
theorem loadI_int {z : Int} (w : World) (q : Nat) (h : (boxIF z).p q w) : ∃ v, (Instr.loadAt 27 (.pointer (some ⟨q, 0, none⟩))).run Tryd.prog w = .ok v w ∧ (intF z).p v w := by
  obtain ⟨b, A, k, c, hh, hi⟩ := h
  have h0 : w.cell? ⟨q, 0, none⟩ = some (.bool b) := by rw [cell_of_row w q 0 _ _ (0, 0) hh]; rfl
  have h1 : w.cell? ⟨q, 1, none⟩ = some (.slice A k c) := by rw [cell_of_row w q 1 _ _ (0, 0) hh]; rfl
  exact ⟨.agg #[.bool b, .slice A k c], by simp [go_sem, h0, h1], hi⟩
theorem allocI_run (w : World) : (Instr.alloc 27 true (.tuple #[])).run Tryd.prog w = .ok (.pointer (some ⟨w.heap.size, 0, none⟩)) (w.alloc zeroI) := by simp [go_sem]
theorem allocI_old (w : World) : zeroIF.p w.heap.size (w.alloc zeroI) := heap1 w zeroI
theorem boxI_run {z : Int} (w : World) (v : Value) (h : (intF z).p v w) : ∃ ob, (Instr.box 27 v).run Tryd.prog w = .ok (.pointer (some ⟨w.heap.size, 0, none⟩)) (w.alloc ob) ∧ (boxIF z).p w.heap.size (w.alloc ob) := by
  have h' : IntAt w v z := h
  obtain ⟨b, A, k, c, rfl, H⟩ := h'.open_
  exact ⟨.cells #[.bool b, .slice A k c] 27 (0, 0), by simp [go_sem], b, A, k, c, heap1 w _, H.out.into (below_alloc w _)⟩
/-- Some api.Int lies there. -/
def IsIntBox (w : World) (q : Nat) : Prop := ∃ b A k c, w.heap[q]? = some (.cells #[.bool b, .slice A k c] 27 (0, 0))
theorem storeI_of {old : CF} {z : Int} (ho : ∀ q w, old.p q w → IsIntBox w q) : StoreOk 27 old (intF z) (boxIF z) := by
  intro w q v h1 h2
  have h2 : IntAt w v z := h2
  obtain ⟨b0, A0, k0, c0, hh⟩ := ho q w h1
  obtain ⟨b, A, k, c, rfl, H⟩ := h2.open_
  have h0 : w.cell? ⟨q, 0, none⟩ = some (.bool b0) := by rw [cell_of_row w q 0 _ _ (0, 0) hh]; rfl
  have h1 : w.cell? ⟨q, 1, none⟩ = some (.slice A0 k0 c0) := by rw [cell_of_row w q 1 _ _ (0, 0) hh]; rfl
  have f0 := frozen_of_row hh 0
  have f1 := frozen_of_row hh 1
  have hne : (27 : TypeId) ≠ 41 := by decide
  refine ⟨(w.setCell ⟨q, 0, none⟩ (.bool b)).setCell ⟨q, 1, none⟩ (.slice A k c), by simp [go_sem, h0, h1, f0, f1], fun B W hq hB => (hB.setCell hq _).setCell hq _, ?_, fun j hj => heap_store hj, ?_⟩
  · exact (Grow.set hh hne 0 _).trans (Grow.set (block_setCell hh 0 _) hne 1 _)
  · exact boxIF_of (boxI_store hh H.out)
theorem storeI_zero (z : Int) : StoreOk 27 zeroIF (intF z) (boxIF z) := storeI_of fun _ _ h => ⟨_, _, _, _, h⟩
theorem storeI_box (z z' : Int) : StoreOk 27 (boxIF z') (intF z) (boxIF z) := storeI_of fun _ _ ⟨b, A, k, c, h, _⟩ => ⟨b, A, k, c, h⟩
end Go.Proofs.YtdofolejfdfocaaDoor
