/- An abstract machine: operations upon values, and those that make objects. -/
import Derived.Test.YtgaehhapjnbieaaGreatqDivP
import Derived.Great.BuildSlice
import Derived.Laws.MakeOwn
set_option linter.unusedSectionVars false
set_option linter.unusedVariables false
set_option linter.unusedSimpArgs false
namespace Go.Proofs.YtgaehhapjnbieaaGreat
open Go.RowKit
variable [Env]
section
variable {ρ : Rho} {M A : Nat → Prop} {w : World} {t0 : Nat} {Hr : Nat → Option OB} {H : HP} {ev : Operand → Option AV} {ρv : Operand → Value} {r : AV} {R : List Nat} {U : HP} {op : Op}
def leavesT : AV → Option (List AV)
  | .agg l => some l
  | .any => none
  | .tup _ => none
  | .val v => if flatV v then some [.val v] else none
  | .ext n ag c => some [.ext n ag c]
  | a => some [a]
theorem flat_cells {v : Value} (h : flatV v = true) : v.cells = #[v] := by
  unfold flatV at h
  split at h <;> first | rfl | cases h
theorem one_cells {v : Value} (h : v.oneCell' = true) : v.cells = #[v] := by
  cases v <;> first | rfl | cases h
theorem leavesT_sound {a : AV} {l : List AV} {v : Value} (h : leavesT a = some l) (hv : RV ρ M w a v) : Rps ρ M w l v.cells.toList := by
  unfold leavesT at h
  split at h
  · cases h
    obtain ⟨cs, rfl, hc⟩ := (show RV1 ρ M w (.agg _) v from hv)
    exact hc
  · cases h
  · cases h
  · split at h
    · rename_i u hf
      cases h
      have hv : v = u := hv
      subst hv
      rw [flat_cells hf]
      exact Rps.one (by unfold Rp; exact ⟨rfl, hf⟩)
    · cases h
  · rename_i n ag c
    cases h
    cases ag with
    | true =>
      obtain ⟨cs, rfl, hr⟩ := (show RV1 ρ M w (.ext n true c) v from hv)
      exact Rps.one hr
    | false =>
      have hr : Rp ρ M w (.ext n false c) [v] := hv
      have hr2 := hr
      unfold Rp at hr2
      rw [one_cells ((Env.X c).one _ _ _ hr2.2 v (by simp))]
      exact Rps.one hr
  · rename_i n1 n2 n3 n4 n5
    cases h
    have key : ∀ cs : Array Value, v = .agg cs → Rp ρ M w a cs.toList → Rps ρ M w [a] v.cells.toList := fun cs e hr => by subst e; exact Rps.one hr
    have one : Rp ρ M w a [v] → (∀ cs, v ≠ .agg cs) → Rps ρ M w [a] v.cells.toList := fun hr hne => by
      have : v.cells = #[v] := by
        cases v <;> first | rfl | exact absurd rfl (hne _)
      rw [this]
      exact Rps.one hr
    cases a <;> first
      | (exact absurd rfl (n1 _); done)
      | (exact absurd rfl n2; done)
      | (exact absurd rfl (n3 _); done)
      | (exact absurd rfl (n4 _); done)
      | (exact absurd rfl (n5 _ _ _); done)
      | (obtain ⟨cs, e, hr⟩ := hv; exact key cs e hr)
      | (refine one hv ?_
         have hv := hv
         unfold RV RV1 at hv
         simp only [] at hv
         unfold Rp at hv
         first
           | (obtain ⟨_, _, e, _⟩ := hv; intro cs h; rw [h] at e; cases (List.cons.inj e).1)
           | (obtain ⟨_, _, _, e, _⟩ := hv; intro cs h; rw [h] at e; cases (List.cons.inj e).1)
           | (obtain ⟨_, _, _, _, e, _⟩ := hv; intro cs h; rw [h] at e; cases (List.cons.inj e).1)
           | (obtain ⟨_, _, _, e⟩ := hv; intro cs h; rw [h] at e; cases (List.cons.inj e).1))
theorem rps_flat : ∀ {vs : List Value}, vs.all flatV = true → Rps ρ M w (vs.map .val) vs
  | [], _ => by unfold List.map Rps; rfl
  | v :: vs, h => by
    rw [List.all_cons, Bool.and_eq_true] at h
    rw [List.map_cons]
    unfold Rps
    exact ⟨[v], vs, rfl, by unfold Rp; exact ⟨rfl, h.1⟩, rps_flat h.2⟩
noncomputable def tyZero (T : TypeId) : Option (List AV) := match (Tryz.prog.info? T).bind (·.zero) with
  | some z => if z.cells.toList.all flatV then some (z.cells.toList.map .val) else none
  | none => none
theorem tyZero_sound {T : TypeId} {l : List AV} (h : tyZero T = some l) : ∃ i z, Tryz.prog.info? T = some i ∧ i.zero = some z ∧ Rps ρ M w l z.cells.toList := by
  unfold tyZero at h
  split at h
  · rename_i z hz
    split at h
    · rename_i hf
      cases h
      obtain ⟨i, hi, hz⟩ := Option.bind_eq_some_iff.1 hz
      exact ⟨i, z, hi, hz, rps_flat hf⟩
    · cases h
  · cases h
def tyOk (T : TypeId) : Bool := !(Nat.beq T 109) && !(Nat.beq T 5)
theorem tyOk_sound {T : TypeId} (h : tyOk T = true) : T ≠ 109 ∧ T ≠ 5 := by
  unfold tyOk at h
  rw [Bool.and_eq_true] at h
  refine ⟨?_, ?_⟩
  · rintro rfl; simp at h
  · rintro rfl; simp at h
def opMove (ev : Operand → Option AV) (x : Operand) : Option (AV × List Nat × HP) := (ev x).map fun a => (a, [], [])
theorem vm_move {x : Operand} (he : op = .move x ∨ op = .assign x) (h : opMove ev x = some (r, R, U)) (hs : St0 ρ M A w t0 Hr) (hev : ∀ x a, ev x = some a → RV ρ M w a (ρv x)) : Does op ρv w (Post ρ M A w t0 Hr U r) := by
  unfold opMove at h
  cases ha : ev x with
  | none => rw [ha] at h; cases h
  | some a =>
    rw [ha] at h
    cases h
    refine does_val (v := ρv x) hs (fun o ho => ?_) (hev _ _ ha)
    rcases he with rfl | rfl <;> (unfold execOp; rw [ho]; rfl)
def opPick (ev : Operand → Option AV) (c x y : Operand) : Option (AV × List Nat × HP) := do
  match ← ev c with
  | .val (.bool true) => (ev x).map fun a => (a, [], [])
  | .val (.bool false) => (ev y).map fun a => (a, [], [])
  | _ => none
theorem vm_pick {c x y : Operand} (h : opPick ev c x y = some (r, R, U)) (hs : St0 ρ M A w t0 Hr) (hev : ∀ x a, ev x = some a → RV ρ M w a (ρv x)) : Does (.pick c x y) ρv w (Post ρ M A w t0 Hr U r) := by
  simp only [opPick, Option.bind_eq_bind, Option.bind_eq_some_iff] at h
  obtain ⟨b, hb, h⟩ := h
  have hvb := hev _ _ hb
  split at h
  · have hvb : ρv c = .bool true := hvb
    cases ha : ev x with
    | none => rw [ha] at h; cases h
    | some a =>
      rw [ha] at h
      cases h
      exact does_val (v := ρv x) hs (fun o ho => run_pickR (b := true) hvb ho) (hev _ _ ha)
  · have hvb : ρv c = .bool false := hvb
    cases ha : ev y with
    | none => rw [ha] at h; cases h
    | some a =>
      rw [ha] at h
      cases h
      exact does_val (v := ρv y) hs (fun o ho => run_pickR (b := false) hvb ho) (hev _ _ ha)
  · cases h
def opExt (ev : Operand → Option AV) (x : Operand) (k : Nat) : Option (AV × List Nat × HP) := do
  match ← ev x with
  | .tup l => (l[k]?).map fun a => (a, [], [])
  | _ => none
theorem RVs.get : ∀ {l : List AV} {vs : List Value} {k : Nat} {a : AV}, RVs ρ M w l vs → l[k]? = some a → ∃ v, vs[k]? = some v ∧ RV1 ρ M w a v
  | [], _, _, _, _, h => by simp at h
  | b :: l, vs, k, a, hr, h => by
    obtain ⟨v, r, rfl, h1, h2⟩ := hr
    cases k with
    | zero => simp at h; subst h; exact ⟨v, rfl, h1⟩
    | succ k => simpa using RVs.get h2 (by simpa using h)
theorem vm_ext {x : Operand} {k : Nat} (h : opExt ev x k = some (r, R, U)) (hs : St0 ρ M A w t0 Hr) (hev : ∀ x a, ev x = some a → RV ρ M w a (ρv x)) : Does (.extract x k) ρv w (Post ρ M A w t0 Hr U r) := by
  simp only [opExt, Option.bind_eq_bind, Option.bind_eq_some_iff] at h
  obtain ⟨b, hb, h⟩ := h
  have hvb := hev _ _ hb
  split at h
  · rename_i l
    cases hl : l[k]? with
    | none => rw [hl] at h; cases h
    | some a =>
      rw [hl] at h
      cases h
      obtain ⟨vs, e, hvs⟩ := hvb
      obtain ⟨v, hv, hr⟩ := hvs.get hl
      refine does_val (v := v) hs (fun o ho => ?_) hr.rv
      unfold execOp
      rw [ho]
      have hv' : vs[k]? = some v := by simpa using hv
      simp [go_sem, e, hv']
  · cases h
def opNil (ev : Operand → Option AV) (x : Operand) : Option (AV × List Nat × HP) := do
  match ← ev x with
  | .ptr o off => some (.ptr o off, [], [])
  | .rptr l => some (.rptr l, [], [])
  | _ => none
theorem vm_nil {x : Operand} (h : opNil ev x = some (r, R, U)) (hs : St0 ρ M A w t0 Hr) (hev : ∀ x a, ev x = some a → RV ρ M w a (ρv x)) : Does (.nilCheck x) ρv w (Post ρ M A w t0 Hr U r) := by
  simp only [opNil, Option.bind_eq_bind, Option.bind_eq_some_iff] at h
  obtain ⟨b, hb, h⟩ := h
  have hvb := hev _ _ hb
  have go : ∀ g off, ρv x = .pointer (some ⟨g, off, none⟩) → ∀ o : Oper, o.op = .nilCheck x → (execOp ρv o).run Tryz.prog w = .ok (.value (ρv x)) w := fun g off e o ho => by
    unfold execOp
    rw [ho]
    simp only [e]
    rfl
  split at h
  · cases h
    have hv : Rp ρ M w _ [ρv x] := hvb
    have hv2 := hv
    unfold Rp at hv2
    obtain ⟨g, c, _, e2⟩ := hv2
    exact does_val hs (go g _ (List.cons.inj e2).1) hvb
  · cases h
    have hv : Rp ρ M w _ [ρv x] := hvb
    have hv2 := hv
    unfold Rp at hv2
    obtain ⟨g, off, _, e2, _⟩ := hv2
    exact does_val hs (go g _ (List.cons.inj e2).1) hvb
  · cases h
def binI (op : BinOp) (k : IntKind) (a b : Int) : Option Value := match op with
  | .eql => some (.bool (a == b))
  | .neq => some (.bool (a != b))
  | .lss => some (.bool (decide (a < b)))
  | .leq => some (.bool (decide (a ≤ b)))
  | .gtr => some (.bool (decide (b < a)))
  | .geq => some (.bool (decide (b ≤ a)))
  | .add => some (.int k (k.wrap (a + b)))
  | .sub => some (.int k (k.wrap (a - b)))
  | .mul => some (.int k (k.wrap (a * b)))
  | .rem => if b == 0 then none else some (.int k (a.tmod b))
  | _ => none
noncomputable def binX (o : BinOp) (k : IntKind) (T : TypeId) (p q : Int) : Option Value := match o, k with
  | .and, .i64 => if Nat.beq T 3 then some (.int .i64 (bits .and .i64 p q)) else none
  | .shr, .i64 => if Nat.beq T 3 && decide (0 ≤ q) && decide (q < 64) then some (.int .i64 (p / 2 ^ q.toNat)) else none
  | _, _ => none
def nilQ : AV → Option Bool
  | .val (.slice none _ _) => some true
  | .sl _ _ _ _ => some false
  | .slx _ _ => some false
  | .rats (_ :: _) => some false
  | .row (_ + 1) _ => some false
  | _ => none
theorem nilQ_sound {a : AV} {b : Bool} {v : Value} (h : nilQ a = some b) (hv : RV ρ M w a v) : ∃ A n c, v = .slice A n c ∧ A.isNone = b := by
  unfold nilQ at h
  split at h
  · cases h; exact ⟨none, _, _, hv, rfl⟩
  · cases h
    have hv : Rp ρ M w (.sl _ _ _ _) [v] := hv
    unfold Rp at hv
    obtain ⟨g, c, k, _, e, _⟩ := hv
    exact ⟨_, _, _, (List.cons.inj e).1, rfl⟩
  · cases h
    have hv : Rp ρ M w (.slx _ _) [v] := hv
    unfold Rp at hv
    obtain ⟨g, c, k, _, e, _⟩ := hv
    exact ⟨_, _, _, (List.cons.inj e).1, rfl⟩
  · rename_i q l
    cases h
    have hv : Rp ρ M w (.rats (q :: l)) [v] := hv
    unfold Rp at hv
    obtain ⟨A, c, e, _, hr⟩ := hv
    obtain ⟨g, off, xs, e1, _⟩ := hr (by simp)
    exact ⟨A, _, _, (List.cons.inj e).1, by rw [e1]; rfl⟩
  · rename_i n l
    cases h
    have hv : Rp ρ M w (.row (n + 1) l) [v] := hv
    unfold Rp at hv
    obtain ⟨A, c, e, _, hr⟩ := hv
    obtain ⟨g, off, xs, e1, _⟩ := hr (by simp)
    exact ⟨A, _, _, (List.cons.inj e).1, by rw [e1]; rfl⟩
  · cases h
noncomputable def opNilB (o : BinOp) (T : TypeId) (a : AV) : Option (AV × List Nat × HP) := match tyD T, nilQ a, o with
  | some (.slice _), some b, .eql => some (.val (.bool b), [], [])
  | some (.slice _), some b, .neq => some (.val (.bool (!b)), [], [])
  | _, _, _ => none
theorem run_eqNil {T e : TypeId} {A : Option Addr} {n c n' c' : Nat} (hd : Tryz.prog.underlying T = some (.slice e)) : (Op.equal T (.slice A n c) (.slice none n' c')).run Tryz.prog w = .ok A.isNone w := by
  unfold Op.equal
  rw [show Op.maxDepth = 9999 + 1 from rfl]
  unfold Op.equalIn
  cases A <;> simp [Sem.run_bind, run_underlying hd]
noncomputable def opBin (ev : Operand → Option AV) (o : BinOp) (T : TypeId) (x y : Operand) (T2 : TypeId) : Option (AV × List Nat × HP) := match ev x, ev y with
  | some (.val (.int k p)), some (.val (.int k' q)) => if k = k' then (match binI o k p q with
      | some v => some (.val v, [], [])
      | none => (binX o k T p q).map fun v => (.val v, [], [])) else none
  | some (.val (.bool p)), some (.val (.bool q)) => if Nat.beq T 4 && Nat.beq T2 4 then (match o with
      | .eql => some (.val (.bool (p == q)), [], [])
      | .neq => some (.val (.bool (p != q)), [], [])
      | _ => none) else none
  | some a, some (.val (.slice none _ _)) => opNilB o T a
  | _, _ => none
theorem does_yld {v : Value} (hs : St0 ρ M A w t0 Hr) (h : ∃ v' w', (∀ o : Oper, o.op = op → (execOp ρv o).run Tryz.prog w = .ok (.value v') w') ∧ w' = w ∧ v' = v) : Does op ρv w (Post ρ M A w t0 Hr [] (.val v)) := by
  obtain ⟨v', w', hr, rfl, rfl⟩ := h
  exact does_val hs hr rfl
theorem run_binI {o : BinOp} {k : IntKind} {p q : Int} {v : Value} {T T2 : TypeId} {x y : Operand} (h : binI o k p q = some v) (hx : ρv x = .int k p) (hy : ρv y = .int k q) : ∃ v' w', (∀ z : Oper, z.op = .binOp o T x y T2 → (execOp ρv z).run Tryz.prog w = .ok (.value v') w') ∧ w' = w ∧ v' = v := by
  cases o <;> simp only [binI] at h <;> first
    | (cases h; done)
    | (cases h
       refine ⟨_, w, fun z hz => ?_, rfl, rfl⟩
       unfold execOp
       rw [hz]
       simp [go_sem, hx, hy]
       done)
    | (split at h
       · cases h
       · rename_i hb
         cases h
         have hb : q ≠ 0 := by simpa using hb
         refine ⟨_, w, fun z hz => ?_, rfl, rfl⟩
         unfold execOp
         rw [hz]
         simp [go_sem, hx, hy, hb])
theorem run_binX {o : BinOp} {k : IntKind} {p q : Int} {v : Value} {T T2 : TypeId} {x y : Operand} (h : binX o k T p q = some v) (hx : ρv x = .int k p) (hy : ρv y = .int k q) : ∃ v' w', (∀ z : Oper, z.op = .binOp o T x y T2 → (execOp ρv z).run Tryz.prog w = .ok (.value v') w') ∧ w' = w ∧ v' = v := by
  unfold binX at h
  split at h
  · split at h
    · rename_i hT
      cases h
      have hT := Nat.eq_of_beq_eq_true hT
      subst hT
      refine ⟨_, w, fun z hz => ?_, rfl, rfl⟩
      unfold execOp
      rw [hz]
      simp [go_sem, hx, hy]
    · cases h
  · split at h
    · rename_i hT
      cases h
      rw [Bool.and_eq_true, Bool.and_eq_true] at hT
      have hT1 := Nat.eq_of_beq_eq_true hT.1.1
      have h0 := of_decide_eq_true hT.1.2
      have h1 := of_decide_eq_true hT.2
      subst hT1
      refine ⟨_, w, fun z hz => ?_, rfl, rfl⟩
      unfold execOp
      rw [hz]
      simp [go_sem, hx, hy, h0, h1]
    · cases h
  · cases h
theorem vm_bin {o : BinOp} {T T2 : TypeId} {x y : Operand} (h : opBin ev o T x y T2 = some (r, R, U)) (hs : St0 ρ M A w t0 Hr) (hev : ∀ x a, ev x = some a → RV ρ M w a (ρv x)) : Does (.binOp o T x y T2) ρv w (Post ρ M A w t0 Hr U r) := by
  unfold opBin at h
  split at h
  · rename_i k p k' q ha hb
    have hva : ρv x = .int k p := hev _ _ ha
    have hvb : ρv y = .int k' q := hev _ _ hb
    split at h
    · rename_i hk
      subst hk
      split at h
      · rename_i v hv
        cases h
        exact does_yld hs (run_binI hv hva hvb)
      · cases hv : binX o k T p q with
        | none => rw [hv] at h; cases h
        | some v =>
          rw [hv] at h
          cases h
          exact does_yld hs (run_binX hv hva hvb)
    · cases h
  · rename_i p q ha hb
    have hva : ρv x = .bool p := hev _ _ ha
    have hvb : ρv y = .bool q := hev _ _ hb
    split at h
    · rename_i hT
      rw [Bool.and_eq_true] at hT
      have hT1 := Nat.eq_of_beq_eq_true hT.1
      have hT2 := Nat.eq_of_beq_eq_true hT.2
      subst hT1
      subst hT2
      split at h
      · cases h
        refine does_yld hs ⟨_, w, fun z hz => ?_, rfl, rfl⟩
        unfold execOp
        rw [hz]
        simp [go_sem, hva, hvb]
      · cases h
        refine does_yld hs ⟨_, w, fun z hz => ?_, rfl, rfl⟩
        unfold execOp
        rw [hz]
        cases p <;> cases q <;> simp [go_sem, hva, hvb]
      · cases h
    · cases h
  · rename_i a n c ha hb
    have hvb : ρv y = .slice none n c := hev _ _ hb
    unfold opNilB at h
    split at h
    · rename_i e b hd hn
      have hd : Tryz.prog.underlying T = some (.slice e) := hd
      obtain ⟨A', n', c', e1, e2⟩ := nilQ_sound hn (hev _ _ ha)
      cases h
      refine does_yld hs ⟨_, w, fun z hz => ?_, rfl, rfl⟩
      unfold execOp
      rw [hz]
      simp [eqGuard, binOp, e1, hvb, run_eqNil hd, e2]
    · rename_i e b hd hn
      have hd : Tryz.prog.underlying T = some (.slice e) := hd
      obtain ⟨A', n', c', e1, e2⟩ := nilQ_sound hn (hev _ _ ha)
      cases h
      refine does_yld hs ⟨_, w, fun z hz => ?_, rfl, rfl⟩
      unfold execOp
      rw [hz]
      simp [eqGuard, binOp, e1, hvb, run_eqNil hd, e2]
    · cases h
  · cases h
def opUn (ev : Operand → Option AV) (o : UnOp) (x : Operand) : Option (AV × List Nat × HP) := do
  match o, ← ev x with
  | .not, .val (.bool b) => some (.val (.bool (!b)), [], [])
  | .neg, .val (.int k a) => some (.val (.int k (k.wrap (-a))), [], [])
  | _, _ => none
theorem vm_un {o : UnOp} {T : TypeId} {x : Operand} (h : opUn ev o x = some (r, R, U)) (hs : St0 ρ M A w t0 Hr) (hev : ∀ x a, ev x = some a → RV ρ M w a (ρv x)) : Does (.unOp o T x) ρv w (Post ρ M A w t0 Hr U r) := by
  simp only [opUn, Option.bind_eq_bind, Option.bind_eq_some_iff] at h
  obtain ⟨a, ha, h⟩ := h
  have hva := hev _ _ ha
  split at h
  · cases h
    have hva : ρv x = .bool _ := hva
    refine does_yld hs ⟨_, w, fun z hz => ?_, rfl, rfl⟩
    unfold execOp
    rw [hz]
    simp [go_sem, hva]
  · cases h
    have hva : ρv x = .int _ _ := hva
    refine does_yld hs ⟨_, w, fun z hz => ?_, rfl, rfl⟩
    unfold execOp
    rw [hz]
    simp [go_sem, hva]
  · cases h
noncomputable def opConv (ev : Operand → Option AV) (S D : TypeId) (x : Operand) : Option (AV × List Nat × HP) := do
  let a ← ev x
  match a, tyD S, tyD D with
  | .val (.int k p), some (.int k'), some (.int k2) => if k = k' then some (.val (.int k2 (k2.wrap p)), [], []) else none
  | _, _, _ => none
def scal : AV → Bool
  | .ptr _ _ | .rptr _ | .sl _ _ _ _ | .rats _ | .row _ _ | .fn _ _ _ | .slx _ _ | .epx _ _ => true
  | .ext n ag _ => Nat.beq n 1 && !ag
  | .val v => flatV v
  | _ => false
def evs (ev : Operand → Option AV) : List Operand → Option (List AV)
  | [] => some []
  | x :: r => match ev x, evs ev r with
    | some a, some l => some (a :: l)
    | _, _ => none
theorem scal_cell {a : AV} {v : Value} (h : scal a = true) (hv : RV ρ M w a v) : Rp ρ M w a [v] := by
  cases a <;> first
    | (cases h; done)
    | exact hv
    | (have hv : v = _ := hv
       unfold Rp
       rw [hv]
       exact ⟨rfl, h⟩)
    | (rename_i n ag c
       unfold scal at h
       rw [Bool.and_eq_true, Bool.not_eq_true'] at h
       have := h.2
       subst this
       exact hv)
theorem evs_scal (hev : ∀ x a, ev x = some a → RV ρ M w a (ρv x)) : ∀ {xs : List Operand} {l : List AV}, evs ev xs = some l → l.all scal = true → Rps ρ M w l (xs.map ρv)
  | [], l, h, _ => by cases h; unfold Rps; rfl
  | x :: xs, l, h, hsc => by
    unfold evs at h
    split at h
    · rename_i a r h1 h2
      cases h
      rw [List.all_cons, Bool.and_eq_true] at hsc
      unfold Rps
      exact ⟨[ρv x], xs.map ρv, rfl, scal_cell hsc.1 (hev _ _ h1), evs_scal hev h2 hsc.2⟩
    · cases h
def opFn (ev : Operand → Option AV) (f : Fn) (xs ys : List Operand) : Option (AV × List Nat × HP) := match f, evs ev xs, evs ev ys with
  | .func f, some a, some b => if a.all scal && b.all scal then some (.fn f a b, [], []) else none
  | _, _, _ => none
theorem vm_fn {f : Fn} {xs ys : Array Operand} (h : opFn ev f xs.toList ys.toList = some (r, R, U)) (hs : St0 ρ M A w t0 Hr) (hev : ∀ x a, ev x = some a → RV ρ M w a (ρv x)) : Does (.makeFunc f xs ys) ρv w (Post ρ M A w t0 Hr U r) := by
  unfold opFn at h
  split at h
  · rename_i f a b ha hb
    split at h
    · rename_i hc
      cases h
      rw [Bool.and_eq_true] at hc
      refine does_val (v := .func (.func f) (xs.map ρv) (ys.map ρv)) hs (fun o ho => by unfold execOp; rw [ho]; rfl) ?_
      show Rp ρ M w (.fn f a b) [_]
      unfold Rp
      exact ⟨_, _, rfl, by simpa using evs_scal hev ha hc.1, by simpa using evs_scal hev hb hc.2⟩
    · cases h
  · cases h
theorem part_sound {T : TypeId} {z off : Nat} {l l1 l2 : List AV} {cs : Array Value} (hz : tySz T = some z) (h1 : dropC off l = some l1) (h2 : takeC z l1 = some l2) (hm : mkT T l2 = some r) (hl : Rps ρ M w l cs.toList) :
    ∃ v, (part T cs off).run Tryz.prog w = .ok v w ∧ RV1 ρ M w r v := by
  obtain ⟨d1, e1⟩ := Rps.drop h1 hl
  obtain ⟨d2, e2⟩ := Rps.take h2 e1
  have hex : (cs.extract off (off + z)).toList = (cs.toList.drop off).take z := by
    rw [Array.toList_extract, List.extract_eq_take_drop, Nat.add_sub_cancel_left]
  unfold mkT at hm
  split at hm
  · cases hm
  · rename_i d hd
    have hd : Tryz.prog.underlying T = some d := hd
    split at hm
    · rename_i hrow
      cases hm
      have hagg : (isAgg T).run Tryz.prog w = .ok true w := by
        unfold isAgg
        rw [Sem.run_bind, run_underlying hd w]
        cases d <;> simp_all
      refine ⟨.agg (cs.extract off (off + z)), ?_, ?_⟩
      · unfold tySz at hz
        cases hi : Tryz.prog.info? T with
        | none => rw [hi] at hz; cases hz
        | some i =>
          rw [hi] at hz
          have hz : i.size = z := by simpa using hz
          simp [part, hagg, sizeOf, typeInfo, hi, hz]
      · have := packL_sound e2
        rw [← hex, Array.toArray_toList] at this
        exact this
    · rename_i hrow
      obtain ⟨v, e, hv⟩ := oneL_sound hm e2
      have hagg : (isAgg T).run Tryz.prog w = .ok false w := by
        unfold isAgg
        rw [Sem.run_bind, run_underlying hd w]
        cases d <;> simp_all
      have hc : cs[off]? = some v := by
        have : ((cs.toList.drop off).take z)[0]? = some v := by rw [e]; rfl
        rw [List.getElem?_take] at this
        split at this
        · rw [List.getElem?_drop] at this
          simpa using this
        · cases this
      exact ⟨v, by simp [part, hagg, hc], hv⟩
def aggL : AV → Option (List AV)
  | .agg l => some l
  | .rat q => some [.rat q]
  | .num z => some [.num z]
  | _ => none
theorem aggL_sound {a : AV} {l : List AV} {v : Value} (h : aggL a = some l) (hv : RV ρ M w a v) : ∃ cs, v = .agg cs ∧ Rps ρ M w l cs.toList := by
  unfold aggL at h
  split at h
  · cases h; exact hv
  · cases h
    obtain ⟨cs, e, hc⟩ := hv
    exact ⟨cs, e, Rps.one hc⟩
  · cases h
    obtain ⟨cs, e, hc⟩ := hv
    exact ⟨cs, e, Rps.one hc⟩
  · cases h
noncomputable def opFieldV (ev : Operand → Option AV) (S : TypeId) (x : Operand) (k : Nat) : Option (AV × List Nat × HP) := do
  let a ← ev x
  let l ← aggL a
  let d ← tyD S
  let f ← (match d with | .struct fs => fs[k]? | _ => none)
  let z ← tySz f.type
  let l1 ← dropC f.offset l
  let l2 ← takeC z l1
  let r ← mkT f.type l2
  pure (r, [], [])
theorem vm_fieldV {S : TypeId} {x : Operand} {k : Nat} (h : opFieldV ev S x k = some (r, R, U)) (hs : St0 ρ M A w t0 Hr) (hev : ∀ x a, ev x = some a → RV ρ M w a (ρv x)) : Does (.field S x k) ρv w (Post ρ M A w t0 Hr U r) := by
  simp only [opFieldV, Option.bind_eq_bind, Option.bind_eq_some_iff, Option.pure_def, Option.some.injEq, Prod.mk.injEq] at h
  obtain ⟨a, ha, l, hl, d, hd, f, hf, z, hz, l1, h1, l2, h2, r', hm, rfl, rfl, rfl⟩ := h
  have hva := hev _ _ ha
  have hx := aggL_sound hl hva
  obtain ⟨cs, e, hc⟩ := hx
  have hf' : ∃ fs, d = .struct fs ∧ fs[k]? = some f := by
    cases d <;> first | (cases hf; done) | exact ⟨_, rfl, hf⟩
  obtain ⟨fs, rfl, hf⟩ := hf'
  have hd : Tryz.prog.underlying S = some (.struct fs) := hd
  obtain ⟨v, hrun, hv⟩ := part_sound hz h1 h2 hm hc
  refine does_val (v := v) hs (fun o ho => ?_) hv.rv
  unfold execOp
  rw [ho]
  show Sem.run _ (Instr.field S (ρv x) k >>= fun x => pure (Next.value x)) w = _
  rw [e]
  refine run_v ?_
  simp [Instr.field, Sem.run_bind, run_underlying hd, hf, asAgg, hrun]
end
end Go.Proofs.YtgaehhapjnbieaaGreat
namespace Go.Proofs.YtgaehhapjnbieaaGreat
open Go.RowKit
variable [Env]
theorem foldl_set : ∀ (xs : List Value) (k off : Nat) (cells : Array Value), off + k + xs.length ≤ cells.size → (xs.zipIdx k).foldl (fun cs x => cs.setIfInBounds (off + x.2) x.1) cells = (cells.toList.take (off + k) ++ xs ++ cells.toList.drop (off + k + xs.length)).toArray
  | [], k, off, cells, _ => by simp
  | v :: rest, k, off, cells, h => by
    rw [List.zipIdx_cons, List.foldl_cons, foldl_set rest (k + 1) off _ (by simp at h ⊢; omega)]
    have e := list_seg_step cells.toList (off + k) v rest (by simp at h ⊢; omega)
    congr 1
    simpa [Array.toList_setIfInBounds, Nat.add_assoc] using e
def repL {α : Type} (n : Nat) (l : List α) : List α := match n with
  | 0 => []
  | n + 1 => l ++ repL n l
theorem repL_succ' {α : Type} (l : List α) : ∀ n, repL (n + 1) l = repL n l ++ l
  | 0 => by simp [repL]
  | n + 1 => by
    show l ++ repL (n + 1) l = (l ++ repL n l) ++ l
    rw [repL_succ' l n, List.append_assoc]
theorem made_list (z : Array Value) : ∀ n, (madeCells z (n * z.size)).toList = repL n z.toList
  | 0 => by simp [madeCells, repL]
  | n + 1 => by
    rw [repL_succ', ← made_list z n]
    simp only [madeCells, Array.toList_map, Array.toList_range]
    rw [Nat.add_mul, Nat.one_mul, List.range_add, List.map_append, List.map_map]
    congr 1
    apply List.ext_getElem?
    intro j
    rw [List.getElem?_map]
    by_cases hj : j < z.size
    · have h1 : (n * z.size + j) % z.size = j := by rw [Nat.mul_comm, Nat.mul_add_mod, Nat.mod_eq_of_lt hj]
      simp [List.getElem?_range, hj, h1]
    · simp [List.getElem?_range, hj]
section
variable {ρ : Rho} {M A : Nat → Prop} {w : World} {t0 : Nat} {Hr : Nat → Option OB} {H : HP} {ev : Operand → Option AV} {ρv : Operand → Value} {r : AV} {R : List Nat} {U : HP} {op : Op}
theorem rps_rep {l : List AV} {cs : List Value} (h : Rps ρ M w l cs) : ∀ n, Rps ρ M w (repL n l) (repL n cs)
  | 0 => by unfold repL Rps; rfl
  | n + 1 => h.app (rps_rep h n)
theorem Rps.setAt {l l1 l2 xs : List AV} {off n : Nat} {cs ys : List Value} (h : Rps ρ M w l cs) (h1 : takeC off l = some l1) (h2 : dropC (off + n) l = some l2) (hx : Rps ρ M w xs ys) (hn : szs xs = n) : off + ys.length ≤ cs.length ∧ ys.length = n ∧ Rps ρ M w (l1 ++ xs ++ l2) (cs.take off ++ ys ++ cs.drop (off + ys.length)) := by
  have hl : ys.length = n := hx.len.trans hn
  obtain ⟨_, k1⟩ := Rps.take h1 h
  obtain ⟨b2, k2⟩ := Rps.drop h2 h
  exact ⟨by omega, hl, by rw [hl]; exact (k1.app hx).app k2⟩
def fillL (pl : Nat → Option (Nat × Nat)) : List (Nat × AV) → List AV → Option (List AV)
  | [], l => some l
  | (i, a) :: r, l => match pl i, leavesT a with
    | some (off, z), some xs => if Nat.beq (szs xs) z then (match takeC off l, dropC (off + z) l with
      | some l1, some l2 => fillL pl r (l1 ++ xs ++ l2)
      | _, _ => none) else none
    | _, _ => none
def RVp (ρ : Rho) (M : Nat → Prop) (w : World) : List (Nat × AV) → List (Nat × Value) → Prop
  | [], vs => vs = []
  | x :: l, vs => ∃ v r, vs = (x.1, v) :: r ∧ RV ρ M w x.2 v ∧ RVp ρ M w l r
theorem fill_sound {pl : Nat → Option (Nat × Nat)} : ∀ {ps : List (Nat × AV)} {vs : List (Nat × Value)} {l l' : List AV} {cells : Array Value}, fillL pl ps l = some l' → RVp ρ M w ps vs → Rps ρ M w l cells.toList → ∃ cells', Instr.fill pl cells vs = some cells' ∧ Rps ρ M w l' cells'.toList
  | [], vs, l, l', cells, h, hv, hl => by
    cases h
    have hv : vs = [] := hv
    subst hv
    exact ⟨cells, rfl, hl⟩
  | (i, a) :: ps, vs, l, l', cells, h, hv, hl => by
    obtain ⟨v, vr, rfl, hv1, hv2⟩ := hv
    unfold fillL at h
    split at h
    · rename_i off z xs hp hx
      split at h
      · rename_i hz
        split at h
        · rename_i l1 l2 h1 h2
          have hxs := leavesT_sound hx hv1
          obtain ⟨b1, b2, k⟩ := hl.setAt h1 h2 hxs (Nat.eq_of_beq_eq_true hz)
          have b1 : off + v.cells.size ≤ cells.size := by simpa using b1
          have b2 : v.cells.size = z := by simpa using b2
          have hf : v.cells.zipIdx.foldl (fun cs x => cs.setIfInBounds (off + x.2) x.1) cells = (cells.toList.take off ++ v.cells.toList ++ cells.toList.drop (off + v.cells.toList.length)).toArray := by
            rw [← Array.foldl_toList, Array.toList_zipIdx]
            have := foldl_set v.cells.toList 0 off cells (by simpa using b1)
            simpa using this
          obtain ⟨cells', e, k'⟩ := fill_sound (cells := (cells.toList.take off ++ v.cells.toList ++ cells.toList.drop (off + v.cells.toList.length)).toArray) h hv2 (by simpa using k)
          refine ⟨cells', ?_, k'⟩
          unfold Instr.fill
          simp only [hp]
          rw [if_neg (by simp [b2]; omega)]
          rw [← hf] at e
          exact e
        · cases h
      · cases h
    · cases h
def evp (ev : Operand → Option AV) : List (Nat × Operand) → Option (List (Nat × AV))
  | [] => some []
  | x :: r => match ev x.2, evp ev r with
    | some a, some l => some ((x.1, a) :: l)
    | _, _ => none
theorem evp_sound (hev : ∀ x a, ev x = some a → RV ρ M w a (ρv x)) : ∀ {xs : List (Nat × Operand)} {l : List (Nat × AV)}, evp ev xs = some l → RVp ρ M w l (xs.map fun x => (x.1, ρv x.2))
  | [], l, h => by cases h; exact rfl
  | x :: xs, l, h => by
    unfold evp at h
    split at h
    · rename_i a r h1 h2
      cases h
      exact ⟨ρv x.2, _, rfl, hev _ _ h1, evp_sound hev h2⟩
    · cases h
noncomputable def plcOf (T : TypeId) : Option (Nat → Option (Nat × Nat)) := match tyD T with
  | some (.array _ e) => (Tryz.prog.info? e).map fun ie => fun i => some (i * ie.size, ie.size)
  | some (.struct fs) => (fs.toList.mapM (fun f => (Tryz.prog.info? f.type).map fun i => (f.offset, i.size))).map fun places => fun i => places.toArray[i]?
  | _ => none
noncomputable def opBuild (ev : Operand → Option AV) (T : TypeId) (ps : List (Nat × Operand)) : Option (AV × List Nat × HP) := do
  let l ← evp ev ps
  let z ← tyZero T
  let pl ← plcOf T
  let l' ← fillL pl l z
  pure (packL l', [], [])
theorem vm_build {T : TypeId} {ps : Array (Nat × Operand)} (h : opBuild ev T ps.toList = some (r, R, U)) (hs : St0 ρ M A w t0 Hr) (hev : ∀ x a, ev x = some a → RV ρ M w a (ρv x)) : Does (.build T ps) ρv w (Post ρ M A w t0 Hr U r) := by
  simp only [opBuild, Option.bind_eq_bind, Option.bind_eq_some_iff, Option.pure_def, Option.some.injEq, Prod.mk.injEq] at h
  obtain ⟨l, hl, z, hz, pl, hp, l', hf, rfl, rfl, rfl⟩ := h
  obtain ⟨i, zv, hi, hzv, hr⟩ := tyZero_sound (ρ := ρ) (M := M) (w := w) hz
  obtain ⟨cells', hc, hk⟩ := fill_sound hf (evp_sound hev hl) hr
  have hb : Tryz.prog.built T (ps.toList.map fun x => (x.1, ρv x.2)) = some cells' := by
    unfold Program.built
    unfold plcOf tyD at hp
    split at hp
    · rename_i n e hd
      simp only [hi, hd, hzv]
      cases hie : Tryz.prog.info? e with
      | none => rw [hie] at hp; cases hp
      | some ie => rw [hie] at hp; cases hp; exact hc
    · rename_i fs hd
      simp only [hi, hd, hzv]
      cases hm : fs.toList.mapM (fun f => (Tryz.prog.info? f.type).map fun i => (f.offset, i.size)) with
      | none => rw [hm] at hp; cases hp
      | some places => rw [hm] at hp; cases hp; exact hc
    · cases hp
  have hkk := packL_sound hk
  rw [Array.toArray_toList] at hkk
  refine does_val (v := .agg cells') hs (fun o ho => ?_) hkk.rv
  unfold execOp
  rw [ho]
  show Sem.run _ (Instr.build T (ps.map fun x => (x.1, ρv x.2)) >>= fun x => pure (Next.value x)) w = _
  exact run_v (run_build w T _ cells' (by rw [Array.toList_map]; exact hb))
noncomputable def opAlloc (t0 : Nat) (T : TypeId) : Option (AV × List Nat × HP) := match tyZero T with
  | some l => if tyOk T then some (.ptr t0 0, [], [(t0, some ⟨T, 1, l, false, none⟩)]) else none
  | none => none
theorem rv_ptr {ρ' : Rho} {M' : Nat → Prop} {w' : World} {g c o : Nat} (h : ρ' o = some (g, c)) : RV ρ' M' w' (.ptr o 0) (.pointer (some ⟨g, 0, none⟩)) := by
  show Rp ρ' M' w' (.ptr o 0) [_]
  unfold Rp
  exact ⟨g, c, h, rfl⟩
theorem vm_alloc {T : TypeId} (h : opAlloc t0 T = some (r, R, U)) (hs : St0 ρ M A w t0 Hr) : Does (.alloc T) ρv w (Post ρ M A w t0 Hr U r) := by
  unfold opAlloc at h
  split at h
  · rename_i l hl
    split at h
    · rename_i hT
      cases h
      obtain ⟨i, z, hi, hz, hr⟩ := tyZero_sound (ρ := ρ) (M := M) (w := w) hl
      refine does_new 0 hs (tyOk_sound hT) hr (v := .pointer (some ⟨w.heap.size, 0, none⟩)) (fun o ho => ?_) fun ρ' M' w' e => rv_ptr e
      unfold execOp
      rw [ho]
      simp [Instr.alloc, zeroValue, typeInfo, hi, hz, newVar, newRow]
    · cases h
  · cases h
noncomputable def opBox (ev : Operand → Option AV) (t0 : Nat) (T : TypeId) (x : Operand) : Option (AV × List Nat × HP) := match ev x with
  | some a => match leavesT a with
    | some l => if tyOk T then some (.ptr t0 0, [], [(t0, some ⟨T, 1, l, false, none⟩)]) else none
    | none => none
  | none => none
theorem vm_box {T : TypeId} {x : Operand} (h : opBox ev t0 T x = some (r, R, U)) (hs : St0 ρ M A w t0 Hr) (hev : ∀ x a, ev x = some a → RV ρ M w a (ρv x)) : Does (.box T x) ρv w (Post ρ M A w t0 Hr U r) := by
  unfold opBox at h
  split at h
  · rename_i a ha
    split at h
    · rename_i l hl
      split at h
      · rename_i hT
        cases h
        refine does_new 0 hs (tyOk_sound hT) (leavesT_sound hl (hev _ _ ha)) (v := .pointer (some ⟨w.heap.size, 0, none⟩)) (fun o ho => ?_) fun ρ' M' w' e => rv_ptr e
        unfold execOp
        rw [ho]
        simp [Instr.box, newVar, newRow]
      · cases h
    · cases h
  · cases h
theorem rv_sl {ρ' : Rho} {M' : Nat → Prop} {w' : World} {g c o len k : Nat} (h : ρ' o = some (g, c)) (hk : len ≤ k) : RV ρ' M' w' (.sl o 0 len (some k)) (.slice (some ⟨g, 0, none⟩) len k) := by
  show Rp ρ' M' w' (.sl o 0 len (some k)) [_]
  unfold Rp
  exact ⟨g, c, k, h, rfl, hk, fun n e => Option.some.inj e, fun e => by cases e⟩
noncomputable def tyBytes (T : TypeId) : Option Nat := (Tryz.prog.info? T).map (·.bytes)
noncomputable def opMake (ev : Operand → Option AV) (t0 : Nat) (T : TypeId) (x y : Operand) : Option (AV × List Nat × HP) := match ev x, ev y, tyD T with
  | some (.val (.int _ n)), some (.val (.int _ c)), some (.slice e) => match tyZero e, tySz e, tyBytes e with
    | some z, some k, some b => if tyOk e && decide (0 ≤ n) && decide (n ≤ c) && decide (c ≤ 1048576) && decide (b ≤ 1048576) && Nat.beq (szs z) k then some (.sl t0 0 n.toNat (some c.toNat), [], [(t0, some ⟨e, k, repL c.toNat z, false, none⟩)]) else none
    | _, _, _ => none
  | _, _, _ => none
theorem vm_make {T : TypeId} {x y : Operand} (h : opMake ev t0 T x y = some (r, R, U)) (hs : St0 ρ M A w t0 Hr) (hev : ∀ x a, ev x = some a → RV ρ M w a (ρv x)) : Does (.makeSlice T x y) ρv w (Post ρ M A w t0 Hr U r) := by
  unfold opMake at h
  split at h
  · rename_i k1 n k2 c e hx hy hd
    have hvx : ρv x = .int k1 n := hev _ _ hx
    have hvy : ρv y = .int k2 c := hev _ _ hy
    have hd : Tryz.prog.underlying T = some (.slice e) := hd
    split at h
    · rename_i z k b hz hk hb
      split at h
      · rename_i hc
        cases h
        simp only [Bool.and_eq_true, decide_eq_true_eq] at hc
        obtain ⟨⟨⟨⟨⟨hT, h0⟩, h1⟩, h2⟩, h3⟩, h4⟩ := hc
        obtain ⟨i, zv, hi, hzv, hr⟩ := tyZero_sound (ρ := ρ) (M := M) (w := w) hz
        have hk : i.size = k := by
          unfold tySz at hk
          rw [hi] at hk
          exact Option.some.inj hk
        have hb : i.bytes = b := by
          unfold tyBytes at hb
          rw [hi] at hb
          exact Option.some.inj hb
        have hzk : zv.cells.size = i.size := by
          have := hr.len
          rw [Nat.eq_of_beq_eq_true h4] at this
          rw [hk]
          simpa using this
        have hbc : (i.bytes : Int) * c ≤ 281474976710656 := by
          have h5 : (i.bytes : Int) ≤ 1048576 := by omega
          calc (i.bytes : Int) * c ≤ 1048576 * 1048576 := Int.mul_le_mul h5 h2 (by omega) (by omega)
            _ ≤ 281474976710656 := by decide
        have hrun := run_make (P := Tryz.prog) w T e i zv hd hi hzv k1 k2 n c h0 h1 hbc (by omega)
        refine does_new 0 hs (tyOk_sound hT) (l := repL c.toNat z) (arr := madeCells zv.cells (c.toNat * i.size)) ?_ (v := .slice (some ⟨w.heap.size, 0, none⟩) n.toNat c.toNat) (fun o ho => ?_) fun ρ' M' w' e => rv_sl e (by omega)
        · rw [← hzk, made_list]
          exact rps_rep hr _
        · unfold execOp
          rw [ho]
          show Sem.run _ (Instr.makeSlice T (ρv x) (ρv y) >>= fun x => pure (Next.value x)) w = _
          rw [hvx, hvy]
          exact run_v hrun
      · cases h
    · cases h
  · cases h
noncomputable def opLit (ev : Operand → Option AV) (t0 : Nat) (T : TypeId) (n : Nat) (ps : List (Nat × Operand)) : Option (AV × List Nat × HP) := match tyD T, evp ev ps with
  | some (.slice e), some l => match tyZero e, tySz e with
    | some z, some k => if tyOk e && Nat.beq (szs z) k && !(Nat.beq k 0) && Nat.ble n 4096 && Nat.ble k 256 then (match n with
      | 0 => match l with
        | [] => some (.sl t0 0 0 (some 0), [], [(t0, some ⟨e, k, [], false, none⟩)])
        | _ => none
      | n + 1 => (fillL (fun i => some (i * k, k)) l (repL (n + 1) z)).map fun l' => (.sl t0 0 (n + 1) (some (n + 1)), [], [(t0, some ⟨e, k, l', false, none⟩)])) else none
    | _, _ => none
  | _, _ => none
theorem lit_run {T : TypeId} {n : Nat} {ps : Array (Nat × Operand)} (h : opLit ev t0 T n ps.toList = some (r, R, U)) (hev : ∀ x a, ev x = some a → RV ρ M w a (ρv x)) : ∃ (e : TypeId) (k : Nat) (l' : List AV) (arr : Array Value), r = .sl t0 0 n (some n) ∧ U = [(t0, some ⟨e, k, l', false, none⟩)] ∧ tyOk e = true ∧ Rps ρ M w l' arr.toList ∧
    ∀ o : Oper, o.op = .buildSlice T n ps → (execOp ρv o).run Tryz.prog w = .ok (.value (.slice (some ⟨w.heap.size, 0, none⟩) n n)) (w.alloc (.cells arr e)) := by
  unfold opLit at h
  split at h
  · rename_i e l hd hl
    have hd : Tryz.prog.underlying T = some (.slice e) := hd
    have hev' := evp_sound hev hl
    split at h
    · rename_i z k hz hk
      split at h
      · rename_i hc
        simp only [Bool.and_eq_true, Bool.not_eq_true', Nat.ble_eq] at hc
        obtain ⟨⟨⟨⟨hT, h1⟩, h2⟩, h3⟩, h4⟩ := hc
        have h1 : szs z = k := by simpa using h1
        have h2 : k ≠ 0 := by rintro rfl; simp at h2
        have h3 : n ≤ 4096 := h3
        have h4 : k ≤ 256 := h4
        obtain ⟨i, zv, hi, hzv, hr⟩ := tyZero_sound (ρ := ρ) (M := M) (w := w) hz
        have hk : i.size = k := by
          unfold tySz at hk
          rw [hi] at hk
          exact Option.some.inj hk
        have hzk : zv.cells.size = i.size := by
          have := hr.len
          rw [h1] at this
          rw [hk]
          simpa using this
        match n, h3, h with
        | 0, _, h =>
          simp only [] at h
          split at h
          · cases h
            have hps : ps = #[] := by
              have : (ps.toList.map fun x => (x.1, ρv x.2)) = [] := hev'
              have := List.map_eq_nil_iff.1 this
              exact Array.toList_eq_nil_iff.1 this
            subst hps
            refine ⟨e, k, [], #[], rfl, rfl, hT, (by unfold Rps; rfl), fun o ho => ?_⟩
            unfold execOp
            rw [ho]
            simp [Instr.buildSlice, Sem.run_bind, run_underlying hd, sizeOf, typeInfo, hi, Instr.fill, newRow, Array.range_zero']
          · cases h
        | n + 1, h3, h =>
          simp only [] at h
          cases hf : fillL (fun i => some (i * k, k)) l (repL (n + 1) z) with
          | none => rw [hf] at h; cases h
          | some l' =>
            rw [hf] at h
            cases h
            have hmk : madeCells zv.cells ((n + 1) * i.size) = (Array.range ((n + 1) * i.size)).map (zv.cells[· % zv.cells.size]!) := rfl
            obtain ⟨cells', hc, hk'⟩ := fill_sound (cells := madeCells zv.cells ((n + 1) * i.size)) hf hev' (by rw [← hzk, made_list]; exact rps_rep hr _)
            have hle : (n + 1) * i.size ≤ 4096 * 256 := Nat.mul_le_mul h3 (by omega)
            have hrun := run_buildSlice (P := Tryz.prog) w T e (n + 1) (ps.map fun x => (x.1, ρv x.2)) cells' i zv hd hi hzv (by omega) (by rw [hk]; exact Nat.mul_ne_zero (by omega) h2) (by rw [Array.toList_map, hk, ← hk, ← hmk, hk]; exact hk ▸ hc)
            refine ⟨e, k, l', cells', rfl, rfl, hT, hk', fun o ho => ?_⟩
            unfold execOp
            rw [ho]
            show Sem.run _ (Instr.buildSlice T (n + 1) (ps.map fun x => (x.1, ρv x.2)) >>= fun x => pure (Next.value x)) w = _
            exact run_v hrun
      · cases h
    · cases h
  · cases h
theorem vm_lit {T : TypeId} {n : Nat} {ps : Array (Nat × Operand)} (h : opLit ev t0 T n ps.toList = some (r, R, U)) (hs : St0 ρ M A w t0 Hr) (hev : ∀ x a, ev x = some a → RV ρ M w a (ρv x)) : Does (.buildSlice T n ps) ρv w (Post ρ M A w t0 Hr U r) := by
  obtain ⟨e, k, l', arr, rfl, rfl, hT, hl, hrun⟩ := lit_run h hev
  exact does_new n hs (tyOk_sound hT) hl hrun fun ρ' M' w' e => rv_sl e (Nat.le_refl _)
theorem rp_one : ∀ {a : AV} {cs : List Value}, Rp ρ M w a cs → ∀ v ∈ cs, v.oneCell' = true := by
  intro a cs h v hv
  have int2 : ∀ {x y : Value} {z : Int}, IntAt w (.agg #[x, y]) z → x.oneCell' = true ∧ y.oneCell' = true := fun {x y z} i => by
    obtain ⟨s, e, A', c, e2, _⟩ := i
    simp only [Value.agg.injEq] at e
    have e := congrArg Array.toList e
    simp only [List.cons.injEq] at e
    rw [e.1, e.2.1, e2]
    exact ⟨rfl, rfl⟩
  cases a <;> unfold Rp at h <;> first
    | exact h.elim
    | (obtain ⟨rfl, hf⟩ := h
       rw [List.mem_singleton] at hv
       subst hv
       unfold flatV at hf
       split at hf <;> first | rfl | cases hf)
    | (obtain ⟨x, y, rfl, i⟩ := h
       have := int2 i
       simp only [List.mem_cons, List.not_mem_nil, or_false] at hv
       rcases hv with rfl | rfl
       · exact this.1
       · exact this.2)
    | (obtain ⟨x, y, x2, y2, rfl, i, j⟩ := h
       have h1 := int2 i
       have h2 := int2 j
       simp only [List.mem_cons, List.not_mem_nil, or_false] at hv
       rcases hv with rfl | rfl | rfl | rfl
       · exact h1.1
       · exact h1.2
       · exact h2.1
       · exact h2.2)
    | exact (Env.X _).one _ _ _ h.2 v hv
    | (obtain ⟨_, _, rfl, _⟩ := h; rw [List.mem_singleton] at hv; subst hv; rfl)
    | (obtain ⟨_, _, _, rfl, _⟩ := h; rw [List.mem_singleton] at hv; subst hv; rfl)
    | (obtain ⟨_, _, _, _, rfl, _⟩ := h; rw [List.mem_singleton] at hv; subst hv; rfl)
    | (obtain ⟨_, _, _, rfl⟩ := h; rw [List.mem_singleton] at hv; subst hv; rfl)
theorem rps_one : ∀ {l : List AV} {cs : List Value}, Rps ρ M w l cs → ∀ v ∈ cs, v.oneCell' = true
  | [], _, h, v, hv => by unfold Rps at h; subst h; cases hv
  | _ :: _, _, h, v, hv => by
    unfold Rps at h
    obtain ⟨x, y, rfl, h1, h2⟩ := h
    rcases List.mem_append.1 hv with hv | hv
    · exact rp_one h1 v hv
    · exact rps_one h2 v hv
noncomputable def opStore (H : HP) (ev : Operand → Option AV) (T : TypeId) (x y : Operand) : Option (AV × List Nat × HP) := match ev x, ev y with
  | some (.ptr o off), some a => match lk H o, tySz T, leavesT a with
    | some b, some n, some xs => if b.bl.isNone && Nat.beq (szs xs) n then (match takeC off b.cs, dropC (off + n) b.cs with
      | some l1, some l2 => some (.val undef, [o], [(o, some { b with cs := l1 ++ xs ++ l2 })])
      | _, _ => none) else none
    | _, _, _ => none
  | _, _ => none
theorem vm_store {T : TypeId} {x y : Operand} (h : opStore H ev T x y = some (r, R, U)) (hs : St0 ρ M A w t0 Hr) (hag : ∀ o ∈ R, Hr o = lk H o) (hev : ∀ x a, ev x = some a → RV ρ M w a (ρv x)) : Does (.store T x y) ρv w (Post ρ M A w t0 Hr U r) := by
  unfold opStore at h
  split at h
  · rename_i o off a hx hy
    split at h
    · rename_i b n xs hb hn hxs
      split at h
      · rename_i hz
        rw [Bool.and_eq_true] at hz
        have hbn : b.bl = none := by simpa using hz.1
        have hz := hz.2
        split at h
        · rename_i l1 l2 h1 h2
          cases h
          have hbr : Hr o = some b := (hag o (by simp)).trans hb
          obtain ⟨g, c, arr, cs, k⟩ := hs.heap.obj o b hbr
          have hv : Rp ρ M w (.ptr o off) [ρv x] := hev _ _ hx
          unfold Rp at hv
          obtain ⟨g', c', e1, e2⟩ := hv
          rw [k.at_] at e1
          simp only [Option.some.injEq, Prod.mk.injEq] at e1
          have hpx : ρv x = .pointer (some ⟨g, off, none⟩) := by rw [e1.1]; exact (List.cons.inj e2).1
          have hl := leavesT_sound hxs (hev _ _ hy)
          obtain ⟨b1, b2, kk⟩ := (k.cells.rps hbn).setAt h1 h2 hl (Nat.eq_of_beq_eq_true hz)
          obtain ⟨tl, he, ht⟩ := k.pre
          have hsz : arr.size = cs.length + tl.length := by rw [← List.length_append, ← he]; simp
          have hrun : (Instr.storeAt T (.pointer (some ⟨g, off, none⟩)) (ρv y)).run Tryz.prog w = .ok () (w.setRow g (arr.toList.take off ++ (ρv y).cells.toList ++ arr.toList.drop (off + (ρv y).cells.toList.length)).toArray) := by
            have := run_storeCells_at Tryz.prog g off b.ty (ρv y).cells.toList 0 arr w k.blk (by omega) (rps_one hl)
            simp only [Nat.add_zero] at this
            unfold tySz at hn
            cases hi : Tryz.prog.info? T with
            | none => rw [hi] at hn; cases hn
            | some i =>
              rw [hi] at hn
              have hn : i.size = n := by simpa using hn
              have hs' : (ρv y).cells.size = i.size := by rw [hn]; simpa using b2
              simp [Instr.storeAt, Instr.sureAddr, storeVar, Sem.run_bind, sizeOf, typeInfo, hi, hs', this]
          intro o' ho'
          have hex : (execOp ρv o').run Tryz.prog w = .ok .skip (w.setRow g (arr.toList.take off ++ (ρv y).cells.toList ++ arr.toList.drop (off + (ρv y).cells.toList.length)).toArray) := by
            unfold execOp
            rw [ho']
            show Sem.run _ (Instr.storeAt T (ρv x) (ρv y) >>= fun _ => pure Next.skip) w = _
            rw [hpx]
            exact run_u hrun
          rw [hex]
          refine post_set hs hbr hbn k kk ⟨tl, ?_, ht⟩ ?_ o false (.inl ⟨rfl, rfl⟩) _ _ fun _ _ _ _ _ => rfl
          · rw [he, List.take_append_of_le_length (by omega), List.drop_append_of_le_length (by omega)]
            simp
          · simp only [List.size_toArray, List.length_append, List.length_take, List.length_drop, Array.length_toList]
            have : (ρv y).cells.toList.length = (ρv y).cells.size := by simp
            omega
        · cases h
      · cases h
    · cases h
  · cases h
end
end Go.Proofs.YtgaehhapjnbieaaGreat
