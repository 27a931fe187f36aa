/- An abstract machine: slices of slices, lengths, append. -/
import Derived.Test.YtgaehhapjnbieaaGreatqVd
set_option linter.unusedSectionVars false
set_option linter.unusedVariables false
set_option linter.unusedSimpArgs false
namespace Go.Proofs.YtgaehhapjnbieaaGreat
open Go.RowKit
variable [Env]
section
variable {ρ : Rho} {M A : Nat → Prop} {w : World} {t0 : Nat} {Hr : Nat → Option OB} {H : HP} {ev : Operand → Option AV} {ρv : Operand → Value} {r : AV} {R : List Nat} {U : HP} {op : Op}
def mOk (h n : Nat) : Option Nat → Bool
  | none => Nat.ble h n
  | some m => Nat.ble h m && Nat.ble m n
theorem mOk_sound {h n : Nat} {m : Option Nat} (k : mOk h n m = true) : h ≤ n ∧ ∀ x, m = some x → h ≤ x ∧ x ≤ n := by
  cases m with
  | none => exact ⟨Nat.le_of_ble_eq_true k, fun x e => by cases e⟩
  | some m =>
    unfold mOk at k
    rw [Bool.and_eq_true] at k
    have k1 := Nat.le_of_ble_eq_true k.1
    have k2 := Nat.le_of_ble_eq_true k.2
    exact ⟨by omega, fun x e => by cases e; exact ⟨k1, k2⟩⟩
def cutC (cap m : Option Nat) : Option Nat := match m with
  | none => cap
  | some m => some m
def cutA (a : AV) (h : Nat) (m : Option Nat) : Option AV := match a with
  | .sl o off len cap => if mOk h len m then some (.sl o off h (cutC cap m)) else none
  | .rats l => if mOk h l.length m then some (.rats (l.take h)) else none
  | .row n l => if mOk h n m then some (.row h l) else none
  | .val (.slice none 0 0) => if mOk h 0 m then some (.val (.slice none 0 0)) else none
  | _ => none
theorem RatCells.take : ∀ {l : List Rat} {cs : List Value} (n : Nat), RatCells w l cs → RatCells w (l.take n) (cs.take (4 * n))
  | _, _, 0, _ => by simp [RatCells]
  | [], _, n + 1, h => by unfold RatCells at h; subst h; simp [RatCells]
  | q :: l, _, n + 1, h => by
    unfold RatCells at h
    obtain ⟨a, b, c, d, r, rfl, h1, h2, h3⟩ := h
    rw [List.take_succ_cons, show 4 * (n + 1) = 4 * n + 1 + 1 + 1 + 1 by omega, List.take_succ_cons, List.take_succ_cons, List.take_succ_cons, List.take_succ_cons]
    exact ⟨a, b, c, d, _, rfl, h1, h2, RatCells.take n h3⟩
theorem cutA_sound {a : AV} {h : Nat} {m : Option Nat} (hc : cutA a h m = some r) {v : Value} (hv : RV ρ M w a v) : ∃ Ad n c, v = .slice Ad n c ∧ h ≤ n ∧ n ≤ c ∧ (∀ x, m = some x → h ≤ x ∧ x ≤ n) ∧ RV ρ M w r (.slice Ad h (m.getD c)) := by
  unfold cutA at hc
  split at hc
  · rename_i o off len cap
    split at hc
    · rename_i hm
      obtain ⟨m1, m2⟩ := mOk_sound hm
      cases hc
      have hv : Rp ρ M w (.sl o off len cap) [v] := hv
      unfold Rp at hv
      obtain ⟨g, c, k, e1, e2, e3, e4, e5⟩ := hv
      refine ⟨_, len, k, (List.cons.inj e2).1, m1, e3, m2, ?_⟩
      show Rp ρ M w (.sl o off h (cutC cap m)) [_]
      unfold Rp
      cases m with
      | none => exact ⟨g, c, k, e1, rfl, by omega, e4, e5⟩
      | some x => exact ⟨g, c, x, e1, rfl, (m2 x rfl).1, fun n e => Option.some.inj e, fun e => by cases e⟩
    · cases hc
  · rename_i l
    split at hc
    · rename_i hm
      obtain ⟨m1, m2⟩ := mOk_sound hm
      cases hc
      have hv : Rp ρ M w (.rats l) [v] := hv
      unfold Rp at hv
      obtain ⟨Ad, c, e, hc, hr⟩ := hv
      have hl : (l.take h).length = h := by rw [List.length_take]; omega
      refine ⟨Ad, l.length, c, (List.cons.inj e).1, m1, hc, m2, ?_⟩
      show Rp ρ M w (.rats (l.take h)) [_]
      unfold Rp
      refine ⟨Ad, m.getD c, by rw [hl], ?_, fun h0 => ?_⟩
      · rw [hl]
        cases m with
        | none => show h ≤ c; omega
        | some x => exact (m2 x rfl).1
      · obtain ⟨g, off, xs, e1, k1, k2, k3, k4⟩ := hr (by rw [hl] at h0; omega)
        exact ⟨g, off, _, e1, k1, k2, range_take k3, RatCells.take h k4⟩
    · cases hc
  · rename_i n l
    split at hc
    · rename_i hm
      obtain ⟨m1, m2⟩ := mOk_sound hm
      cases hc
      have hv : Rp ρ M w (.row n l) [v] := hv
      unfold Rp at hv
      obtain ⟨Ad, c, e, hc, hr⟩ := hv
      refine ⟨Ad, n, c, (List.cons.inj e).1, m1, hc, m2, ?_⟩
      show Rp ρ M w (.row h l) [_]
      unfold Rp
      refine ⟨Ad, m.getD c, rfl, ?_, fun h0 => hr (by omega)⟩
      cases m with
      | none => show h ≤ c; omega
      | some x => exact (m2 x rfl).1
    · cases hc
  · split at hc
    · rename_i hm
      obtain ⟨m1, m2⟩ := mOk_sound hm
      cases hc
      have hv : v = .slice none 0 0 := hv
      have h0 : h = 0 := by omega
      subst h0
      refine ⟨none, 0, 0, hv, m1, Nat.le_refl _, m2, ?_⟩
      cases m with
      | none => rfl
      | some x =>
        have : x = 0 := by have := (m2 x rfl).2; omega
        rw [this]; rfl
    · cases hc
  · cases hc
noncomputable def opSlice (ev : Operand → Option AV) (T : TypeId) (x : Operand) (lo hi mx : Option Operand) : Option (AV × List Nat × HP) := match lo, hi, tyD T, ev x with
  | none, some hi, some (.slice e), some a => match ev hi with
    | some (.val (.int _ h)) => if decide (0 ≤ h) && (tySz e).isSome then (match mx with
      | none => (cutA a h.toNat none).map fun r => (r, [], [])
      | some mx => match ev mx with
        | some (.val (.int _ m)) => if decide (0 ≤ m) then (cutA a h.toNat (some m.toNat)).map fun r => (r, [], []) else none
        | _ => none) else none
    | _ => none
  | _, _, _, _ => none
theorem run_slice {T e : TypeId} {z h n c : Nat} {Ad : Option Addr} {kh : IntKind} (hd : Tryz.prog.underlying T = some (.slice e)) (hz : tySz e = some z) (h1 : h ≤ n) (h2 : n ≤ c) : (Instr.sliceAt T (.slice Ad n c) none (some (.int kh (h : Int))) none).run Tryz.prog w = .ok (.slice Ad h c) w := by
  unfold tySz at hz
  cases hi : Tryz.prog.info? e with
  | none => rw [hi] at hz; cases hz
  | some j =>
    have h3 : h ≤ c := by omega
    simp [Instr.sliceAt, Instr.slice, Instr.sliceBounds, Instr.sliceBound, asIntOf, Sem.run_bind, run_underlying hd, sizeOf, typeInfo, hi, h3]
    intro _
    cases Ad <;> simp [Addr.add]
theorem run_slice3 {T e : TypeId} {z h m n c : Nat} {Ad : Option Addr} {kh km : IntKind} (hd : Tryz.prog.underlying T = some (.slice e)) (hz : tySz e = some z) (h0 : h ≤ m) (h1 : m ≤ c) : (Instr.sliceAt T (.slice Ad n c) none (some (.int kh (h : Int))) (some (.int km (m : Int)))).run Tryz.prog w = .ok (.slice Ad h m) w := by
  unfold tySz at hz
  cases hi : Tryz.prog.info? e with
  | none => rw [hi] at hz; cases hz
  | some j =>
    simp [Instr.sliceAt, Instr.slice, Instr.sliceBounds, Instr.sliceBound, asIntOf, Sem.run_bind, run_underlying hd, sizeOf, typeInfo, hi, h0, h1]
    intro _
    cases Ad <;> simp [Addr.add]
theorem vm_slice {T : TypeId} {x : Operand} {lo hi mx : Option Operand} (h : opSlice ev T x lo hi mx = some (r, R, U)) (hs : St0 ρ M A w t0 Hr) (hev : ∀ x a, ev x = some a → RV ρ M w a (ρv x)) : Does (.slice T x lo hi mx) ρv w (Post ρ M A w t0 Hr U r) := by
  unfold opSlice at h
  split at h
  · rename_i hi e a hd ha
    have hd : Tryz.prog.underlying T = some (.slice e) := hd
    split at h
    · rename_i kh hh hhi
      have hvh : ρv hi = .int kh hh := hev _ _ hhi
      split at h
      · rename_i hc
        rw [Bool.and_eq_true] at hc
        have h0 := of_decide_eq_true hc.1
        obtain ⟨z, hz⟩ := Option.isSome_iff_exists.1 hc.2
        have hhn : hh = ((hh.toNat : Nat) : Int) := (Int.toNat_of_nonneg h0).symm
        split at h
        · cases hcut : cutA a hh.toNat none with
          | none => rw [hcut] at h; cases h
          | some r' =>
            rw [hcut] at h
            cases h
            obtain ⟨Ad, n, c, e1, e2, e3, _, e5⟩ := cutA_sound hcut (hev _ _ ha)
            refine does_val hs (fun o ho => ?_) e5
            unfold execOp
            rw [ho]
            show Sem.run _ (Instr.sliceAt T (ρv x) none (some (ρv hi)) none >>= fun x => pure (Next.value x)) w = _
            rw [e1, hvh, hhn]
            exact run_v (run_slice hd hz (by omega) e3)
        · rename_i mx
          split at h
          · rename_i km m hm
            have hvm : ρv mx = .int km m := hev _ _ hm
            split at h
            · rename_i hm0
              have hm0 := of_decide_eq_true hm0
              have hmn : m = ((m.toNat : Nat) : Int) := (Int.toNat_of_nonneg hm0).symm
              cases hcut : cutA a hh.toNat (some m.toNat) with
              | none => rw [hcut] at h; cases h
              | some r' =>
                rw [hcut] at h
                cases h
                obtain ⟨Ad, n, c, e1, e2, e3, e4, e5⟩ := cutA_sound hcut (hev _ _ ha)
                obtain ⟨q1, q2⟩ := e4 _ rfl
                refine does_val hs (fun o ho => ?_) e5
                unfold execOp
                rw [ho]
                show Sem.run _ (Instr.sliceAt T (ρv x) none (some (ρv hi)) (some (ρv mx)) >>= fun x => pure (Next.value x)) w = _
                rw [e1, hvh, hvm, hhn, hmn]
                exact run_v (run_slice3 hd hz q1 (by omega))
            · cases h
          · cases h
      · cases h
    · cases h
  · cases h
def lenA : AV → Option Nat
  | .sl _ _ len _ => some len
  | .rats l => some l.length
  | .row n _ => some n
  | .val (.slice none n _) => some n
  | _ => none
theorem lenA_sound {a : AV} {n : Nat} {v : Value} (h : lenA a = some n) (hv : RV ρ M w a v) : ∃ Ad c, v = .slice Ad n c := by
  unfold lenA at h
  split at h
  · cases h
    have hv : Rp ρ M w (.sl _ _ n _) [v] := hv
    unfold Rp at hv
    obtain ⟨g, c, k, _, e, _⟩ := hv
    exact ⟨_, _, (List.cons.inj e).1⟩
  · cases h
    have hv : Rp ρ M w (.rats _) [v] := hv
    unfold Rp at hv
    obtain ⟨Ad, c, e, _⟩ := hv
    exact ⟨_, _, (List.cons.inj e).1⟩
  · cases h
    have hv : Rp ρ M w (.row n _) [v] := hv
    unfold Rp at hv
    obtain ⟨Ad, c, e, _⟩ := hv
    exact ⟨_, _, (List.cons.inj e).1⟩
  · cases h
    exact ⟨none, _, hv⟩
  · cases h
noncomputable def opLen (ev : Operand → Option AV) (T : TypeId) (x : Operand) : Option (AV × List Nat × HP) := match tyD T, ev x with
  | some (.slice _), some a => (lenA a).map fun n => (.val (.int .i64 (n : Int)), [], [])
  | _, _ => none
theorem vm_len {T : TypeId} {x : Operand} (h : opLen ev T x = some (r, R, U)) (hs : St0 ρ M A w t0 Hr) (hev : ∀ x a, ev x = some a → RV ρ M w a (ρv x)) : Does (.call { callee := .builtin .len, args := #[x], argTypes := #[T] }) ρv w (Post ρ M A w t0 Hr U r) := by
  unfold opLen at h
  split at h
  · rename_i e a hd ha
    have hd : Tryz.prog.underlying T = some (.slice e) := hd
    cases hn : lenA a with
    | none => rw [hn] at h; cases h
    | some n =>
      rw [hn] at h
      cases h
      obtain ⟨Ad, c, e1⟩ := lenA_sound hn (hev _ _ ha)
      refine does_yld hs ⟨_, w, fun o ho => ?_, rfl, rfl⟩
      unfold execOp
      rw [ho]
      simp [resolve, invoke, builtin, Builtin.len_, Sem.run_bind, run_underlying hd, e1, goInt]
  · cases h
noncomputable def opMM (ev : Operand → Option AV) (mx : Bool) (x y : Operand) : Option (AV × List Nat × HP) := match ev x, ev y with
  | some (.val (.int .i64 a)), some (.val (.int .i64 b)) => some (.val (.int .i64 (if mx then max a b else min a b)), [], [])
  | _, _ => none
theorem vm_max {x y : Operand} (h : opMM ev true x y = some (r, R, U)) (hs : St0 ρ M A w t0 Hr) (hev : ∀ x a, ev x = some a → RV ρ M w a (ρv x)) : Does (.call { callee := .builtin .max, args := #[x, y], argTypes := #[3, 3] }) ρv w (Post ρ M A w t0 Hr U r) := by
  unfold opMM at h
  split at h
  · rename_i a b ha hb
    have hx : ρv x = .int .i64 a := hev _ _ ha
    have hy : ρv y = .int .i64 b := hev _ _ hb
    cases h
    refine does_yld hs ⟨_, w, fun o ho => ?_, rfl, rfl⟩
    unfold execOp
    rw [ho]
    by_cases h : a < b
    · have : max a b = b := by omega
      simp [go_sem, hx, hy, h, this]
    · have : max a b = a := by omega
      simp [go_sem, hx, hy, h, this]
  · cases h
theorem vm_conv {S D : TypeId} {x : Operand} (h : opConv ev S D x = some (r, R, U)) (hs : St0 ρ M A w t0 Hr) (hev : ∀ x a, ev x = some a → RV ρ M w a (ρv x)) : Does (.convert S D x) ρv w (Post ρ M A w t0 Hr U r) := by
  simp only [opConv, Option.bind_eq_bind, Option.bind_eq_some_iff] at h
  obtain ⟨a, ha, h⟩ := h
  have hva := hev _ _ ha
  split at h
  · rename_i k p k' k2 hS hD
    have hS : Tryz.prog.underlying S = some (.int k') := hS
    have hD : Tryz.prog.underlying D = some (.int k2) := hD
    have hva : ρv x = .int k p := hva
    split at h
    · rename_i hk
      subst hk
      cases h
      refine does_yld hs ⟨_, w, fun z hz => ?_, rfl, rfl⟩
      unfold execOp
      rw [hz]
      simp [convert, Sem.run_bind, run_underlying hS, run_underlying hD, hva, go_sem]
    · cases h
  · cases h
end
end Go.Proofs.YtgaehhapjnbieaaGreat
namespace Go.Proofs.YtgaehhapjnbieaaGreat
open Go.RowKit
variable [Env]
section
variable {ρ : Rho} {M A : Nat → Prop} {w : World} {t0 : Nat} {Hr : Nat → Option OB} {H : HP} {ev : Operand → Option AV} {ρv : Operand → Value} {r : AV} {R : List Nat} {U : HP} {op : Op}
noncomputable def appA (H : HP) (t0 : Nat) (e : TypeId) (k : Nat) (base : AV) (n : Nat) (news : List AV) : Option (AV × List Nat × HP) := match base with
  | .val (.slice none 0 0) => some (.sl t0 0 n none, [], [(t0, some ⟨e, k, news, true, none⟩)])
  | .sl o 0 len cap => match lk H o with
    | some b => if b.bl.isNone && Nat.beq b.ty e && Nat.beq b.k k && Nat.ble len 1048576 then (match cap with
      | some c => if Nat.blt c (len + n) then (takeC (len * k) b.cs).map fun olds => (.sl t0 0 (len + n) none, [o], [(t0, some ⟨e, k, olds ++ news, true, none⟩)]) else none
      | none => if b.room && Nat.beq (szs b.cs) (len * k) then some (.sl t0 0 (len + n) none, [o], [(t0, some ⟨b.ty, b.k, b.cs ++ news, b.room, none⟩), (o, none)]) else none) else none
    | none => none
  | _ => none
noncomputable def opApp (H : HP) (ev : Operand → Option AV) (t0 : Nat) (T : TypeId) (x y : Operand) : Option (AV × List Nat × HP) := do
  let a ← ev x
  let b ← ev y
  let d ← tyD T
  match d with
  | .slice e => do
    let z ← tyZero e
    let k ← tySz e
    let by_ ← tyBytes e
    let s ← sliceOf H b
    if tyOk e && Nat.beq (szs z) k && !(Nat.beq k 0) && Nat.ble by_ 1048576 && Nat.ble s.1 1048576 then
      if Nat.beq s.1 0 then (match a with
        | .val (.slice none 0 0) => some (a, s.2.2, [])
        | .sl _ _ _ _ => some (a, s.2.2, [])
        | _ => none) else do
        let news ← takeC (s.1 * k) s.2.1
        let p ← appA H t0 e k a s.1 news
        pure (p.1, s.2.2 ++ p.2.1, p.2.2)
    else none
  | _ => none
theorem rv_sln {ρ' : Rho} {M' : Nat → Prop} {w' : World} {g c o len : Nat} (h : ρ' o = some (g, c)) (hk : len ≤ c) : RV ρ' M' w' (.sl o 0 len none) (.slice (some ⟨g, 0, none⟩) len c) := by
  show Rp ρ' M' w' (.sl o 0 len none) [_]
  unfold Rp
  exact ⟨g, c, c, h, rfl, hk, fun n e => (by cases e), fun _ => ⟨rfl, rfl⟩⟩
theorem mul20 {a b : Nat} (ha : a ≤ 2097152) (hb : b ≤ 1048576) : a * b ≤ 140737488355328 :=
  Nat.le_trans (Nat.mul_le_mul ha hb) (by decide)
theorem post_grown {e : TypeId} {k n : Nat} {l : List AV} {cs : List Value} {z : Array Value} {gc : Nat} (hs : St0 ρ M A w t0 Hr) (hT : tyOk e = true) (hl : Rps ρ M w l cs) (hn : cs.length = n * k) (hz : z.size = k) (hg : n ≤ gc) (hm : gc ≤ maxLen) :
    Post ρ M A w t0 Hr [(t0, some ⟨e, k, l, true, none⟩)] (.sl t0 0 n none) (.slice (some ⟨w.heap.size, 0, none⟩) n gc) (w.drew.alloc (.cells (cs.toArray ++ Builtin.zeroCells z (gc - n)) e)) := by
  refine post_new hs (tyOk_sound hT) hl ⟨(Builtin.zeroCells z (gc - n)).toList, by simp, fun h => by cases h⟩ (fun _ => ⟨?_, hm⟩) (.inr rfl) [] (fun x h => by cases h) fun ρ' M' e => rv_sln e hg
  rw [Array.size_append, size_zeroCells, hz, List.size_toArray, hn, ← Nat.add_mul, Nat.mul_comm]
  congr 1
  omega
theorem vm_app {T : TypeId} {x y : Operand} (h : opApp H ev t0 T x y = some (r, R, U)) (hs : St0 ρ M A w t0 Hr) (hag : ∀ o ∈ R, Hr o = lk H o) (hev : ∀ x a, ev x = some a → RV ρ M w a (ρv x)) : Does (.call { callee := .builtin .append, args := #[x, y], argTypes := #[T, T] }) ρv w (Post ρ M A w t0 Hr U r) := by
  simp only [opApp, Option.bind_eq_bind, Option.bind_eq_some_iff] at h
  obtain ⟨a, ha, b, hb, d, hd, h⟩ := h
  split at h
  · rename_i e
    have hd : Tryz.prog.underlying T = some (.slice e) := hd
    simp only [Option.bind_eq_some_iff] at h
    obtain ⟨z, hz, k, hk, by_, hby, ⟨n, ls, R2⟩, hsl, h⟩ := h
    split at h
    · rename_i hc
      simp only [Bool.and_eq_true, Bool.not_eq_true'] at hc
      obtain ⟨⟨⟨⟨hT, hzk⟩, hk0⟩, hb1⟩, hn1⟩ := hc
      have hzk := Nat.eq_of_beq_eq_true hzk
      have hb1 := Nat.le_of_ble_eq_true hb1
      have hn1 : n ≤ 1048576 := Nat.le_of_ble_eq_true hn1
      obtain ⟨i, zv, hi, hzv, hr⟩ := tyZero_sound (ρ := ρ) (M := M) (w := w) hz
      have hki : i.size = k := by
        unfold tySz at hk
        rw [hi] at hk
        exact Option.some.inj hk
      have hbi : i.bytes = by_ := by
        unfold tyBytes at hby
        rw [hi] at hby
        exact Option.some.inj hby
      have hzs : zv.cells.size = k := by
        have := hr.len
        rw [hzk] at this
        simpa using this
      have go : ∀ {v' : Value} {w' : World}, (∀ ty, (Builtin.append_ #[T, T] ty #[ρv x, ρv y]).run Tryz.prog w = .ok v' w') → ∀ o : Oper, o.op = .call { callee := .builtin .append, args := #[x, y], argTypes := #[T, T] } → (execOp ρv o).run Tryz.prog w = .ok (.value v') w' := fun hrun o ho => by
        unfold execOp
        rw [ho]
        have := hrun o.type
        simp only [resolve, invoke, builtin, Sem.run_bind, Sem.run_pure, Result.andThen_ok, List.map_toArray, List.map_cons, List.map_nil, this]
      split at h
      · rename_i hn0
        have hn0 : n = 0 := Nat.eq_of_beq_eq_true hn0
        subst hn0
        have fin : r = a → R = R2 → U = [] → (∃ Ad s c, ρv x = .slice Ad s c ∧ s ≤ c) → Does (.call { callee := .builtin .append, args := #[x, y], argTypes := #[T, T] }) ρv w (Post ρ M A w t0 Hr U r) := by
          rintro rfl rfl rfl ⟨Ad, s, c, e1, e2⟩
          obtain ⟨Ay, cy, xs, ey, _⟩ := sliceOf_sound hs hsl hag (hev _ _ hb)
          refine does_val (v := ρv x) hs (go fun ty => ?_) (hev _ _ ha)
          rw [e1, ey]
          cases Ay with
          | none => cases Ad <;> simp [Builtin.append_, run_underlying hd, sizeOf, typeInfo, hi, Builtin.lenOf, e2, Builtin.firstCells, storeCells]
          | some ay =>
            have hl0 := run_firstCells_some (P := Tryz.prog) w i.size 0 ay 0 cy [] (by simp) (fun j v hv => by simp at hv)
            cases Ad <;> simp [Builtin.append_, run_underlying hd, sizeOf, typeInfo, hi, Builtin.lenOf, e2, hl0, storeCells]
        split at h
        · simp only [Option.some.injEq, Prod.mk.injEq] at h
          exact fin h.1.symm h.2.1.symm h.2.2.symm ⟨none, 0, 0, hev _ _ ha, Nat.le_refl _⟩
        · simp only [Option.some.injEq, Prod.mk.injEq] at h
          have hv : Rp ρ M w (.sl _ _ _ _) [ρv x] := hev _ _ ha
          unfold Rp at hv
          obtain ⟨g, c, kk, _, e2, e3, _⟩ := hv
          exact fin h.1.symm h.2.1.symm h.2.2.symm ⟨_, _, _, (List.cons.inj e2).1, e3⟩
        · cases h
      · rename_i hn0
        have hn0 : n ≠ 0 := fun e => hn0 (by subst e; rfl)
        simp only [Option.bind_eq_some_iff, Option.pure_def, Option.some.injEq, Prod.mk.injEq] at h
        obtain ⟨news, hnews, ⟨r', R', U'⟩, hp, rfl, rfl, rfl⟩ := h
        obtain ⟨Ay, cy, xs, ey, hxs0⟩ := sliceOf_sound hs hsl (fun o ho => hag o (List.mem_append.2 (.inl ho))) (hev _ _ hb)
        obtain ⟨hxs, gy, oy, rfl, hry⟩ := hxs0 hn0
        obtain ⟨t1, t2⟩ := Rps.take hnews hxs
        have hry' := range_take (n := n * k) hry
        have hlen : (xs.take (n * k)).length = n * i.size := by rw [List.length_take, hki]; omega
        have hcells : ∀ (j : Nat) (v : Value), (xs.take (n * k))[j]? = some v → w.cell? ((⟨gy, oy, none⟩ : Addr).add j) = some v := fun j v hv => by rw [Addr.add_mid]; exact hry' j v hv
        have h1c := rps_one t2
        generalize hnc : xs.take (n * k) = nc at t2 hry' hlen hcells h1c
        unfold appA at hp
        split at hp
        · cases hp
          have hx : ρv x = .slice none 0 0 := hev _ _ ha
          have hrun := fun ty => run_append_nil (P := Tryz.prog) w T ty e i zv hd hi hzv ⟨gy, oy, none⟩ n cy nc hlen hcells (by omega) (by omega) (Nat.le_trans (mul20 (by omega) (by omega)) (by decide))
          intro o ho
          rw [go (fun ty => by rw [hx, ey]; exact hrun ty) o ho]
          exact post_grown hs hT t2 (by rw [hlen, hki]) hzs (grownCap_ge w n 0 e) (grownCap_le_maxLen w n 0 e (by unfold maxLen; omega))
        · rename_i o len cap
          split at hp
          · rename_i bo hbo
            split at hp
            · rename_i hc
              simp only [Bool.and_eq_true] at hc
              obtain ⟨⟨⟨c0, c1⟩, c2⟩, c3⟩ := hc
              have hbn : bo.bl = none := by simpa using c0
              have c1 := Nat.eq_of_beq_eq_true c1
              have c2 := Nat.eq_of_beq_eq_true c2
              have c3 := Nat.le_of_ble_eq_true c3
              have hv : Rp ρ M w (.sl o 0 len cap) [ρv x] := hev _ _ ha
              unfold Rp at hv
              obtain ⟨g, c, kk, e1, e2, e3, e4, e5⟩ := hv
              have hx := (List.cons.inj e2).1
              split at hp
              · rename_i cc
                have e4 := e4 _ rfl
                subst e4
                split at hp
                · rename_i hlt
                  have hlt : kk < len + n := Nat.le_of_ble_eq_true hlt
                  cases hol : takeC (len * k) bo.cs with
                  | none => rw [hol] at hp; cases hp
                  | some olds =>
                    rw [hol] at hp
                    cases hp
                    have hbr : Hr o = some bo := (hag o (List.mem_append.2 (.inr (by simp)))).trans hbo
                    obtain ⟨g', c', arr, cs, kO⟩ := hs.heap.obj o bo hbr
                    rw [kO.at_] at e1
                    simp only [Option.some.injEq, Prod.mk.injEq] at e1
                    obtain ⟨rfl, rfl⟩ := e1
                    obtain ⟨q1, q2⟩ := Rps.take hol (kO.cells.rps hbn)
                    obtain ⟨tl, he, _⟩ := kO.pre
                    have hro := range_take (n := len * k) (range_of kO.blk he 0)
                    simp only [List.drop_zero] at hro
                    have hlo : (cs.take (len * k)).length = len * i.size := by rw [List.length_take, hki]; omega
                    have hrun := fun ty => run_append_grow (P := Tryz.prog) w T ty e i zv hd hi hzv ⟨g', 0, none⟩ len kk (cs.take (len * k)) hlo (fun j v hv => by rw [Addr.add_mid]; exact hro j v hv) ⟨gy, oy, none⟩ n cy nc hlen hcells hlt (by omega) (growslice_fits hlt (mul20 (by omega) (by omega)))
                    intro o' ho
                    rw [go (fun ty => by rw [hx, ey]; exact hrun ty) o' ho]
                    have := post_grown (n := len + n) (z := zv.cells) hs hT (q2.app t2) (by rw [List.length_append, hlo, hlen, hki, Nat.add_mul]) hzs (grownCap_ge w (len + n) kk e) (grownCap_le_maxLen w (len + n) kk e (by unfold maxLen; omega))
                    rw [show (List.take (len * k) cs ++ nc).toArray = (List.take (len * k) cs).toArray ++ nc.toArray by simp] at this
                    exact this
                · cases hp
              · obtain ⟨_, e5⟩ := e5 rfl
                subst e5
                split at hp
                · rename_i hroom
                  rw [Bool.and_eq_true] at hroom
                  have hsz := Nat.eq_of_beq_eq_true hroom.2
                  have hroom := hroom.1
                  cases hp
                  have hbr : Hr o = some bo := (hag o (List.mem_append.2 (.inr (by simp)))).trans hbo
                  obtain ⟨g', c', arr, cs, kO⟩ := hs.heap.obj o bo hbr
                  rw [kO.at_] at e1
                  simp only [Option.some.injEq, Prod.mk.injEq] at e1
                  obtain ⟨rfl, rfl⟩ := e1
                  obtain ⟨tl, he, _⟩ := kO.pre
                  obtain ⟨hcap, hmax⟩ := kO.cap hroom
                  have hcl : cs.length = len * k := (kO.cells.rps hbn).len.trans hsz
                  have hasz : arr.size = cs.length + tl.length := by rw [← List.length_append, ← he]; simp
                  have hro := range_of kO.blk he 0
                  simp only [List.drop_zero] at hro
                  by_cases hfit : len + n ≤ c'
                  · have hroomy : (len + n) * k ≤ arr.size := by rw [hcap, c2, Nat.mul_comm k]; exact Nat.mul_le_mul_right _ hfit
                    have hrun := fun ty => run_append_room (P := Tryz.prog) w T ty e i hd hi g' len c' arr (by rw [← c1]; exact kO.blk) ⟨gy, oy, none⟩ n cy nc hlen hcells h1c hfit (by rw [hlen, hki, ← Nat.add_mul]; exact hroomy)
                    intro o' ho
                    rw [go (fun ty => by rw [hx, ey]; exact hrun ty) o' ho]
                    have hnl : nc.length = n * k := by rw [hlen, hki]
                    have htl : n * k ≤ tl.length := by rw [Nat.add_mul] at hroomy; omega
                    rw [show (⟨bo.ty, bo.k, bo.cs ++ news, bo.room, none⟩ : OB) = { bo with cs := bo.cs ++ news } by rw [← hbn]]
                    refine post_set (cs' := cs ++ nc) hs hbr hbn kO ((kO.cells.rps hbn).app t2) ⟨tl.drop (n * k), ?_, fun h => by rw [hroom] at h; cases h⟩ ?_ t0 true (.inr ⟨rfl, rfl⟩) _ _ fun ρ' M' w' _ e => rv_sln e hfit
                    · rw [hki, ← hcl, he, hnl, List.take_left, ← List.drop_drop, List.drop_left]
                    · simp only [List.size_toArray, List.length_append, List.length_take, List.length_drop, Array.length_toList, hki]
                      omega
                  · have hlt : c' < len + n := by omega
                    have hrun := fun ty => run_append_grow (P := Tryz.prog) w T ty e i zv hd hi hzv ⟨g', 0, none⟩ len c' cs (by rw [hcl, hki]) (fun j v hv => by rw [Addr.add_mid]; exact hro j v hv) ⟨gy, oy, none⟩ n cy nc hlen hcells hlt (by omega) (growslice_fits hlt (mul20 (by omega) (by omega)))
                    intro o' ho
                    rw [go (fun ty => by rw [hx, ey]; exact hrun ty) o' ho]
                    have hgc := grownCap_ge w (len + n) c' e
                    have hgm := grownCap_le_maxLen w (len + n) c' e (by unfold maxLen; omega)
                    generalize grownCap w (len + n) c' e = gc at hgc hgm
                    rw [show cs.toArray ++ nc.toArray = (cs ++ nc).toArray by simp, c1, c2, hroom]
                    refine post_new hs (tyOk_sound hT) ((kO.cells.rps hbn).app t2) ⟨(Builtin.zeroCells zv.cells (gc - (len + n))).toList, by simp, fun h => by cases h⟩ (fun _ => ⟨?_, hgm⟩) (.inr rfl) [(o, none)] (fun x h => by simp at h; rw [h]) fun ρ' M' e => rv_sln e hgc
                    rw [Array.size_append, size_zeroCells, hzs, List.size_toArray, List.length_append, hcl, hlen, hki, ← Nat.add_mul, ← Nat.add_mul, Nat.add_sub_cancel' hgc, Nat.mul_comm]
                · cases hp
            · cases hp
          · cases hp
        · cases hp
    · cases h
  · cases h
end
end Go.Proofs.YtgaehhapjnbieaaGreat
namespace Go.Proofs.YtgaehhapjnbieaaGreat
open Go.RowKit
variable [Env]
abbrev Prim := Nat → List AV → Option AV
def PrimOK (T : Prim) : Prop := ∀ f xs r, T f xs = some r → Plainly f ∧ ∀ (ρ : Rho) (M : Nat → Prop) (w : World) (vs : List Value), (∀ b, M b → b < w.heap.size) → RVs ρ M w xs vs →
  Calls Tryz.prog f vs.toArray w fun e w' => ∃ v, e = .returned v ∧ RV ρ M w' r v ∧ Below w.heap.size w w'
abbrev CallF := Nat → List AV → HP → Nat → Nat → Option (AV × HP)
def Own (ρ : Rho) (w : World) (H : Nat → Option OB) (b : Nat) : Prop := w.heap.size ≤ b ∨ ∃ o bo c, H o = some bo ∧ ρ o = some (b, c)
def CallOK (cf : CallF) : Prop := ∀ f xs H n0 t0 r U, cf f xs H n0 t0 = some (r, U) → Plainly f ∧ ∀ (ρ : Rho) (M : Nat → Prop) (w : World) (vs : List Value),
  St0 ρ M (Own ρ w (lk H)) w t0 (lk H) → (∀ o p, ρ o = some p → o < n0) → t0 + 16 ≤ n0 → RVs ρ M w xs vs →
  Calls Tryz.prog f vs.toArray w fun e w' => ∃ v, e = .returned v ∧ Post ρ M (Own ρ w (lk H)) w t0 (lk H) U r v w'
mutual
def idsV : AV → List Nat
  | .ptr o _ => [o]
  | .sl o _ _ _ => [o]
  | .slx o _ => [o]
  | .epx o _ => [o]
  | .fn _ a b => idsL a ++ idsL b
  | .agg l => idsL l
  | .tup l => idsL l
  | .row _ l => idsL l
  | .rptr l => idsL l
  | _ => []
def idsL : List AV → List Nat
  | [] => []
  | a :: l => idsV a ++ idsL l
end
def memN (o : Nat) : List Nat → Bool
  | [] => false
  | x :: l => if Nat.beq x o then true else memN o l
theorem memN_iff {o : Nat} : ∀ {l : List Nat}, memN o l = true ↔ o ∈ l
  | [] => by simp [memN]
  | x :: l => by
    unfold memN
    split
    · rename_i h
      have := Nat.eq_of_beq_eq_true h
      simp [this]
    · rename_i h
      rw [memN_iff, List.mem_cons]
      constructor
      · exact .inr
      · rintro (rfl | h')
        · simp at h
        · exact h'
def reachO (H : HP) : Nat → List Nat → List Nat → Option (List Nat)
  | _, [], acc => some acc
  | 0, _ :: _, _ => none
  | k + 1, o :: r, acc => if memN o acc then reachO H k r acc else match lk H o with
    | some b => reachO H k (idsL b.cs ++ r) (acc ++ [o])
    | none => reachO H k r (acc ++ [o])
def restr (H : HP) : List Nat → HP
  | [] => []
  | o :: r => (o, lk H o) :: restr H r
theorem lk_restr {H : HP} {R : List Nat} {o : Nat} : lk (restr H R) o = if o ∈ R then lk H o else none := by
  induction R with
  | nil => rfl
  | cons x r ih =>
    simp only [restr, lk]
    split
    · rename_i h
      have := Nat.eq_of_beq_eq_true h
      simp [this]
    · rename_i h
      have hne : x ≠ o := fun e => h (by rw [e]; exact Nat.beq_refl o)
      rw [ih]
      by_cases hm : o ∈ r
      · simp [hm]
      · simp [hm, Ne.symm hne]
section
variable {ρ : Rho} {M A : Nat → Prop} {w : World} {t0 n0 : Nat} {Hr : Nat → Option OB} {H : HP} {ev : Operand → Option AV} {ρv : Operand → Value} {r : AV} {R : List Nat} {U : HP} {op : Op} {T : Prim} {cf : CallF}
theorem post_part {H' : HP} {v : Value} {w' : World} (hs : St0 ρ M A w t0 Hr) (hsub : ∀ o b, lk H' o = some b → Hr o = some b) (hp : Post ρ M (Own ρ w (lk H')) w t0 (lk H') U r v w') : Post ρ M A w t0 Hr U r v w' := by
  obtain ⟨ρ', M', ht, hv, hR, hd, hsup, hmon, hbnd, hfr, hkp⟩ := hp
  have hO : ∀ b, Own ρ w (lk H') b → A b := fun b h => by
    rcases h with h | ⟨o, bo, c, h1, h2⟩
    · exact hs.fresh b h
    · obtain ⟨g, c', arr, cs, k⟩ := hs.heap.obj o bo (hsub o bo h1)
      have := k.at_
      rw [h2] at this
      have : b = g := congrArg Prod.fst (Option.some.inj this)
      exact this ▸ k.own
  have out : ∀ o b, Hr o = some b → lk H' o = none → ∀ g c, ρ o = some (g, c) → g < w.heap.size ∧ ¬ Own ρ w (lk H') g := fun o b h1 h2 g c h3 => by
    obtain ⟨g', c', arr, cs, k⟩ := hs.heap.obj o b h1
    have hg : g = g' := by
      have := k.at_
      rw [h3] at this
      exact congrArg Prod.fst (Option.some.inj this)
    have hlt : g < w.heap.size := hg ▸ lt_of_get k.blk
    refine ⟨hlt, ?_⟩
    rintro (h | ⟨o', bo, c2, h4, h5⟩)
    · omega
    · have := hs.heap.inj o o' b bo g c c2 h1 (hsub o' bo h4) h3 h5
      subst this
      rw [h2] at h4
      cases h4
  have hkp' : ∀ o b g c, Hr o = some b → (∀ x ∈ U, x.1 ≠ o) → ρ o = some (g, c) → w'.heap[g]? = w.heap[g]? := fun o b g c h1 h2 h3 => by
    cases hl : lk H' o with
    | some b' => exact hkp o b' g c hl h2 h3
    | none =>
      obtain ⟨hlt, hno⟩ := out o b h1 hl g c h3
      exact hfr.keep g hlt hno
  have split : ∀ o b, upd Hr U o = some b → upd (lk H') U o = some b ∨ (lk H' o = none ∧ Hr o = some b ∧ ∀ x ∈ U, x.1 ≠ o) := fun o b h => by
    by_cases hm : ∃ x ∈ U, x.1 = o
    · rw [upd_in (H' := lk H') hm] at h
      exact .inl h
    · have hm : ∀ x ∈ U, x.1 ≠ o := fun x hx e => hm ⟨x, hx, e⟩
      rw [upd_out hm] at h
      cases hl : lk H' o with
      | none => exact .inr ⟨rfl, h, hm⟩
      | some b' =>
        refine .inl ?_
        rw [upd_out hm, hl, ← hsub o b' hl, h]
  refine ⟨ρ', M', ht, hv, ⟨fun o b h => ?_, fun o o' b b' g c c' h h' q q' => ?_⟩, hd, hsup, hmon, hbnd, ⟨hfr.os, hfr.tape, hfr.output, hfr.size, fun b hb hA => hfr.keep b hb fun h => hA (hO b h)⟩, hkp'⟩
  · rcases split o b h with h1 | ⟨h1, h2, h3⟩
    · obtain ⟨g, c, arr, cs, k⟩ := hR.obj o b h1
      exact ⟨g, c, arr, cs, k.at_, k.mut_, hO g k.own, k.blk, k.ty, k.cells, k.pre, k.cap⟩
    · obtain ⟨g, c, arr, cs, k⟩ := hs.heap.obj o b h2
      exact ⟨g, c, arr, cs, k.st ht (hsup g) (hkp' o b g c h2 h3 k.at_)⟩
  · have hold : ∀ o b g c, Hr o = some b → ρ' o = some (g, c) → ∃ c', ρ o = some (g, c') := fun o b g c h1 h2 => by
      obtain ⟨g', c', arr, cs, k⟩ := hs.heap.obj o b h1
      have := ht.ext _ _ k.at_
      rw [h2] at this
      have hg : g = g' := congrArg Prod.fst (Option.some.inj this)
      exact ⟨c', by rw [hg]; exact k.at_⟩
    have mixed : ∀ o b o' b', upd (lk H') U o = some b → lk H' o' = none → Hr o' = some b' → ∀ c c', ρ' o = some (g, c) → ρ' o' = some (g, c') → False := fun o b o' b' h1 h2 h3 c c' q1 q2 => by
      obtain ⟨c2, r2⟩ := hold o' b' g c' h3 q2
      obtain ⟨_, hno⟩ := out o' b' h3 h2 g c2 r2
      obtain ⟨g1, c1, arr, cs, k⟩ := hR.obj o b h1
      have := k.at_
      rw [q1] at this
      have hg : g = g1 := congrArg Prod.fst (Option.some.inj this)
      exact hno (hg ▸ k.own)
    rcases split o b h with h1 | ⟨h1, h2, h3⟩ <;> rcases split o' b' h' with h1' | ⟨h1', h2', h3'⟩
    · exact hR.inj o o' b b' g c c' h1 h1' q q'
    · exact (mixed o b o' b' h1 h1' h2' c c' q q').elim
    · exact (mixed o' b' o b h1' h1 h2 c' c q' q).elim
    · obtain ⟨c2, r2⟩ := hold o b g c h2 q
      obtain ⟨c3, r3⟩ := hold o' b' g c' h2' q'
      exact hs.heap.inj o o' b b' g c2 c3 h2 h2' r2 r3
theorem scal_rv {a : AV} {v : Value} (h : scal a = true) (hv : Rp ρ M w a [v]) : RV1 ρ M w a v := by
  cases a <;> first
    | (cases h; done)
    | exact hv
    | (unfold Rp at hv; exact (List.cons.inj hv.1).1)
    | (rename_i n ag c
       unfold scal at h
       rw [Bool.and_eq_true, Bool.not_eq_true'] at h
       have := h.2
       subst this
       exact hv)
theorem scal_rvs : ∀ {l : List AV} {vs : List Value}, l.all scal = true → Rps ρ M w l vs → RVs ρ M w l vs
  | [], _, _, h => by unfold Rps at h; exact h
  | a :: l, vs, hs, h => by
    rw [List.all_cons, Bool.and_eq_true] at hs
    unfold Rps at h
    obtain ⟨x, y, rfl, h1, h2⟩ := h
    have hl := h1.len
    have hz : a.sz = 1 := by
      have hs1 := hs.1
      cases a <;> first | rfl | (cases hs1; done) | (unfold scal at hs1; rw [Bool.and_eq_true] at hs1; exact Nat.eq_of_beq_eq_true hs1.1)
    rw [hz] at hl
    obtain ⟨v, rfl⟩ := List.length_eq_one_iff.1 hl
    exact ⟨v, y, rfl, scal_rv hs.1 h1, scal_rvs hs.2 h2⟩
theorem RVs.app : ∀ {l l' : List AV} {vs vs' : List Value}, RVs ρ M w l vs → RVs ρ M w l' vs' → RVs ρ M w (l ++ l') (vs ++ vs')
  | [], _, _, _, h, h' => by have h : _ = [] := h; subst h; exact h'
  | _ :: _, _, _, _, ⟨v, r, e, h1, h2⟩, h' => by subst e; exact ⟨v, _, rfl, h1, RVs.app h2 h'⟩
theorem evs_rvs (hev : ∀ x a, ev x = some a → RV ρ M w a (ρv x)) : ∀ {xs : List Operand} {l : List AV}, evs ev xs = some l → l.all AV.one = true → RVs ρ M w l (xs.map ρv)
  | [], l, h, _ => by cases h; exact rfl
  | x :: xs, l, h, ho => by
    unfold evs at h
    split at h
    · rename_i a r h1 h2
      cases h
      rw [List.all_cons, Bool.and_eq_true] at ho
      exact ⟨ρv x, _, rfl, (hev _ _ h1).one ho.1, evs_rvs hev h2 ho.2⟩
    · cases h
noncomputable def opCall (T : Prim) (cf : CallF) (H : HP) (n0 t0 : Nat) (ev : Operand → Option AV) (f : Operand) (xs : List Operand) : Option (AV × List Nat × HP) := match ev f, evs ev xs with
  | some (.fn F a b), some l => if a.all scal && b.all scal && l.all AV.one then (match T F (a ++ l ++ b) with
    | some r => some (r, [], [])
    | none => match reachO H 400 (idsL (a ++ l ++ b)) [] with
      | some R => (cf F (a ++ l ++ b) (restr H R) n0 t0).map fun p => (p.1, R, p.2)
      | none => none) else none
  | _, _ => none
theorem run_callV {F : Nat} {f : Operand} {args : Array Operand} {Ts : Array TypeId} {xs ys : Array Value} (hf : ρv f = .func (.func F) xs ys) (hpl : Plainly F) {o : Oper} (ho : o.op = .call { callee := .value f, args := args, argTypes := Ts }) : (execOp ρv o).run Tryz.prog w = .ok (.enter F (xs ++ args.map ρv ++ ys)) w := by
  unfold execOp
  rw [ho]
  simp only [resolve, hf, Deferred.ofValue, Sem.run_bind, Sem.run_pure, Result.andThen_ok, invoke]
  exact hpl _ _
theorem vm_call {f : Operand} {args : Array Operand} {Ts : Array TypeId} (hT : PrimOK T) (hcf : CallOK cf) (h : opCall T cf H n0 t0 ev f args.toList = some (r, R, U)) (hs : St0 ρ M A w t0 Hr) (hag : ∀ o ∈ R, Hr o = lk H o) (hev : ∀ x a, ev x = some a → RV ρ M w a (ρv x)) (hdom : ∀ o p, ρ o = some p → o < n0) (hn : t0 + 16 ≤ n0) : Does (.call { callee := .value f, args := args, argTypes := Ts }) ρv w (Post ρ M A w t0 Hr U r) := by
  unfold opCall at h
  split at h
  · rename_i F a b l hf hl
    split at h
    · rename_i hc
      simp only [Bool.and_eq_true] at hc
      have hv : Rp ρ M w (.fn F a b) [ρv f] := hev _ _ hf
      unfold Rp at hv
      obtain ⟨xs, ys, e, ha, hb⟩ := hv
      have e := (List.cons.inj e).1
      have hargs : RVs ρ M w (a ++ l ++ b) (xs.toList ++ args.toList.map ρv ++ ys.toList) := ((scal_rvs hc.1.1 ha).app (evs_rvs hev hl hc.2)).app (scal_rvs hc.1.2 hb)
      have harr : (xs.toList ++ args.toList.map ρv ++ ys.toList).toArray = xs ++ args.map ρv ++ ys := by
        apply Array.ext'
        simp
      split at h
      · rename_i r' hr
        cases h
        obtain ⟨hpl, hcall⟩ := hT _ _ _ hr
        refine does_prim hs (fun o ho => run_callV e hpl ho) ?_
        rw [← harr]
        exact hcall ρ M w _ hs.bnd hargs
      · split at h
        · rename_i R' hR
          cases hcc : cf F (a ++ l ++ b) (restr H R') n0 t0 with
          | none => rw [hcc] at h; cases h
          | some p =>
            rw [hcc] at h
            cases h
            obtain ⟨hpl, hcall⟩ := hcf _ _ _ _ _ _ _ hcc
            have hsub : ∀ o b, lk (restr H R) o = some b → Hr o = some b := fun o b e => by
              rw [lk_restr] at e
              split at e
              · rename_i hm; rw [hag o hm]; exact e
              · cases e
            have hs' : St0 ρ M (Own ρ w (lk (restr H R))) w t0 (lk (restr H R)) := by
              refine ⟨⟨fun o b e => ?_, fun o o' b b' g c c' e1 e2 q1 q2 => hs.heap.inj o o' b b' g c c' (hsub _ _ e1) (hsub _ _ e2) q1 q2⟩, hs.bnd, hs.new, fun b hb => .inl hb⟩
              obtain ⟨g, c, arr, cs, k⟩ := hs.heap.obj o b (hsub o b e)
              exact ⟨g, c, arr, cs, k.at_, k.mut_, .inr ⟨o, b, c, e, k.at_⟩, k.blk, k.ty, k.cells, k.pre, k.cap⟩
            have hcall := hcall ρ M w _ hs' hdom hn hargs
            rw [harr] at hcall
            intro o ho
            rw [run_callV e hpl ho]
            refine Calls.mono hcall fun e w' he => ?_
            obtain ⟨v, e, hp⟩ := he
            exact ⟨v, e, post_part hs hsub hp⟩
        · cases h
    · cases h
  · cases h
noncomputable def opBlt (H : HP) (t0 : Nat) (ev : Operand → Option AV) (b : Builtin) (xs : List Operand) (Ts : List TypeId) : Option (AV × List Nat × HP) := match b, xs, Ts with
  | .len, [x], [T] => opLen ev T x
  | .append, [x, y], [T, T2] => if Nat.beq T T2 then opApp H ev t0 T x y else none
  | .max, [x, y], [T, T2] => if Nat.beq T 3 && Nat.beq T2 3 then opMM ev true x y else none
  | _, _, _ => none
noncomputable def opB (T : Prim) (cf : CallF) (H : HP) (n0 t0 : Nat) (ev : Operand → Option AV) : Op → Option (AV × List Nat × HP)
  | .move x => opMove ev x
  | .assign x => opMove ev x
  | .pick c x y => opPick ev c x y
  | .alloc T => opAlloc t0 T
  | .box T x => opBox ev t0 T x
  | .build T ps => opBuild ev T ps.toList
  | .buildSlice T n ps => opLit ev t0 T n ps.toList
  | .load T x => opLoad H ev T x
  | .store T x y => opStore H ev T x y
  | .nilCheck x => opNil ev x
  | .binOp o T x y T2 => opBin ev o T x y T2
  | .unOp o _ x => opUn ev o x
  | .convert S D x => opConv ev S D x
  | .makeFunc f xs ys => opFn ev f xs.toList ys.toList
  | .makeSlice T x y => opMake ev t0 T x y
  | .slice T x lo hi mx => opSlice ev T x lo hi mx
  | .fieldAddr S x k => opField ev S x k
  | .field S x k => opFieldV ev S x k
  | .indexAddr T x y => opIdx ev T x y
  | .extract x k => opExt ev x k
  | .call c => match c.callee with
    | .builtin b => opBlt H t0 ev b c.args.toList c.argTypes.toList
    | .value f => opCall T cf H n0 t0 ev f c.args.toList
    | _ => none
  | _ => none
theorem opB_sound (hT : PrimOK T) (hcf : CallOK cf) (h : opB T cf H n0 t0 ev op = some (r, R, U)) (hs : St0 ρ M A w t0 Hr) (hag : ∀ o ∈ R, Hr o = lk H o) (hev : ∀ x a, ev x = some a → RV ρ M w a (ρv x)) (hdom : ∀ o p, ρ o = some p → o < n0) (hn : t0 + 16 ≤ n0) : Does op ρv w (Post ρ M A w t0 Hr U r) := by
  unfold opB at h
  split at h
  · exact vm_move (.inl rfl) h hs hev
  · exact vm_move (.inr rfl) h hs hev
  · exact vm_pick h hs hev
  · exact vm_alloc h hs
  · exact vm_box h hs hev
  · exact vm_build h hs hev
  · exact vm_lit h hs hev
  · exact vm_load h hs hag hev
  · exact vm_store h hs hag hev
  · exact vm_nil h hs hev
  · exact vm_bin h hs hev
  · exact vm_un h hs hev
  · exact vm_conv h hs hev
  · exact vm_fn h hs hev
  · exact vm_make h hs hev
  · exact vm_slice h hs hev
  · exact vm_field h hs hev
  · exact vm_fieldV h hs hev
  · exact vm_idx h hs hev
  · exact vm_ext h hs hev
  · rename_i c
    obtain ⟨callee, args, Ts⟩ := c
    simp only [] at h
    split at h
    · rename_i b
      unfold opBlt at h
      split at h
      · rename_i x T1 ha ht
        have ha : args = #[x] := Array.toList_inj.1 ha
        have ht : Ts = #[T1] := Array.toList_inj.1 ht
        subst ha
        subst ht
        exact vm_len h hs hev
      · rename_i x y T1 T2 ha ht
        have ha : args = #[x, y] := Array.toList_inj.1 ha
        have ht : Ts = #[T1, T2] := Array.toList_inj.1 ht
        subst ha
        subst ht
        split at h
        · rename_i e
          have e := Nat.eq_of_beq_eq_true e
          subst e
          exact vm_app h hs hag hev
        · cases h
      · rename_i x y T1 T2 ha ht
        have ha : args = #[x, y] := Array.toList_inj.1 ha
        have ht : Ts = #[T1, T2] := Array.toList_inj.1 ht
        subst ha
        subst ht
        split at h
        · rename_i e
          rw [Bool.and_eq_true] at e
          have e1 := Nat.eq_of_beq_eq_true e.1
          have e2 := Nat.eq_of_beq_eq_true e.2
          subst e1
          subst e2
          exact vm_max h hs hev
        · cases h
      · cases h
    · exact vm_call hT hcf h hs hag hev hdom hn
    · cases h
  · cases h
structure XT where
  on : Bool
  pure : PK → List AV → Option AV
  idx : TypeId → CE → AV → Option CE
  load : TypeId → CE → CE → Option AV
  store : TypeId → CE → CE → AV → Option CE
  make : TypeId → AV → AV → Option (TypeId × CE × CE)
  lit : TypeId → Nat → List AV → Option AV
def XT.none : XT := ⟨false, fun _ _ => .none, fun _ _ _ => .none, fun _ _ _ => .none, fun _ _ _ _ => .none, fun _ _ _ => .none, fun _ _ _ => .none⟩
structure XTOK (X : XT) : Prop where
  pure : ∀ k xs r, X.pure k xs = some r → ∀ (ρ : Rho) (M : Nat → Prop) (w : World) (ρv : Operand → Value) (ys : List Operand), (∀ b, M b → b < w.heap.size) → RVs ρ M w xs (ys.map ρv) →
    ∃ v, (∀ o : Oper, o.op = opOf k ys → (execOp ρv o).run Tryz.prog w = .ok (.value v) w) ∧ RV ρ M w r v
  idx : ∀ T j a p, X.idx T j a = some p → ∀ (ρ : Rho) (M : Nat → Prop) (w : World) (g k : Nat) (v : Value), RV ρ M w a v → (Instr.indexAt T (.slice (some ⟨g, 0, none⟩) (Env.N j) k) v).run Tryz.prog w = .ok (.pointer (some ⟨g, Env.J p, none⟩)) w
  load : ∀ T c p r, X.load T c p = some r → ∀ (ρ : Rho) (M : Nat → Prop) (w : World) (g : Nat) (cs : List Value), w.rangeAt g 0 cs → (Env.B c).p M w cs → ∃ v, (Instr.loadAt T (.pointer (some ⟨g, Env.J p, none⟩))).run Tryz.prog w = .ok v w ∧ RV ρ M w r v
  store : ∀ T c p a c', X.store T c p a = some c' → ∀ (ρ : Rho) (M : Nat → Prop) (w : World) (cs : List Value) (v : Value), (Env.B c).p M w cs → RV ρ M w a v →
    (Tryz.prog.info? T).map (·.size) = some v.cells.size ∧ (∀ x ∈ v.cells.toList, x.oneCell' = true) ∧ Env.J p + v.cells.size ≤ cs.length ∧ (Env.B c').p M w (cs.take (Env.J p) ++ v.cells.toList ++ cs.drop (Env.J p + v.cells.size))
  make : ∀ T x y e c j, X.make T x y = some (e, c, j) → tyOk e = true ∧ ∀ (ρ : Rho) (M : Nat → Prop) (w : World) (vx vy : Value), RV ρ M w x vx → RV ρ M w y vy →
    ∃ cells, (Instr.makeSlice T vx vy).run Tryz.prog w = .ok (.slice (some ⟨w.heap.size, 0, none⟩) (Env.N j) (Env.N j)) (w.alloc (.cells cells e)) ∧ (Env.B c).p M w cells.toList
  lit : ∀ T n l r, X.lit T n l = some r → ∀ (ρ : Rho) (M : Nat → Prop) (w : World) (g : Nat) (cs : List Value), ¬ M g → g < w.heap.size → w.rangeAt g 0 cs → Rps ρ M w l cs → RV ρ M w r (.slice (some ⟨g, 0, none⟩) n n)
theorem XTOK.no : XTOK XT.none := ⟨fun _ _ _ h => (by cases h), fun _ _ _ _ h => (by cases h), fun _ _ _ _ h => (by cases h), fun _ _ _ _ _ h => (by cases h), fun _ _ _ _ _ _ h => (by cases h), fun _ _ _ _ h => (by cases h)⟩
def opP (X : XT) (ev : Operand → Option AV) (op : Op) : Option (AV × List Nat × HP) := match pkOf op with
  | some (k, xs) => match evs ev xs with
    | some l => if l.all AV.one then (X.pure k l).map fun r => (r, [], []) else none
    | none => none
  | none => none
noncomputable def opX (X : XT) (H : HP) (t0 : Nat) (ev : Operand → Option AV) (op : Op) : Option (AV × List Nat × HP) := match op with
  | .indexAddr T x y => match ev x, ev y with
    | some (.slx o j), some a => (X.idx T j a).map fun p => (.epx o p, [], [])
    | _, _ => opP X ev op
  | .load T x => match ev x with
    | some (.epx o p) => match lk H o with
      | some b => match b.bl with
        | some c => (X.load T c p).map fun r => (r, [o], [])
        | none => none
      | none => none
    | _ => opP X ev op
  | .store T x y => match ev x, ev y with
    | some (.epx o p), some a => match lk H o with
      | some b => match b.bl with
        | some c => (X.store T c p a).map fun c' => (.val undef, [o], [(o, some { b with bl := some c' })])
        | none => none
      | none => none
    | _, _ => none
  | .makeSlice T x y => match ev x, ev y with
    | some a, some b => (X.make T a b).map fun p => (.slx t0 p.2.2, [], [(t0, some ⟨p.1, 0, [], false, some p.2.1⟩)])
    | _, _ => none
  | .buildSlice T n ps => match opLit ev t0 T n ps.toList with
    | some (_, _, [(_, some b)]) => (X.lit T n b.cs).map fun r => (r, [], [])
    | _ => none
  | _ => opP X ev op
theorem post_same {v : Value} {w' : World} {H' : Nat → Option OB} (hs : St0 ρ M A w t0 H') (hb : Below w.heap.size w w') (hv : RV ρ M w' r v) : Post ρ M A w t0 H' [] r v w' := by
  have ht : Tr ρ M w ρ M w' := ⟨Grow.of_below hb, fun b hlt _ => hb.block b hlt, fun _ _ h => h, fun _ _ h => h⟩
  have hblk : ∀ o b g c, H' o = some b → ρ o = some (g, c) → w'.heap[g]? = w.heap[g]? := fun o b g c e1 e2 => by
    obtain ⟨g1, c1, arr, cs, k⟩ := hs.heap.obj o b e1
    have : g = g1 := by
      have := k.at_
      rw [e2] at this
      simpa using congrArg Prod.fst (Option.some.inj this)
    exact hb.block g (this ▸ lt_of_get k.blk)
  exact ⟨ρ, M, ht, hv, hs.heap.st ht (fun _ h => h) hblk, fun _ _ e => .inl e, fun _ h => h, fun _ h => .inl h, fun b h => Nat.lt_of_lt_of_le (hs.bnd b h) hb.size, FrA.below hb, fun o b g c e1 _ e2 => hblk o b g c e1 e2⟩
theorem vm_p {X : XT} (hX : XTOK X) (h : opP X ev op = some (r, R, U)) (hs : St0 ρ M A w t0 Hr) (hev : ∀ x a, ev x = some a → RV ρ M w a (ρv x)) : Does op ρv w (Post ρ M A w t0 Hr U r) := by
  unfold opP at h
  split at h
  · rename_i k xs hk
    split at h
    · rename_i l hl
      split at h
      · rename_i ho
        obtain ⟨r', hr, e⟩ := Option.map_eq_some_iff.1 h
        cases e
        obtain ⟨v, hrun, hv⟩ := hX.pure k l r hr ρ M w ρv xs hs.bnd (evs_rvs hev hl ho)
        exact does_val hs (fun o e => hrun o (e.trans (opOf_pkOf hk).symm)) hv
      · cases h
    · cases h
  · cases h
theorem range_all {arr : Array Value} {T : TypeId} {g : Nat} {cs tl : List Value} (hg : w.heap[g]? = some (.cells arr T (0, 0))) (he : arr.toList = cs ++ tl) : w.rangeAt g 0 cs := by
  have := range_of hg he 0
  rwa [List.drop_zero] at this
theorem vm_x {X : XT} (hX : XTOK X) (h : opX X H t0 ev op = some (r, R, U)) (hs : St0 ρ M A w t0 Hr) (hag : ∀ o ∈ R, Hr o = lk H o) (hev : ∀ x a, ev x = some a → RV ρ M w a (ρv x)) : Does op ρv w (Post ρ M A w t0 Hr U r) := by
  unfold opX at h
  split at h
  · rename_i T x y
    split at h
    · rename_i o j a hx hy
      obtain ⟨p, hp, e⟩ := Option.map_eq_some_iff.1 h
      cases e
      have hv : Rp ρ M w (.slx o j) [ρv x] := hev _ _ hx
      unfold Rp at hv
      obtain ⟨g, k, cc, e1, e2, e3⟩ := hv
      have hrun := hX.idx T j a p hp ρ M w g k (ρv y) (hev _ _ hy)
      refine does_val hs (v := .pointer (some ⟨g, Env.J p, none⟩)) (fun o' ho => ?_) ?_
      · unfold execOp
        rw [ho]
        show Sem.run _ (Instr.indexAt T (ρv x) (ρv y) >>= fun x => pure (Next.value x)) w = _
        rw [(List.cons.inj e2).1]
        exact run_v hrun
      · show Rp ρ M w (.epx o p) [_]
        unfold Rp
        exact ⟨g, cc, e1, rfl⟩
    · exact vm_p hX h hs hev
  · rename_i T x
    split at h
    · rename_i o p hx
      split at h
      · rename_i b hb
        split at h
        · rename_i c hc
          obtain ⟨r', hr, e⟩ := Option.map_eq_some_iff.1 h
          cases e
          obtain ⟨g, cc, arr, cs, k⟩ := hs.heap.obj o b ((hag o (by simp)).trans hb)
          have hv : Rp ρ M w (.epx o p) [ρv x] := hev _ _ hx
          unfold Rp at hv
          obtain ⟨g', cc', e1, e2⟩ := hv
          rw [k.at_] at e1
          simp only [Option.some.injEq, Prod.mk.injEq] at e1
          obtain ⟨tl, he, _⟩ := k.pre
          have hcells := k.cells
          unfold CellsB at hcells
          rw [hc] at hcells
          obtain ⟨v, hrun, hv⟩ := hX.load T c p r hr ρ M w g cs (range_all k.blk he) hcells
          refine does_val hs (v := v) (fun o' ho => ?_) hv
          unfold execOp
          rw [ho]
          show Sem.run _ (Instr.loadAt T (ρv x) >>= fun x => pure (Next.value x)) w = _
          rw [(List.cons.inj e2).1, ← e1.1]
          exact run_v hrun
        · cases h
      · cases h
    · exact vm_p hX h hs hev
  · rename_i T x y
    split at h
    · rename_i o p a hx hy
      split at h
      · rename_i b hb
        split at h
        · rename_i c hc
          obtain ⟨c', hr, e⟩ := Option.map_eq_some_iff.1 h
          cases e
          have hbr : Hr o = some b := (hag o (by simp)).trans hb
          obtain ⟨g, cc, arr, cs, k⟩ := hs.heap.obj o b hbr
          have hv : Rp ρ M w (.epx o p) [ρv x] := hev _ _ hx
          unfold Rp at hv
          obtain ⟨g', cc', e1, e2⟩ := hv
          rw [k.at_] at e1
          simp only [Option.some.injEq, Prod.mk.injEq] at e1
          obtain ⟨tl, he, ht⟩ := k.pre
          have hcells := k.cells
          unfold CellsB at hcells
          rw [hc] at hcells
          obtain ⟨q1, q2, q3, q4⟩ := hX.store T c p a c' hr ρ M w cs (ρv y) hcells (hev _ _ hy)
          have hsz : arr.size = cs.length + tl.length := by rw [← List.length_append, ← he]; simp
          have hlc : (ρv y).cells.toList.length = (ρv y).cells.size := by simp
          have hrun : (Instr.storeAt T (.pointer (some ⟨g, Env.J p, none⟩)) (ρv y)).run Tryz.prog w = .ok () (w.setRow g (arr.toList.take (Env.J p) ++ (ρv y).cells.toList ++ arr.toList.drop (Env.J p + (ρv y).cells.toList.length)).toArray) := by
            have := run_storeCells_at Tryz.prog g (Env.J p) b.ty (ρv y).cells.toList 0 arr w k.blk (by omega) q2
            simp only [Nat.add_zero] at this
            cases hi : Tryz.prog.info? T with
            | none => rw [hi] at q1; cases q1
            | some i =>
              rw [hi] at q1
              have hs' : (ρv y).cells.size = i.size := by simpa using q1.symm
              simp [Instr.storeAt, Instr.sureAddr, storeVar, Sem.run_bind, sizeOf, typeInfo, hi, hs', this]
          intro o' ho'
          have hex : (execOp ρv o').run Tryz.prog w = .ok .skip (w.setRow g (arr.toList.take (Env.J p) ++ (ρv y).cells.toList ++ arr.toList.drop (Env.J p + (ρv y).cells.toList.length)).toArray) := by
            unfold execOp
            rw [ho']
            show Sem.run _ (Instr.storeAt T (ρv x) (ρv y) >>= fun _ => pure Next.skip) w = _
            rw [(List.cons.inj e2).1, ← e1.1]
            exact run_u hrun
          rw [hex]
          refine post_setG (b1 := { b with bl := some c' }) hs hbr k rfl rfl rfl (cs' := cs.take (Env.J p) ++ (ρv y).cells.toList ++ cs.drop (Env.J p + (ρv y).cells.size)) q4 ⟨tl, ?_, ht⟩ ?_ o false (.inl ⟨rfl, rfl⟩) _ _ fun _ _ _ _ _ => rfl
          · rw [he, hlc, List.take_append_of_le_length (by omega), List.drop_append_of_le_length (by omega)]
            simp
          · simp only [List.size_toArray, List.length_append, List.length_take, List.length_drop, Array.length_toList]
            omega
        · cases h
      · cases h
    · cases h
  · rename_i T x y
    split at h
    · rename_i a b hx hy
      obtain ⟨p, hp, e⟩ := Option.map_eq_some_iff.1 h
      obtain ⟨e0, c, j⟩ := p
      cases e
      obtain ⟨hT, hm⟩ := hX.make T a b e0 c j hp
      obtain ⟨cells, hrun, hc⟩ := hm ρ M w (ρv x) (ρv y) (hev _ _ hx) (hev _ _ hy)
      intro o ho
      have hex : (execOp ρv o).run Tryz.prog w = .ok (.value (.slice (some ⟨w.heap.size, 0, none⟩) (Env.N j) (Env.N j))) (w.alloc (.cells cells e0)) := by
        unfold execOp
        rw [ho]
        show Sem.run _ (Instr.makeSlice T (ρv x) (ρv y) >>= fun x => pure (Next.value x)) w = _
        exact run_v hrun
      rw [hex]
      refine post_newG (b0 := ⟨e0, 0, [], false, some c⟩) (c := 0) hs (tyOk_sound hT) (cs := cells.toList) hc ⟨[], by simp, fun _ => rfl⟩ (fun h => by cases h) (.inl rfl) [] (fun x h => by cases h) fun ρ' M' e => ?_
      show Rp ρ' M' (w.alloc (.cells cells e0)) (.slx t0 j) [.slice (some ⟨w.heap.size, 0, none⟩) (Env.N j) (Env.N j)]
      unfold Rp
      exact ⟨_, _, _, e, rfl, Nat.le_refl _⟩
    · cases h
  · rename_i T n ps
    split at h
    · rename_i r0 R0 o0 b hl
      obtain ⟨r', hr, e⟩ := Option.map_eq_some_iff.1 h
      cases e
      obtain ⟨e, k, l', arr, _, hU, hT, hc, hrun⟩ := lit_run (ρ := ρ) (M := M) (w := w) hl hev
      simp only [List.cons.injEq, Prod.mk.injEq, Option.some.injEq, and_true] at hU
      obtain ⟨_, rfl⟩ := hU
      intro o ho
      rw [hrun o ho]
      have hb : Below w.heap.size w (w.alloc (.cells arr e)) := below_alloc w _
      have hn := heap_alloc_new w (.cells arr e)
      have hsz : (w.alloc (.cells arr e)).heap.size = w.heap.size + 1 := size_alloc' _ _
      exact post_same hs hb (hX.lit T n l' _ hr ρ M _ w.heap.size arr.toList (fun hm => Nat.lt_irrefl _ (hs.bnd _ hm)) (by omega) (range_all hn (List.append_nil _).symm) (Rps.st ⟨Grow.of_below hb, fun b hlt _ => hb.block b hlt, fun _ _ h => h, fun _ _ h => h⟩ _ _ hc))
    · cases h
  · exact vm_p hX h hs hev
def orC (a b : CallF) : CallF := fun f xs H n0 t0 => match a f xs H n0 t0 with
  | some r => some r
  | none => b f xs H n0 t0
def noC : CallF := fun _ _ _ _ _ => none
theorem orC_ok {a b : CallF} (ha : CallOK a) (hb : CallOK b) : CallOK (orC a b) := fun f xs H n0 t0 r U h => by
  unfold orC at h
  split at h
  · rename_i p hp
    cases h
    exact ha f xs H n0 t0 r U hp
  · exact hb f xs H n0 t0 r U h
theorem noC_ok : CallOK noC := fun f xs H n0 t0 r U h => by cases h
structure Tb where
  prim : Prim
  x : XT
  call : CallF
structure TbOK (T : Tb) : Prop where
  prim : PrimOK T.prim
  x : XTOK T.x
  call : CallOK T.call
noncomputable def opA (T : Tb) (cf : CallF) (H : HP) (n0 t0 : Nat) (ev : Operand → Option AV) (op : Op) : Option (AV × List Nat × HP) := match T.x.on with
  | false => opB T.prim cf H n0 t0 ev op
  | true => match opX T.x H t0 ev op with
    | some p => some p
    | none => opB T.prim cf H n0 t0 ev op
theorem opA_sound {T : Tb} (hT : TbOK T) (hcf : CallOK cf) (h : opA T cf H n0 t0 ev op = some (r, R, U)) (hs : St0 ρ M A w t0 Hr) (hag : ∀ o ∈ R, Hr o = lk H o) (hev : ∀ x a, ev x = some a → RV ρ M w a (ρv x)) (hdom : ∀ o p, ρ o = some p → o < n0) (hn : t0 + 16 ≤ n0) : Does op ρv w (Post ρ M A w t0 Hr U r) := by
  unfold opA at h
  split at h
  · exact opB_sound hT.prim hcf h hs hag hev hdom hn
  · split at h
    · rename_i p hp
      cases h
      exact vm_x hT.x hp hs hag hev
    · exact opB_sound hT.prim hcf h hs hag hev hdom hn
end
end Go.Proofs.YtgaehhapjnbieaaGreat
namespace Go.Proofs.YtgaehhapjnbieaaGreat
open Go.RowKit
variable [Env]
structure Fm where
  tm : List AV
  H : HP
  nx : Nat
  wr : List Nat
abbrev RC := List Nat × HP
def bitB (m j : Nat) : Bool := Nat.testBit m j
def orL (prev : List Nat) : List Nat → Nat
  | [] => 0
  | j :: r => 2 ^ j ||| prev.getD j 0 ||| orL prev r
theorem orL_bit {prev : List Nat} {j : Nat} : ∀ {l : List Nat}, bitB (orL prev l) j = true → ∃ k ∈ l, k = j ∨ bitB (prev.getD k 0) j = true
  | [], h => by simp [orL, bitB] at h
  | k :: r, h => by
    unfold orL bitB at h
    rw [Nat.testBit_or, Nat.testBit_or, Bool.or_eq_true, Bool.or_eq_true] at h
    rcases h with (h | h) | h
    · rw [Nat.testBit_two_pow] at h
      exact ⟨k, by simp, .inl (of_decide_eq_true h)⟩
    · exact ⟨k, by simp, .inr h⟩
    · obtain ⟨k', h1, h2⟩ := orL_bit h
      exact ⟨k', by simp [h1], h2⟩
def depsL (o : Oper) : List Nat := (o.after.toList.filter (Region.binds .any)).map (·.on)
def cloG (draw : Bool) : List Oper → Nat → List Nat → List Nat
  | [], _, prev => prev
  | o :: r, i, prev => cloG draw r (i + 1) (prev ++ [if draw then orL prev (depsL o) else 2 ^ i - 1])
def cloOK (draw : Bool) (ops : Array Oper) (cl : List Nat) : Bool := (List.range ops.size).all fun i => Nat.beq (cl.getD i 0) (if draw then orL cl (deps ops i) else 2 ^ i - 1)
def fdst (t : Nat) : List Oper → Nat → Option Nat
  | [], _ => none
  | o :: r, i => match o.dst with
    | some d => if Nat.beq d t then some i else fdst t r (i + 1)
    | none => fdst t r (i + 1)
theorem fdst_some {t : Nat} : ∀ {l : List Oper} {i j : Nat}, fdst t l i = some j → i ≤ j ∧ ∃ o, l[j - i]? = some o ∧ o.dst = some t
  | [], _, _, h => by cases h
  | o :: r, i, j, h => by
    unfold fdst at h
    have rec_ : fdst t r (i + 1) = some j → i ≤ j ∧ ∃ o', (o :: r)[j - i]? = some o' ∧ o'.dst = some t := fun h => by
      obtain ⟨h1, o', h2, h3⟩ := fdst_some h
      refine ⟨by omega, o', ?_, h3⟩
      rw [show j - i = (j - (i + 1)) + 1 by omega]
      exact h2
    split at h
    · rename_i d hd
      split at h
      · rename_i e
        have e := Nat.eq_of_beq_eq_true e
        cases h
        exact ⟨Nat.le_refl _, o, by simp, by rw [hd, e]⟩
      · exact rec_ h
    · exact rec_ h
theorem fdst_none {t : Nat} : ∀ {l : List Oper} {i : Nat}, fdst t l i = none → ∀ o ∈ l, o.dst ≠ some t
  | [], _, _, _, h => by cases h
  | o :: r, i, h, o', ho => by
    unfold fdst at h
    split at h
    · rename_i d hd
      split at h
      · cases h
      · rename_i e
        rcases List.mem_cons.1 ho with rfl | ho
        · rw [hd]
          intro e2
          exact e (by rw [Option.some.inj e2]; exact Nat.beq_refl t)
        · exact fdst_none h o' ho
    · rename_i hd
      rcases List.mem_cons.1 ho with rfl | ho
      · rw [hd]; simp
      · exact fdst_none h o' ho
def evA (tm : List AV) (opsL : List Oper) (cl : List Nat) (i : Nat) (res : List AV) : Operand → Option AV
  | .const v => some (.val v)
  | .func f => some (.fn f [] [])
  | .global _ => none
  | .tmp t => match fdst t opsL 0 with
    | some j => if Nat.blt j i then (if bitB (cl.getD i 0) j then res[j]? else none) else if Nat.beq j i || bitB (cl.getD j 0) i then tm[t]? else none
    | none => tm[t]?
def guardA (opsL : List Oper) (cl : List Nat) (i : Nat) (res : List AV) (o : Oper) : Option Bool := match o.guard with
  | none => some true
  | some (j, b) => if Nat.blt j i && bitB (cl.getD i 0) j && ((opsL[j]?).bind (·.dst)).isSome then (match res[j]? with
    | some (.val (.bool c)) => some (c == b)
    | some (.val (.tuple vs)) => if vs.size == 0 then some false else none
    | _ => none) else none
def noMeet (a b : List Nat) : Bool := a.all fun x => !memN x b
theorem noMeet_no {a b : List Nat} (h : noMeet a b = true) {x : Nat} (ha : x ∈ a) (hb : x ∈ b) : False := by
  have := List.all_eq_true.1 h x ha
  rw [memN_iff.2 hb] at this
  cases this
def okConf (c : Nat) (R D : List Nat) : List RC → Nat → Bool
  | [], _ => true
  | p :: r, j => (bitB c j || (noMeet D p.1 && noMeet D (p.2.map (·.1)) && noMeet R (p.2.map (·.1)))) && okConf c R D r (j + 1)
theorem okConf_get {c : Nat} {R D : List Nat} : ∀ {l : List RC} {j0 j : Nat} {p : RC}, okConf c R D l j0 = true → l[j]? = some p → bitB c (j0 + j) = true ∨ ((∀ x ∈ D, x ∉ p.1) ∧ (∀ x ∈ D, x ∉ p.2.map (·.1)) ∧ ∀ x ∈ R, x ∉ p.2.map (·.1))
  | [], _, _, _, _, h => by simp at h
  | q :: r, j0, j, p, h, hj => by
    unfold okConf at h
    rw [Bool.and_eq_true] at h
    cases j with
    | zero =>
      simp only [List.getElem?_cons_zero, Option.some.injEq] at hj
      subst hj
      have h1 := h.1
      rw [Bool.or_eq_true, Bool.and_eq_true, Bool.and_eq_true] at h1
      rcases h1 with h1 | h1
      · exact .inl h1
      · exact .inr ⟨fun x hx hy => noMeet_no h1.1.1 hx hy, fun x hx hy => noMeet_no h1.1.2 hx hy, fun x hx hy => noMeet_no h1.2 hx hy⟩
    | succ j =>
      have := okConf_get (j := j) h.2 (by simpa using hj)
      rw [show j0 + 1 + j = j0 + (j + 1) by omega] at this
      exact this
noncomputable def opsA (T : Tb) (cf : CallF) (tm : List AV) (opsL : List Oper) (cl : List Nat) (base n0 : Nat) : List Oper → Nat → List AV → HP → List RC → Option (List AV × HP × List RC)
  | [], _, res, H, rc => some (res, H, rc)
  | o :: r, i, res, H, rc => match guardA opsL cl i res o with
    | none => none
    | some false => opsA T cf tm opsL cl base n0 r (i + 1) (res ++ [.val undef]) H (rc ++ [([], [])])
    | some true => match opA T cf H n0 (base + 16 * i) (evA tm opsL cl i res) o.op with
      | none => none
      | some p => if okConf (cl.getD i 0) p.2.1 (p.2.2.map (·.1)) rc 0 then opsA T cf tm opsL cl base n0 r (i + 1) (res ++ [p.1]) (p.2.2 ++ H) (rc ++ [(p.2.1, p.2.2)]) else none
def hsP (H0 : HP) (rc : List RC) : HP := rc.foldl (fun H p => p.2 ++ H) H0
theorem hsP_snoc (H0 : HP) (rc : List RC) (p : RC) : hsP H0 (rc ++ [p]) = p.2 ++ hsP H0 rc := by simp [hsP]
section
variable {T : Tb} {cf : CallF} {tm : List AV} {opsL : List Oper} {cl : List Nat} {base n0 : Nat} {H0 : HP}
def StepOK (T : Tb) (cf : CallF) (tm : List AV) (opsL : List Oper) (cl : List Nat) (base n0 : Nat) (H0 : HP) (res : List AV) (rc : List RC) (i : Nat) (o : Oper) : Prop :=
  ∃ r R U, res[i]? = some r ∧ rc[i]? = some (R, U) ∧ okConf (cl.getD i 0) R (U.map (·.1)) (rc.take i) 0 = true ∧
    ((guardA opsL cl i (res.take i) o = some true ∧ opA T cf (hsP H0 (rc.take i)) n0 (base + 16 * i) (evA tm opsL cl i (res.take i)) o.op = some (r, R, U)) ∨
     (guardA opsL cl i (res.take i) o = some false ∧ r = .val undef ∧ R = [] ∧ U = []))
theorem okConf_nil {c : Nat} : ∀ (l : List RC) (j : Nat), okConf c [] [] l j = true
  | [], _ => rfl
  | _ :: r, j => by unfold okConf; simp [noMeet, okConf_nil r (j + 1)]
theorem opsA_spec : ∀ {l : List Oper} {i : Nat} {res : List AV} {H : HP} {rc : List RC} {res' : List AV} {H' : HP} {rc' : List RC}, opsA T cf tm opsL cl base n0 l i res H rc = some (res', H', rc') → res.length = i → rc.length = i → H = hsP H0 rc →
    res'.length = i + l.length ∧ rc'.length = i + l.length ∧ H' = hsP H0 rc' ∧ (∃ t, res' = res ++ t) ∧ (∃ t, rc' = rc ++ t) ∧ ∀ j o, l[j]? = some o → StepOK T cf tm opsL cl base n0 H0 res' rc' (i + j) o
  | [], i, res, H, rc, res', H', rc', h, h1, h2, h3 => by
    simp only [opsA, Option.some.injEq, Prod.mk.injEq] at h
    obtain ⟨rfl, rfl, rfl⟩ := h
    exact ⟨by simp [h1], by simp [h2], h3, ⟨[], by simp⟩, ⟨[], by simp⟩, fun j o e => by simp at e⟩
  | o :: r, i, res, H, rc, res', H', rc', h, h1, h2, h3 => by
    unfold opsA at h
    have key : ∀ (v : AV) (p : RC), opsA T cf tm opsL cl base n0 r (i + 1) (res ++ [v]) (p.2 ++ H) (rc ++ [p]) = some (res', H', rc') → okConf (cl.getD i 0) p.1 (p.2.map (·.1)) rc 0 = true → ((guardA opsL cl i res o = some true ∧ opA T cf H n0 (base + 16 * i) (evA tm opsL cl i res) o.op = some (v, p.1, p.2)) ∨ (guardA opsL cl i res o = some false ∧ v = .val undef ∧ p.1 = [] ∧ p.2 = [])) →
        res'.length = i + (r.length + 1) ∧ rc'.length = i + (r.length + 1) ∧ H' = hsP H0 rc' ∧ (∃ t, res' = res ++ t) ∧ (∃ t, rc' = rc ++ t) ∧ ∀ j o', (o :: r)[j]? = some o' → StepOK T cf tm opsL cl base n0 H0 res' rc' (i + j) o' := fun v p hh hc hg => by
      obtain ⟨k1, k2, k3, ⟨t1, k4⟩, ⟨t2, k5⟩, k6⟩ := opsA_spec hh (by simp [h1]) (by simp [h2]) (by rw [hsP_snoc, h3])
      refine ⟨by omega, by omega, k3, ⟨[v] ++ t1, by rw [k4, List.append_assoc]⟩, ⟨[p] ++ t2, by rw [k5, List.append_assoc]⟩, fun j o' e => ?_⟩
      cases j with
      | zero =>
        simp only [List.getElem?_cons_zero, Option.some.injEq] at e
        subst e
        have ht1 : res'.take i = res := by rw [k4, List.append_assoc, ← h1, List.take_left]
        have ht2 : rc'.take i = rc := by rw [k5, List.append_assoc, ← h2, List.take_left]
        refine ⟨v, p.1, p.2, ?_, ?_, by rw [Nat.add_zero, ht2]; exact hc, ?_⟩
        · rw [k4, List.append_assoc, Nat.add_zero, ← h1, List.getElem?_append_right (Nat.le_refl _)]
          simp
        · rw [k5, List.append_assoc, Nat.add_zero, ← h2, List.getElem?_append_right (Nat.le_refl _)]
          simp
        · rw [Nat.add_zero, ht1, ht2, ← h3]
          exact hg
      | succ j =>
        have := k6 j o' (by simpa using e)
        rw [show i + 1 + j = i + (j + 1) by omega] at this
        exact this
    split at h
    · cases h
    · rename_i hg
      exact key (.val undef) ([], []) h (okConf_nil rc 0) (.inr ⟨hg, rfl, rfl, rfl⟩)
    · rename_i hg
      split at h
      · cases h
      · rename_i p hp
        split at h
        · rename_i hc
          exact key _ _ h hc (.inl ⟨hg, hp⟩)
        · cases h
end
structure IM (A : Nat → Prop) (ops : Array Oper) (tm : List AV) (cl : List Nat) (base : Nat) (H0 : HP) (res : List AV) (rc : List RC) (a0 : Act) (w1 : World) (ρ1 : Rho) (M1 : Nat → Prop)
    (m : Array Bool) (a : Act) (w : World) (ρ : Rho) (M : Nat → Prop) (H : Nat → Option OB) : Prop where
  size : a.tmps.size = tm.length
  defers : a.defers = []
  low : ∀ t, (∀ i, dstOf ops i = some t → m.getD i false = false) → a.tmps[t]? = a0.tmps[t]?
  len : m.size = ops.size
  closed : ∀ i j, m.getD i false = true → bitB (cl.getD i 0) j = true → m.getD j false = true
  facts : ∀ i d r, m.getD i false = true → dstOf ops i = some d → res[i]? = some r → ∃ v, a.tmps[d]? = some v ∧ RV ρ M w r v
  heap : RH ρ M A w H
  hc : ∀ o k, (∀ j R U, rc[j]? = some (R, U) → (∃ x ∈ U, x.1 = o) → (m.getD j false = true ↔ j < k)) → H o = lk (hsP H0 (rc.take k)) o
  dom : ∀ o p, ρ o = some p → ρ1 o = some p ∨ ∃ j, j < ops.size ∧ m.getD j false = true ∧ base + 16 * j ≤ o ∧ o < base + 16 * j + 16
  bnd : ∀ b, M b → b < w.heap.size
  tr : Tr ρ1 M1 w1 ρ M w
  sup : ∀ b, M1 b → M b
  mon : ∀ b, M b → M1 b ∨ w1.heap.size ≤ b
  fr : FrA A w1 w
  kp : ∀ o b g c, lk H0 o = some b → (∀ j R U, m.getD j false = true → rc[j]? = some (R, U) → ∀ x ∈ U, x.1 ≠ o) → ρ1 o = some (g, c) → w.heap[g]? = w1.heap[g]?
section
variable {T : Tb} {cf : CallF} {A : Nat → Prop} {ops : Array Oper} {tm : List AV} {cl : List Nat} {base n0 : Nat} {H0 : HP} {res : List AV} {rc : List RC} {a0 : Act} {w1 : World} {ρ1 : Rho} {M1 : Nat → Prop} {m : Array Bool} {a : Act} {w : World} {ρ : Rho} {M : Nat → Prop} {H : Nat → Option OB} {Q : Exit → Act → World → Prop}
theorem hsP_skip {o i : Nat} : ∀ {k : Nat}, i ≤ k → (∀ j R U, i ≤ j → j < k → rc[j]? = some (R, U) → ∀ x ∈ U, x.1 ≠ o) → lk (hsP H0 (rc.take k)) o = lk (hsP H0 (rc.take i)) o
  | 0, hk, _ => by rw [show i = 0 by omega]
  | k + 1, hk, h => by
    by_cases e : i = k + 1
    · rw [e]
    · have ih := hsP_skip (k := k) (by omega) fun j R U h1 h2 => h j R U h1 (by omega)
      rw [← ih]
      cases hr : rc[k]? with
      | none =>
        rw [List.take_of_length_le (by have := List.getElem?_eq_none_iff.1 hr; omega), List.take_of_length_le (List.getElem?_eq_none_iff.1 hr)]
      | some p =>
        rw [List.take_add_one, hr, Option.toList_some, hsP_snoc, lk_append, upd_out fun x hx => h k p.1 p.2 (by omega) (by omega) hr x hx]
theorem put_parts (hd1 : dstsB ops = true) (hdl : ∀ i d, dstOf ops i = some d → d < tm.length) (hI : IM A ops tm cl base H0 res rc a0 w1 ρ1 M1 m a w ρ M H) {i : Nat} (hi : i < ops.size) (hm : m.getD i false = false) {o : Oper} (ho : ops[i]? = some o) {r : AV} {v : Value} {ρ' : Rho} {M' : Nat → Prop} {w' : World} (hr : res[i]? = some r) (ht : Tr ρ M w ρ' M' w') (hv : RV ρ' M' w' r v) :
    (a.put o.dst v).tmps.size = tm.length ∧ (a.put o.dst v).defers = [] ∧ (∀ t, (∀ j, dstOf ops j = some t → (m.setIfInBounds i true).getD j false = false) → (a.put o.dst v).tmps[t]? = a0.tmps[t]?) ∧
    (∀ j d r, (m.setIfInBounds i true).getD j false = true → dstOf ops j = some d → res[j]? = some r → ∃ v', (a.put o.dst v).tmps[d]? = some v' ∧ RV ρ' M' w' r v') := by
  have hdi : dstOf ops i = o.dst := by unfold dstOf; rw [ho]; rfl
  have hset : (m.setIfInBounds i true).getD i false = true := set_same (by rw [hI.len]; exact hi)
  cases hd : o.dst with
  | none =>
    rw [hd] at hdi
    refine ⟨hI.size, hI.defers, fun t h => hI.low t fun j hj => unset (h j hj), fun j d r' h1 h2 h3 => ?_⟩
    rcases getD_set_cases h1 with rfl | h1
    · rw [hdi] at h2; cases h2
    · obtain ⟨v', e, k⟩ := hI.facts j d r' h1 h2 h3
      exact ⟨v', e, k.st ht⟩
  | some d0 =>
    rw [hd] at hdi
    have hlt : d0 < a.tmps.size := by rw [hI.size]; exact hdl i d0 hdi
    refine ⟨by simp [Act.put, hI.size], hI.defers, fun t h => ?_, fun j d r' h1 h2 h3 => ?_⟩
    · have hne : d0 ≠ t := fun e => by
        have := h i (by rw [hdi, e])
        rw [hset] at this
        cases this
      rw [get_put_ne v hne]
      exact hI.low t fun j hj => unset (h j hj)
    · rcases getD_set_cases h1 with rfl | h1
      · rw [hdi] at h2
        obtain rfl := Option.some.inj h2
        rw [hr] at h3
        obtain rfl := Option.some.inj h3
        exact ⟨v, get_put_same v hlt, hv⟩
      · obtain ⟨v', e, k⟩ := hI.facts j d r' h1 h2 h3
        refine ⟨v', ?_, k.st ht⟩
        rw [get_put_ne v ?_]
        · exact e
        · rintro rfl
          have := dsts_inj hd1 hdi h2
          subst this
          rw [hm] at h1
          cases h1
theorem im_step (hT : TbOK T) (hcf : CallOK cf) (hn0 : n0 = base + 16 * ops.size) (hd1 : dstsB ops = true) (hdl : ∀ i d, dstOf ops i = some d → d < tm.length) (h1d : ∀ o p, ρ1 o = some p → o < base) (hA : ∀ b, w1.heap.size ≤ b → A b)
    (hsl : ∀ (t : Nat) (x : AV), tm[t]? = some x → ∃ v, a0.tmps[t]? = some v ∧ RV ρ1 M1 w1 x v)
    (hall : ∀ i o, ops[i]? = some o → StepOK T cf tm ops.toList cl base n0 H0 res rc i o)
    (hI : IM A ops tm cl base H0 res rc a0 w1 ρ1 M1 m a w ρ M H) {i : Nat} (hi : i < ops.size) (hm : m.getD i false = false) (hcl : ∀ j, bitB (cl.getD i 0) j = true → m.getD j false = true) :
    wpOp Tryz.prog ops Q i (fun a' w' => ∃ ρ' M' H', IM A ops tm cl base H0 res rc a0 w1 ρ1 M1 (m.setIfInBounds i true) a' w' ρ' M' H') a w := by
  obtain ⟨o, ho⟩ : ∃ o, ops[i]? = some o := ⟨_, Array.getElem?_eq_getElem hi⟩
  obtain ⟨r, R, U, hr, hrc, hconf, hcase⟩ := hall i o ho
  have hlen' : (m.setIfInBounds i true).size = ops.size := by rw [Array.size_setIfInBounds]; exact hI.len
  have hset : (m.setIfInBounds i true).getD i false = true := set_same (by rw [hI.len]; exact hi)
  have hclosed' : ∀ x j, (m.setIfInBounds i true).getD x false = true → bitB (cl.getD x 0) j = true → (m.setIfInBounds i true).getD j false = true := fun x j h1 h2 => by
    rcases getD_set_cases h1 with rfl | h1
    · exact getD_set_true (hcl j h2)
    · exact getD_set_true (hI.closed x j h1 h2)
  have hres : ∀ j x, (res.take i)[j]? = some x → res[j]? = some x := fun j x e => by
    rw [List.getElem?_take] at e
    split at e
    · exact e
    · cases e
  have hguard : ∀ b, guardA ops.toList cl i (res.take i) o = some b → Region.wanted o (yielded ops a.tmps) = b := fun b hg => by
    have : GuardIs ops a o.guard b := by
      unfold guardA at hg
      split at hg
      · rename_i e
        cases hg
        rw [e]
        exact guard_free
      · rename_i j q e
        rw [e]
        split at hg
        · rename_i hc
          rw [Bool.and_eq_true, Bool.and_eq_true] at hc
          obtain ⟨d, hd⟩ := Option.isSome_iff_exists.1 hc.2
          have hd : dstOf ops j = some d := by
            unfold dstOf
            rw [← Array.getElem?_toList]
            exact hd
          have hmj := hcl j hc.1.2
          split at hg
          · rename_i c hrj
            cases hg
            obtain ⟨v, e1, e2⟩ := hI.facts j d _ hmj hd (hres j _ hrj)
            have e2 : v = .bool c := e2
            subst e2
            exact guard_at hd e1
          · rename_i vs hrj
            split at hg
            · rename_i hz
              cases hg
              obtain ⟨v, e1, e2⟩ := hI.facts j d _ hmj hd (hres j _ hrj)
              have e2 : v = .tuple vs := e2
              have hz : vs = #[] := by
                apply Array.eq_empty_of_size_eq_zero
                simpa using hz
              rw [hz] at e2
              subst e2
              exact guard_undef hd e1
            · cases hg
          · cases hg
        · cases hg
    exact this o rfl
  have noU : U = [] → ∀ o k, (∀ j R U, rc[j]? = some (R, U) → (∃ x ∈ U, x.1 = o) → ((m.setIfInBounds i true).getD j false = true ↔ j < k)) → H o = lk (hsP H0 (rc.take k)) o := fun hU o k h => hI.hc o k fun j R' U' h1 h2 => by
    rw [← h j R' U' h1 h2]
    have hne : i ≠ j := by
      rintro rfl
      rw [hrc] at h1
      simp only [Option.some.injEq, Prod.mk.injEq] at h1
      obtain ⟨x, hx, _⟩ := h2
      rw [← h1.2, hU] at hx
      cases hx
    rw [getD_set_ne false hne]
  unfold wpOp
  simp only [ho]
  rcases hcase with ⟨hg, hop⟩ | ⟨hg, rfl, rfl, rfl⟩
  · rw [if_pos (hguard _ hg)]
    left
    have hdom0 : ∀ o p, ρ o = some p → o < n0 := fun o p e => by
      rcases hI.dom o p e with h | ⟨j, h1, h2, h3, h4⟩
      · have := h1d o p h; omega
      · omega
    have hs : St0 ρ M A w (base + 16 * i) H := by
      refine ⟨hI.heap, hI.bnd, fun o h1 h2 => ?_, fun b hb => hA b (by have := hI.fr.size; omega)⟩
      cases e : ρ o with
      | none => rfl
      | some p =>
        exfalso
        rcases hI.dom o p e with h | ⟨j, h3, h4, h5, h6⟩
        · have := h1d o p h; omega
        · have : j = i := by omega
          subst this
          rw [hm] at h4
          cases h4
    have hag : ∀ o ∈ R, H o = lk (hsP H0 (rc.take i)) o := fun o hoR => hI.hc o i fun j R' U' h1 h2 => by
      obtain ⟨x, hx, rfl⟩ := h2
      have hxU : x.1 ∈ U'.map (·.1) := List.mem_map.2 ⟨x, hx, rfl⟩
      rcases Nat.lt_trichotomy j i with hlt | rfl | hgt
      · refine ⟨fun _ => hlt, fun _ => ?_⟩
        have hj : (rc.take i)[j]? = some (R', U') := by rw [List.getElem?_take, if_pos hlt]; exact h1
        rcases okConf_get hconf hj with hb | ⟨_, _, h3⟩
        · rw [Nat.zero_add] at hb; exact hcl j hb
        · exact absurd hxU (h3 _ hoR)
      · rw [hm]
        exact ⟨fun h => by (cases h), fun h => by omega⟩
      · refine ⟨fun hmj => ?_, fun h => by omega⟩
        exfalso
        have hjlt : j < ops.size := by
          rcases Nat.lt_or_ge j ops.size with h | h
          · exact h
          · have : m.getD j false = false := by
              simp [Array.getD_eq_getD_getElem?, Array.getElem?_eq_none (by rw [hI.len]; exact h)]
            rw [this] at hmj; cases hmj
        obtain ⟨oj, hoj⟩ : ∃ o, ops[j]? = some o := ⟨_, Array.getElem?_eq_getElem hjlt⟩
        obtain ⟨_, Rj, Uj, _, hrcj, hconfj, _⟩ := hall j oj hoj
        rw [h1] at hrcj
        simp only [Option.some.injEq, Prod.mk.injEq] at hrcj
        obtain ⟨rfl, rfl⟩ := hrcj
        have hi' : (rc.take j)[i]? = some (R, U) := by rw [List.getElem?_take, if_pos hgt]; exact hrc
        rcases okConf_get hconfj hi' with hb | ⟨h3, _, _⟩
        · rw [Nat.zero_add] at hb
          have := hI.closed j i hmj hb
          rw [hm] at this; cases this
        · exact h3 _ hxU hoR
    have hev : ∀ x y, evA tm ops.toList cl i (res.take i) x = some y → RV ρ M w y (a.eval x) := fun x y hx => by
      have old : ∀ t, tm[t]? = some y → (∀ j, dstOf ops j = some t → m.getD j false = false) → RV ρ M w y (a.eval (.tmp t)) := fun t h1 h2 => by
        obtain ⟨v, e1, e2⟩ := hsl t y h1
        rw [eval_of ((hI.low t h2).trans e1)]
        exact e2.st hI.tr
      unfold evA at hx
      split at hx
      · cases hx; exact rfl
      · cases hx
        show Rp ρ M w (.fn _ [] []) [_]
        unfold Rp
        exact ⟨#[], #[], rfl, by unfold Rps; rfl, by unfold Rps; rfl⟩
      · cases hx
      · rename_i t
        split at hx
        · rename_i j hj
          obtain ⟨_, oj, e1, e2⟩ := fdst_some hj
          have hdj : dstOf ops j = some t := by
            unfold dstOf
            rw [← Array.getElem?_toList]
            rw [Nat.sub_zero] at e1
            rw [e1]
            exact e2
          split at hx
          · rename_i hlt
            split at hx
            · rename_i hb
              obtain ⟨v, e3, e4⟩ := hI.facts j t y (hcl j hb) hdj (hres j y hx)
              rw [eval_of e3]
              exact e4
            · cases hx
          · split at hx
            · rename_i hb
              refine old t hx fun j' hj' => ?_
              have := dsts_inj hd1 hdj hj'
              subst this
              rw [Bool.or_eq_true] at hb
              rcases hb with hb | hb
              · rw [Nat.eq_of_beq_eq_true hb]; exact hm
              · cases hmj : m.getD j false with
                | false => rfl
                | true => have := hI.closed j i hmj hb; rw [hm] at this; cases this
            · cases hx
        · rename_i hj
          refine old t hx fun j' hj' => ?_
          exfalso
          unfold dstOf at hj'
          rw [← Array.getElem?_toList] at hj'
          obtain ⟨o', e1, e2⟩ := Option.bind_eq_some_iff.1 hj'
          exact fdst_none hj o' (List.mem_of_getElem? e1) e2
    have hdoes := opA_sound hT hcf hop hs hag hev hdom0 (by omega)
    refine hdoes.upon (fun v w' hp => ?_) rfl
    obtain ⟨ρ', M', ht, hv, hRH, hdm, hsup, hmon, hbnd, hfr, hkp⟩ := hp
    obtain ⟨p1, p2, p3, p4⟩ := put_parts hd1 hdl hI hi hm ho hr ht hv
    refine ⟨ρ', M', upd H U, p1, p2, p3, hlen', hclosed', p4, hRH, fun x k h => ?_, fun x p e => ?_, hbnd, hI.tr.trans ht, fun b h => hsup b (hI.sup b h), fun b h => ?_, hI.fr.trans hfr, fun x b g c h1 h2 h3 => ?_⟩
    · by_cases hx : ∃ y ∈ U, y.1 = x
      · have hik : i < k := (h i R U hrc hx).1 hset
        have hskip : lk (hsP H0 (rc.take k)) x = lk (hsP H0 (rc.take (i + 1))) x := hsP_skip hik fun j R' U' h1 h2 h3 y hy => by
          rintro rfl
          have hmj := (h j R' U' h3 ⟨y, hy, rfl⟩).2 h2
          have hne : i ≠ j := by omega
          rw [getD_set_ne false hne] at hmj
          have hjlt : j < ops.size := by
            rcases Nat.lt_or_ge j ops.size with h | h
            · exact h
            · have : m.getD j false = false := by
                simp [Array.getD_eq_getD_getElem?, Array.getElem?_eq_none (by rw [hI.len]; exact h)]
              rw [this] at hmj; cases hmj
          obtain ⟨oj, hoj⟩ : ∃ o, ops[j]? = some o := ⟨_, Array.getElem?_eq_getElem hjlt⟩
          obtain ⟨_, Rj, Uj, _, hrcj, hconfj, _⟩ := hall j oj hoj
          rw [h3] at hrcj
          simp only [Option.some.injEq, Prod.mk.injEq] at hrcj
          obtain ⟨rfl, rfl⟩ := hrcj
          have hi' : (rc.take j)[i]? = some (R, U) := by rw [List.getElem?_take, if_pos (by omega)]; exact hrc
          rcases okConf_get hconfj hi' with hb | ⟨_, h5, _⟩
          · rw [Nat.zero_add] at hb
            have := hI.closed j i hmj hb
            rw [hm] at this; cases this
          · obtain ⟨z, hz, e⟩ := hx
            exact h5 y.1 (List.mem_map.2 ⟨y, hy, rfl⟩) (List.mem_map.2 ⟨z, hz, e⟩)
        rw [hskip, List.take_add_one, hrc, Option.toList_some, hsP_snoc, lk_append]
        exact upd_in hx
      · have hx' : ∀ y ∈ U, y.1 ≠ x := fun y hy e => hx ⟨y, hy, e⟩
        rw [upd_out hx']
        refine hI.hc x k fun j R' U' h1 h2 => ?_
        rw [← h j R' U' h1 h2]
        have hne : i ≠ j := by
          rintro rfl
          rw [hrc] at h1
          simp only [Option.some.injEq, Prod.mk.injEq] at h1
          rw [← h1.2] at h2
          exact hx h2
        rw [getD_set_ne false hne]
    · rcases hdm x p e with h | h
      · rcases hI.dom x p h with h | ⟨j, h1, h2, h3⟩
        · exact .inl h
        · exact .inr ⟨j, h1, getD_set_true h2, h3⟩
      · exact .inr ⟨i, hi, hset, h⟩
    · rcases hmon b h with h | h
      · exact hI.mon b h
      · exact .inr (Nat.le_trans hI.fr.size h)
    · have hUx := h2 i R U hset hrc
      have hH : H x = some b := by
        rw [hI.hc x 0 fun j R' U' h4 ⟨y, hy, e⟩ => ⟨fun hmj => absurd e (h2 j R' U' (getD_set_true hmj) h4 y hy), fun h => by omega⟩]
        exact h1
      have hk := hI.kp x b g c h1 (fun j R' U' h4 h5 => h2 j R' U' (getD_set_true h4) h5) h3
      exact (hkp x b g c hH hUx (hI.tr.ext _ _ h3)).trans hk
  · rw [if_neg (by rw [hguard _ hg]; simp)]
    obtain ⟨p1, p2, p3, p4⟩ := put_parts (v := undef) hd1 hdl hI hi hm ho hr (Tr.refl _ _ _) rfl
    refine ⟨ρ, M, H, p1, p2, p3, hlen', hclosed', p4, hI.heap, noU rfl, fun x p e => ?_, hI.bnd, hI.tr, hI.sup, hI.mon, hI.fr, fun x b g c h1 h2 h3 => hI.kp x b g c h1 (fun j R' U' h4 h5 => h2 j R' U' (getD_set_true h4) h5) h3⟩
    rcases hI.dom x p e with h | ⟨j, h1, h2, h3⟩
    · exact .inl h
    · exact .inr ⟨j, h1, getD_set_true h2, h3⟩
end
end Go.Proofs.YtgaehhapjnbieaaGreat
namespace Go.Proofs.YtgaehhapjnbieaaGreat
open Go.RowKit
variable [Env]
structure FS (A : Nat → Prop) (W0 : World) (ρ0 : Rho) (M0 : Nat → Prop) (H0 : HP) (n0 : Nat) (s : Fm) (ρ : Rho) (M : Nat → Prop) (a : Act) (w : World) : Prop where
  size : a.tmps.size = s.tm.length
  defers : a.defers = []
  slots : ∀ (t : Nat) (x : AV), s.tm[t]? = some x → ∃ v, a.tmps[t]? = some v ∧ RV ρ M w x v
  heap : RH ρ M A w (lk s.H)
  dom : ∀ o p, ρ o = some p → o < s.nx
  nx : n0 ≤ s.nx
  bnd : ∀ b, M b → b < w.heap.size
  fr : FrA A W0 w
  tr : Tr ρ0 M0 W0 ρ M w
  sup : ∀ b, M0 b → M b
  mon : ∀ b, M b → M0 b ∨ W0.heap.size ≤ b
  old : ∀ o p, ρ o = some p → ρ0 o = some p ∨ n0 ≤ o
  kp : ∀ o, o < n0 → (∀ x ∈ s.wr, x ≠ o) → lk s.H o = lk H0 o ∧ ∀ b g c, lk H0 o = some b → ρ0 o = some (g, c) → w.heap[g]? = W0.heap[g]?
def tmN (opsL : List Oper) (res : List AV) : List AV → Nat → List AV
  | [], _ => []
  | a :: r, t => (match fdst t opsL 0 with | some j => res.getD j a | none => a) :: tmN opsL res r (t + 1)
theorem tmN_get {opsL : List Oper} {res : List AV} : ∀ {l : List AV} {t k : Nat}, (tmN opsL res l t)[k]? = (l[k]?).map fun a => match fdst (t + k) opsL 0 with | some j => res.getD j a | none => a
  | [], _, _ => by simp [tmN]
  | a :: r, t, 0 => by simp [tmN]
  | a :: r, t, k + 1 => by
    unfold tmN
    rw [List.getElem?_cons_succ, tmN_get, List.getElem?_cons_succ, show t + 1 + k = t + (k + 1) by omega]
theorem tmN_len {opsL : List Oper} {res : List AV} : ∀ {l : List AV} {t : Nat}, (tmN opsL res l t).length = l.length
  | [], _ => rfl
  | a :: r, t => by simp [tmN, tmN_len]
def planA (draw : Bool) (ops : Array Oper) (cl : List Nat) (N : Nat) : Bool := dagB ops && dstsB ops && cloOK draw ops cl && ops.toList.all fun o => match o.dst with | none => true | some d => Nat.blt d N
def domsOf : List RC → List Nat
  | [] => []
  | p :: r => p.2.map (·.1) ++ domsOf r
theorem domsOf_mem {x : Nat} : ∀ {l : List RC} {p : RC}, p ∈ l → x ∈ p.2.map (·.1) → x ∈ domsOf l
  | [], _, h, _ => by cases h
  | q :: r, p, h, hx => by
    unfold domsOf
    rcases List.mem_cons.1 h with rfl | h
    · exact List.mem_append.2 (.inl hx)
    · exact List.mem_append.2 (.inr (domsOf_mem h hx))
noncomputable def regionA (T : Tb) (cf : CallF) (draw : Bool) (ops : Array Oper) (s : Fm) : Option Fm :=
  if planA draw ops (cloG draw ops.toList 0 []) s.tm.length then
    match opsA T cf s.tm ops.toList (cloG draw ops.toList 0 []) s.nx (s.nx + 16 * ops.size) ops.toList 0 [] s.H [] with
    | some p => some ⟨tmN ops.toList p.1 s.tm 0, p.2.1, s.nx + 16 * ops.size, s.wr ++ domsOf p.2.2⟩
    | none => none
  else none
section
variable {T : Tb} {cf : CallF} {A : Nat → Prop} {W0 : World} {ρ0 : Rho} {M0 : Nat → Prop} {H0 : HP} {n0 : Nat} {s s' : Fm} {ρ1 : Rho} {M1 : Nat → Prop} {a0 : Act} {w1 : World} {ops : Array Oper} {draw : Bool} {Q : Exit → Act → World → Prop}
theorem any_gen {ops : Array Oper} {I : Array Bool → Act → World → Prop} (hdag : dagB ops = true) (hlen : ∀ m a w, I m a w → m.size = ops.size)
    (hs : ∀ m a w i, I m a w → i ∈ Region.ready .any ops m → wpOp Tryz.prog ops Q i (fun a' w' => I (m.setIfInBounds i true) a' w') a w)
    (fin : ∀ m a w, I m a w → (∀ i, i < ops.size → m.getD i false = true) → Q .normal a w) :
    ∀ (fuel : Nat) (m : Array Bool) (a : Act) (w : World), cnt ops.size m ≤ fuel → I m a w → wpAny Tryz.prog .any ops Q fuel m a w := by
  intro fuel
  induction fuel with
  | zero =>
    intro m a w hc hI
    have hr : Region.ready .any ops m = [] := by
      apply List.eq_nil_iff_forall_not_mem.2
      intro i hi
      obtain ⟨h0, o, ho, _⟩ := mem_ready.1 hi
      have := cnt_set (Array.getElem?_eq_some_iff.1 ho).1 (hlen _ _ _ hI) h0
      omega
    exact ⟨hr, fin m a w hI (ready_nil hdag (hlen _ _ _ hI) hr)⟩
  | succ fuel ih =>
    intro m a w hc hI
    refine ⟨fun hr => fin m a w hI (ready_nil hdag (hlen _ _ _ hI) hr), fun i hi => ?_⟩
    obtain ⟨h0, o, ho, _⟩ := mem_ready.1 hi
    have hlt := (Array.getElem?_eq_some_iff.1 ho).1
    refine wpOp_mono (fun a' w' hI' => ih _ a' w' ?_ hI') (hs m a w i hI hi)
    have := cnt_set hlt (hlen _ _ _ hI) h0
    omega
theorem seq_gen {ops : Array Oper} {I : Array Bool → Act → World → Prop}
    (hs : ∀ m a w i, i < ops.size → I m a w → (∀ j, m.getD j false = decide (j < i)) → wpOp Tryz.prog ops Q i (fun a' w' => I (m.setIfInBounds i true) a' w') a w) (hlen : ∀ m a w, I m a w → m.size = ops.size)
    (fin : ∀ m a w, I m a w → (∀ i, i < ops.size → m.getD i false = true) → Q .normal a w) :
    ∀ (j k : Nat) (m : Array Bool) (a : Act) (w : World), k + j = ops.size → (∀ i, m.getD i false = decide (i < k)) → I m a w → wpOps Tryz.prog ops Q (List.range' k j) a w := by
  intro j
  induction j with
  | zero =>
    intro k m a w hk hm hI
    exact fin m a w hI (fun i hi => by rw [hm i]; simp; omega)
  | succ j ih =>
    intro k m a w hk hm hI
    rw [List.range'_succ, wpOps_cons]
    have hlt : k < ops.size := by omega
    refine wpOp_mono (fun a' w' hI' => ih (k + 1) _ a' w' (by omega) (fun i => ?_) hI') (hs m a w k hlt hI hm)
    by_cases e : k = i
    · subst e
      simp [Array.getD_eq_getD_getElem?, show k < m.size by rw [hlen _ _ _ hI]; exact hlt]
    · rw [getD_set_ne false e, hm i]
      simp; omega
theorem region_sound (hT : TbOK T) (hcf : CallOK cf) {id : Nat} (h : regionA T cf draw ops s = some s') (hA : ∀ b, W0.heap.size ≤ b → A b) (hF : FS A W0 ρ0 M0 H0 n0 s ρ1 M1 a0 w1) (k : ∀ ρ M a w, FS A W0 ρ0 M0 H0 n0 s' ρ M a w → Q .normal a w) : (Code.region id ops draw).wp Tryz.prog Q a0 w1 := by
  unfold regionA at h
  split at h
  · rename_i hpl
    generalize cloG draw ops.toList 0 [] = cl at h hpl
    unfold planA at hpl
    simp only [Bool.and_eq_true] at hpl
    obtain ⟨⟨⟨hdag, hdst⟩, hclo⟩, hdl⟩ := hpl
    have hdl' : ∀ i d, dstOf ops i = some d → d < s.tm.length := fun i d e => by
      unfold dstOf at e
      obtain ⟨o, h1, h2⟩ := Option.bind_eq_some_iff.1 e
      have := List.all_eq_true.1 hdl o (by simpa using Array.mem_of_getElem? h1)
      have h2 : o.dst = some d := h2
      rw [h2] at this
      exact Nat.le_of_ble_eq_true this
    split at h
    · rename_i p hp
      obtain ⟨res, H', rc⟩ := p
      cases h
      obtain ⟨k1, k2, k3, _, _, k6⟩ := opsA_spec (H0 := s.H) hp rfl rfl rfl
      simp only [Nat.zero_add] at k1 k2
      have hsz0 : ops.toList.length = ops.size := Array.length_toList
      rw [hsz0] at k1 k2
      have hall : ∀ i o, ops[i]? = some o → StepOK T cf s.tm ops.toList cl s.nx (s.nx + 16 * ops.size) s.H res rc i o := fun i o e => by
        have := k6 i o (by rw [Array.getElem?_toList]; exact e)
        rwa [Nat.zero_add] at this
      have hA1 : ∀ b, w1.heap.size ≤ b → A b := fun b hb => hA b (Nat.le_trans hF.fr.size hb)
      let I : Array Bool → Act → World → Prop := fun m a w => ∃ ρ M H, IM A ops s.tm cl s.nx s.H res rc a0 w1 ρ1 M1 m a w ρ M H
      have hlen : ∀ m a w, I m a w → m.size = ops.size := fun m a w ⟨_, _, _, hI⟩ => hI.len
      have step : ∀ m a w i, i < ops.size → m.getD i false = false → (∀ j, bitB (cl.getD i 0) j = true → m.getD j false = true) → I m a w → wpOp Tryz.prog ops Q i (fun a' w' => I (m.setIfInBounds i true) a' w') a w := fun m a w i hi hm hc ⟨ρ, M, H, hI⟩ =>
        im_step hT hcf rfl hdst hdl' hF.dom hA1 hF.slots hall hI hi hm hc
      have fin : ∀ m a w, I m a w → (∀ i, i < ops.size → m.getD i false = true) → Q .normal a w := fun m a w ⟨ρ, M, H, hI⟩ hm => by
        have hrl : ∀ j (p : RC), rc[j]? = some p → j < ops.size := fun j p e => by
          have := (List.getElem?_eq_some_iff.1 e).1
          omega
        have hH : H = lk H' := funext fun o => by
          have := hI.hc o ops.size fun j R U h1 _ => ⟨fun _ => hrl j _ h1, fun h => hm j h⟩
          rw [this, k3, List.take_of_length_le (by omega)]
        refine k ρ M a w ⟨by rw [tmN_len]; exact hI.size, hI.defers, fun t x hx => ?_, by rw [← hH]; exact hI.heap, fun o p e => ?_, Nat.le_trans hF.nx (Nat.le_add_right _ _), hI.bnd, hF.fr.trans hI.fr, hF.tr.trans hI.tr, fun b hb => hI.sup b (hF.sup b hb), fun b hb => ?_, fun o p e => ?_, fun o ho hw => ?_⟩
        · rw [tmN_get, Nat.zero_add] at hx
          obtain ⟨y, hy, hx⟩ := Option.map_eq_some_iff.1 hx
          split at hx
          · rename_i j hj
            obtain ⟨_, oj, e1, e2⟩ := fdst_some hj
            rw [Nat.sub_zero] at e1
            have hdj : dstOf ops j = some t := by
              unfold dstOf
              rw [← Array.getElem?_toList, e1]
              exact e2
            have hjl : j < ops.size := by
              have := (List.getElem?_eq_some_iff.1 e1).1
              rwa [Array.length_toList] at this
            have hrj : res[j]? = some x := by
              rw [← hx, List.getD_eq_getElem?_getD, List.getElem?_eq_getElem (by omega)]
              rfl
            exact hI.facts j t x (hm j hjl) hdj hrj
          · rename_i hj
            subst hx
            obtain ⟨v, e1, e2⟩ := hF.slots t y hy
            refine ⟨v, (hI.low t fun i hi => ?_).trans e1, e2.st hI.tr⟩
            exfalso
            unfold dstOf at hi
            rw [← Array.getElem?_toList] at hi
            obtain ⟨o', e3, e4⟩ := Option.bind_eq_some_iff.1 hi
            exact fdst_none hj o' (List.mem_of_getElem? e3) e4
        · rcases hI.dom o p e with h | ⟨j, h1, _, _, h2⟩
          · have := hF.dom o p h
            show o < s.nx + 16 * ops.size
            omega
          · show o < s.nx + 16 * ops.size
            omega
        · rcases hI.mon b hb with h | h
          · exact hF.mon b h
          · exact .inr (Nat.le_trans hF.fr.size h)
        · rcases hI.dom o p e with h | ⟨j, h1, _, h2, _⟩
          · exact hF.old o p h
          · have := hF.nx
            exact .inr (by omega)
        · have hw1 : ∀ x ∈ s.wr, x ≠ o := fun x hx => hw x (List.mem_append.2 (.inl hx))
          have hw2 : ∀ (j : Nat) (R : List Nat) (U : HP), rc[j]? = some (R, U) → ∀ x ∈ U, x.1 ≠ o := fun j R U h1 x hx => hw x.1 (List.mem_append.2 (.inr (domsOf_mem (List.mem_of_getElem? h1) (List.mem_map.2 ⟨x, hx, rfl⟩))))
          obtain ⟨q1, q2⟩ := hF.kp o ho hw1
          have hsame : lk H' o = lk s.H o := by
            have := hsP_skip (H0 := s.H) (rc := rc) (o := o) (i := 0) (k := rc.length) (Nat.zero_le _) fun j R U _ _ h1 => hw2 j R U h1
            rw [List.take_length] at this
            rw [k3, this]
            rfl
          refine ⟨hsame.trans q1, fun b g c e1 e2 => ?_⟩
          exact (hI.kp o b g c (q1.trans e1) (fun j R U _ h1 => hw2 j R U h1) (hF.tr.ext _ _ e2)).trans (q2 b g c e1 e2)
      have start : ∀ w, (w = w1 ∨ w = w1.drew) → I (Array.replicate ops.size false) a0 w := fun w hw => by
        have hheap : w.heap = w1.heap := by rcases hw with rfl | rfl <;> rfl
        have hm : ∀ i, (Array.replicate ops.size false).getD i false = false := fun i => by
          simp [Array.getD_eq_getD_getElem?, Array.getElem?_replicate]
          split <;> rfl
        have hg : Grow w1 w := ⟨by rw [hheap]; exact Nat.le_refl _, fun _ _ _ e => by rw [hheap]; exact e, fun _ _ _ e => by rw [hheap]; exact e⟩
        have ht : Tr ρ1 M1 w1 ρ1 M1 w := ⟨hg, fun _ _ _ => by rw [hheap], fun _ _ h => h, fun _ _ h => h⟩
        have hfr : FrA A w1 w := by
          rcases hw with rfl | rfl
          · exact FrA.refl _ _
          · exact ⟨rfl, rfl, rfl, Nat.le_refl _, fun _ _ _ => rfl⟩
        refine ⟨ρ1, M1, lk s.H, hF.size, hF.defers, fun _ _ => rfl, by simp, fun i j hi => (by rw [hm i] at hi; cases hi), fun i d r hi => (by rw [hm i] at hi; cases hi), hF.heap.st ht (fun _ h => h) fun _ _ _ _ _ _ => by rw [hheap], fun o kk hk => ?_, fun o p e => .inl e, fun b hb => by rw [hheap]; exact hF.bnd b hb, ht, fun _ h => h, fun _ h => .inl h, hfr, fun _ _ _ _ _ _ _ => by rw [hheap]⟩
        have := hsP_skip (H0 := s.H) (rc := rc) (o := o) (i := 0) (k := kk) (Nat.zero_le _) fun j R U _ h2 h1 x hx e => by
          have := (hk j R U h1 ⟨x, hx, e⟩).2 h2
          rw [hm] at this
          cases this
        rw [this]
        rfl
      have hcl : ∀ i, i < ops.size → cl.getD i 0 = if draw then orL cl (deps ops i) else 2 ^ i - 1 := fun i hi => Nat.eq_of_beq_eq_true (List.all_eq_true.1 hclo i (List.mem_range.2 hi))
      cases draw with
      | true =>
        refine wp_region_any (by kernel_rfl) ?_
        refine any_gen (I := I) hdag hlen (fun m a w i hI hr => ?_) fin _ _ _ _ ?_ (start w1.drew (.inr rfl))
        · obtain ⟨ρ, M, H, hI'⟩ := hI
          refine step m a w i (lt_of_ready hr) (ready_not hr) (fun j hj => ?_) ⟨ρ, M, H, hI'⟩
          rw [hcl i (lt_of_ready hr)] at hj
          obtain ⟨x, hx, hj⟩ := orL_bit hj
          have hmx := ready_dep hr hx
          rcases hj with rfl | hj
          · exact hmx
          · exact hI'.closed x j hmx hj
        · unfold cnt
          exact Nat.le_trans (List.length_filter_le _ _) (by simp)
      | false =>
        refine wp_region ?_
        rw [List.range_eq_range']
        refine seq_gen (I := I) (fun m a w i hi hI hm => ?_) hlen fin _ 0 (Array.replicate ops.size false) _ _ (by omega) (fun i => ?_) (start w1 (.inl rfl))
        · refine step m a w i hi (by rw [hm]; simp) (fun j hj => ?_) hI
          rw [hcl i hi] at hj
          have hj : Nat.testBit (2 ^ i - 1) j = true := hj
          rw [Nat.testBit_two_pow_sub_one] at hj
          rw [hm]
          exact hj
        · simp [Array.getD_eq_getD_getElem?, Array.getElem?_replicate]
          split <;> rfl
    · cases h
  · cases h
end
inductive OutA where
  | fall (s : Fm)
  | ret (s : Fm)
  | exit (n : Nat) (s : Fm)
end Go.Proofs.YtgaehhapjnbieaaGreat
