/- The laws' number. -/
import Derived.Test.YtgaehhapjnbieaaGreatqVv
import Derived.Test.YtgaehhapjnbieaaGreatqQ2
set_option linter.unusedSectionVars false
set_option linter.unusedVariables false
set_option linter.unusedSimpArgs false
namespace Go.Proofs.YtgaehhapjnbieaaGreat
open Go.RowKit
theorem int_divInt (z : Int) : Rat.divInt z 1 = (z : Rat) := by
 rw [Rat.divInt_eq_div]
 grind
noncomputable def pMadeC : PE := ⟨50, fun xs => match xs with
 | [.ext 1 false (.ap 57 i _), .ext 1 false (.ap 57 j _)] => some (aQ (.ap 39 i j) 1)
 | _ => none⟩
theorem i64b_out {V : VL} {ρ : Rho} {M : Nat → Prop} {w : World} {i d : CE} {v : Value} (h : @RV1 (envD V) ρ M w (.ext 1 false (.ap 57 i d)) v) : v = .int .i64 (zD V i) ∧ -128 ≤ zD V i ∧ zD V i ≤ 127 := by
 have h : @Rp (envD V) ρ M w _ [v] := h
 unfold Rp at h
 exact ⟨(List.cons.inj h.2.1).1, h.2.2⟩
theorem made39 {V : VL} {i j : CE} (h1 : -128 ≤ zD V i ∧ zD V i ≤ 127) (h2 : -128 ≤ zD V j ∧ zD V j ≤ 127) : RSm (qD V (.ap 39 i j)) 1 := by
 simp only [qD]
 have s : ∀ z : Int, -128 ≤ z ∧ z ≤ 127 → Sm z 1 := fun z h => by unfold Sm; omega
 split
 ·exact RSm.whole (i := 0) (s _ h1)
 ·rename_i h0
  exact RSm.of (s _ h1) (s _ h2) h0
theorem pMadeC_ok {V : VL} : @PE.ok (envD V) pMadeC := by
 intro xs r e
 refine ⟨fun _ _ => by simp [pMadeC, go_sem], fun ρ M w vs hm0 hv => ?_⟩
 simp only [pMadeC] at e
 split at e
 ·rename_i i d j d'
  cases e
  obtain ⟨va, _, rfl, h1, vb, _, rfl, h2, h3⟩ := hv
  have h3 : _ = [] := h3
  subst h3
  obtain ⟨rfl, b1⟩ := i64b_out h1
  obtain ⟨rfl, b2⟩ := i64b_out h2
  by_cases h0 : zD V j = 0
  ·rw [h0]
   refine Calls.mono (MadeP_zero (x := zD V i) w (by omega) (by omega)) fun e w' ⟨v, e1, e2, e3⟩ => ⟨v, e1, @RV1.rv (envD V) ρ M w' _ _ (aQ_in ?_ (made39 b1 b2)), e3⟩
   have hq : qD V (.ap 39 i j) = Rat.divInt (zD V i) 1 := by
    simp only [qD]
    rw [if_pos h0]; exact (int_divInt _).symm
   rw [hq]
   exact e2
  ·refine Calls.mono (MadeP_any w (x := zD V i) (y := zD V j) (by omega) (by omega) (by omega) (by omega) h0) fun e w' ⟨v, e1, e2, e3⟩ => ⟨v, e1, @RV1.rv (envD V) ρ M w' _ _ (aQ_in ?_ (made39 b1 b2)), e3⟩
   have hq : qD V (.ap 39 i j) = Rat.divInt (zD V i) (zD V j) := by
    simp only [qD]
    rw [if_neg h0]
   rw [hq]
   exact e2
 ·cases e
noncomputable def nu_f : Func := Tryz.f12
noncomputable def nu_c : Code := bodyOf nu_f
noncomputable def nu_r := runF (tbF fa0 [pMadeC]) plainL 100 100 (.run nu_c) [] (begS 10 [.agg pd_X2])
set_option maxRecDepth 100000
theorem nu_e : nu_r = some (.done .ret (stopS nu_r)) := by kernel_rfl
theorem nu_x : endA nu_f (stopS nu_r) = some (aQ (.ap 39 (.i 6 0) (.i 7 0)) 1) := by kernel_rfl
theorem nu_b : nu_f.body = some nu_c := by kernel_rfl
theorem nu_n : nu_f.ntmps = 10 := by kernel_rfl
def numOf (x0 x1 : Int) : Rat := if x1 = 0 then (x0 : Rat) else Rat.divInt x0 x1
theorem numOf_sm {x0 x1 : Int} (h1 : -128 ≤ x0 ∧ x0 ≤ 127) (h2 : -128 ≤ x1 ∧ x1 ≤ 127) : RSm (numOf x0 x1) 1 := by
 have s : ∀ z : Int, -128 ≤ z ∧ z ≤ 127 → Sm z 1 := fun z h => by unfold Sm; omega
 unfold numOf
 split
 ·exact RSm.whole (i := 0) (s _ h1)
 ·rename_i h0
  exact RSm.of (s _ h1) (s _ h2) h0
theorem pd_Le {V : VL} : ∀ p ∈ pd_P, Le V V p := by
 intro p hp ρ ρ' M w cs r
 simp only [pd_P, pd_X, List.map_cons, List.map_nil, List.mem_cons, List.not_mem_nil, or_false] at hp
 rcases hp with rfl | rfl | rfl | rfl | rfl <;> (unfold Rp at r ⊢; exact r)
end Go.Proofs.YtgaehhapjnbieaaGreat
namespace Go.Proofs.YtgaehhapjnbieaaGreat
open Go.RowKit
def qsOf : Nat → List AV → Option (List (CE × Nat))
 | 0, _ => some []
 | k + 1, .ext 4 true (.ap 52 q (.lit n)) :: l => (qsOf k l).map ((q, n.toNat) :: ·)
 | _ + 1, _ => none
theorem qsOf_len : ∀ {k : Nat} {l : List AV} {qs : List (CE × Nat)}, qsOf k l = some qs → qs.length = k
 | 0, _, _, h => by unfold qsOf at h; cases h; rfl
 | k + 1, l, qs, h => by
  unfold qsOf at h
  split at h
  ·rename_i h1; omega
  ·obtain ⟨qs', h1, rfl⟩ := Option.map_eq_some_iff.1 h
   rw [List.length_cons, qsOf_len h1]
   omega
  ·cases h
theorem qsOf_cells {V : VL} {ρ : Rho} {M : Nat → Prop} {w : World} : ∀ {k : Nat} {l : List AV} {qs : List (CE × Nat)} {cs : List Value}, qsOf k l = some qs → @Rps (envD V) ρ M w l cs → ∃ xs ys, cs = xs ++ ys ∧ RatCells w (qs.map fun p => qD V p.1) xs ∧ ∀ p ∈ qs, RSm (qD V p.1) p.2
 | 0, _, _, cs, h, _ => by
  unfold qsOf at h
  cases h
  exact ⟨[], cs, rfl, rfl, fun _ h => by cases h⟩
 | k + 1, l, qs, cs, h, r => by
  unfold qsOf at h
  split at h
  ·rename_i h1; omega
  ·rename_i k' q n l' he
   have hk : k' = k := by omega
   subst hk
   obtain ⟨qs', h1, rfl⟩ := Option.map_eq_some_iff.1 h
   unfold Rps at r
   obtain ⟨x, y, rfl, r1, r2⟩ := r
   unfold Rp at r1
   obtain ⟨_, s, a, b, c, d, rfl, i1, i2⟩ := r1
   obtain ⟨xs, ys, rfl, h2, h3⟩ := qsOf_cells h1 r2
   refine ⟨a :: b :: c :: d :: xs, ys, rfl, ⟨a, b, c, d, xs, rfl, i1, i2, h2⟩, fun p hp => ?_⟩
   rcases List.mem_cons.1 hp with rfl | hp
   ·exact s
   ·exact h3 p hp
  ·cases h
def fshQ (k : Nat) : Option (AV × HP) → Option (List (CE × Nat))
 | some (.sl o 0 n _, [(o', some b)]) => if Nat.beq o o' && Nat.beq n k && b.bl.isNone then qsOf n b.cs else none
 | _ => none
theorem vm_fresh {V : VL} {F : Fa} {L : List PE} {f m k : Nat} {xs : List AV} {qs : List (CE × Nat)} (hF : FaOK V F) (hL : ∀ e ∈ L, @PE.ok (envD V) e) (h : fshQ k (callW plainL (runA (tbF F L) plainL m) f xs [] 16 0) = some qs)
  {M : Nat → Prop} {w : World} {vs : List Value} (hm0 : ∀ b, M b → b < w.heap.size) (hv : @RVs (envD V) noR M w xs vs) :
  Calls Tryz.prog f vs.toArray w fun e w' => ∃ u, e = .returned u ∧ (XP.rats (qs.map fun p => qD V p.1)).p M w' [u] ∧ Below w.heap.size w w' := by
 letI := envD V
 generalize hr : callW plainL (runA (tbF F L) plainL m) f xs [] 16 0 = r at h
 unfold fshQ at h
 split at h
 ·rename_i o n cap o' b
  split at h
  ·rename_i hc
   simp only [Bool.and_eq_true] at hc
   obtain ⟨⟨c1, c2⟩, c3⟩ := hc
   have c1 := Nat.eq_of_beq_eq_true c1
   have c2 := Nat.eq_of_beq_eq_true c2
   subst c1
   subst c2
   obtain ⟨_, hcall⟩ := callW_ok plainL_ok (run_ok (tbF_ok hF hL) plainL_ok m).1 f xs [] 16 0 _ _ hr
   have hs : St0 noR M (Own noR w (lk [])) w 0 (lk []) := ⟨⟨fun o b e => (by cases e), fun o o' b b' g c c' e => (by cases e)⟩, hm0, fun _ _ _ => rfl, fun b hb => .inl hb⟩
   refine Calls.mono (hcall noR M w vs hs (fun o p e => (by cases e)) (by decide) hv) fun e w' ⟨v, e1, ρ', M', ht, hv', hR, _, _, _, _, hfr, _⟩ => ⟨v, e1, ?_, ⟨hfr.os, hfr.tape, hfr.output, hfr.size, fun b hb => hfr.keep b hb ?_⟩⟩
   ·have hv' : Rp ρ' M' w' (.sl o 0 n cap) [v] := hv'
    unfold Rp at hv'
    obtain ⟨g, c, kk, q1, q2, q3, _⟩ := hv'
    obtain ⟨g2, c2, arr, cs, ok⟩ := hR.obj o b (by simp [upd])
    have q4 := ok.at_
    rw [q1] at q4
    simp only [Option.some.injEq, Prod.mk.injEq] at q4
    obtain ⟨rfl, rfl⟩ := q4
    have hge : w.heap.size ≤ g := by
     rcases ok.own with h1 | ⟨_, _, _, h1, _⟩
     ·exact h1
     ·cases h1
    obtain ⟨ys, zs, rfl, k1, k2⟩ := qsOf_cells h (ok.cells.rps (Option.isNone_iff_eq_none.1 c3))
    obtain ⟨tl, he, _⟩ := ok.pre
    have hra := range_all ok.blk he
    have hl : (qs.map fun p => qD V p.1).length = n := by rw [List.length_map, qsOf_len h]
    refine ⟨some ⟨g, 0, none⟩, kk, by rw [hl]; exact q2, by rw [hl]; exact q3, fun _ => ⟨g, 0, ys, rfl, fun hm => ?_, lt_of_get ok.blk, fun j x hj => hra j x ?_, k1⟩⟩
    ·have := hm0 g hm
     omega
    ·have hlt : j < ys.length := (List.getElem?_eq_some_iff.1 hj).1
     rw [List.getElem?_append_left hlt]
     exact hj
   ·rintro (h1 | ⟨_, _, _, h1, _⟩)
    ·omega
    ·cases h1
  ·cases h
 ·cases h
def madeR (l : List Rat) (m : Nat) : List Rat := (List.range m).map fun i => numOf (l.getD (2 * i) 0).num (l.getD (2 * i + 1) 0).num
def madeC (l : List Rat) (n : Nat) : List Rat := trimC (madeR l (min (l.length / 2) n))
def md_q (i : Nat) : CE := .ap 39 (.ap 2 (.v 3) (.lit ((2 * i : Nat) : Int))) (.ap 2 (.v 3) (.lit ((2 * i + 1 : Nat) : Int)))
def md_F (lo : Nat) (ex : Bool) (m k : Nat) : Fa := ⟨if ex then [(0, 20, -(lo : Int)), (20, 0, (lo : Int))] else [(0, 20, -(lo : Int) - 1)], [(.ap 77 (.v 3) (.lit 0), 20, 0)], [], ((List.range (m - k)).map fun i => (md_q (k + i), true)) ++ (if k = 0 then [] else [(md_q (k - 1), false)]), [], [], []⟩
def md_xs (n : Nat) : List AV := [.ext 1 false (.ap 56 (.v 3) (.lit 0)), .val (.int .i64 (n : Int))]
noncomputable def md_r (n lo : Nat) (ex : Bool) (m k : Nat) := fshQ k (callW plainL (runA (tbF (md_F lo ex m k) [pMadeC]) plainL 300) 53 (md_xs n) [] 16 0)
def sameQ : List (CE × Nat) → List (CE × Nat) → Bool
 | [], [] => true
 | a :: l, b :: m => CE.beq a.1 b.1 && Nat.beq a.2 b.2 && sameQ l m
 | _, _ => false
theorem sameQ_eq : ∀ {l m : List (CE × Nat)}, sameQ l m = true → l = m
 | [], [], _ => rfl
 | a :: l, b :: m, h => by
  unfold sameQ at h
  rw [Bool.and_eq_true, Bool.and_eq_true] at h
  rw [sameQ_eq h.2, show a = b from Prod.ext (CE.beq_eq h.1.1) (Nat.eq_of_beq_eq_true h.1.2)]
 | [], _ :: _, h => by unfold sameQ at h; cases h
 | _ :: _, [], h => by unfold sameQ at h; cases h
noncomputable def md_t (n lo : Nat) (ex : Bool) (m k : Nat) : Bool := match md_r n lo ex m k with
 | some l => sameQ l ((List.range k).map fun i => (md_q i, 1))
 | none => false
noncomputable def md_ok (n : Nat) : Bool := (List.range (n + 1)).all fun m => (List.range (m + 1)).all fun k => md_t n m true m k && (if Nat.beq m n then md_t n n false n k else true)
set_option maxRecDepth 100000
theorem md_ok3 : md_ok 3 = true := by kernel_rfl
theorem md_ok5 : md_ok 5 = true := by kernel_rfl
end Go.Proofs.YtgaehhapjnbieaaGreat
namespace Go.Proofs.YtgaehhapjnbieaaGreat
open Go.RowKit
section
variable {V V' : VL}
theorem rd_Qn {q q' : CE} {n n' : Nat} (h : qD V q = qD V' q') (s : RSm (qD V' q') n') : Le V V' (aQ q n, aQ q' n') := fun ρ ρ' M w cs r => by
 unfold Rp at r ⊢
 refine ⟨r.1, ?_⟩
 obtain ⟨_, h2⟩ := r.2
 show (XP.num (qD V' q') _).p M w cs
 exact ⟨by simpa using s, by rw [← h]; exact h2⟩
theorem rd_rat {q : Rat} {q' : CE} {n' : Nat} (h : qD V' q' = q) (s : RSm q n') : Le V V' (.rat q, aQ q' n') := fun ρ ρ' M w cs r => by
 unfold Rp at r ⊢
 obtain ⟨a, b, c, d, rfl, h1, h2⟩ := r
 refine ⟨rfl, ?_⟩
 show (XP.num (qD V' q') _).p M w _
 rw [h]
 exact ⟨by simpa using s, a, b, c, d, rfl, h1, h2⟩
theorem rd_val {v : Value} : Le V V' (.val v, .val v) := fun ρ ρ' M w cs r => by
 unfold Rp at r ⊢
 exact r
end
noncomputable def ev_f : Func := Tryz.f33
noncomputable def ev_c : Code := bodyOf ev_f
noncomputable def ev_b : Code := lpB ev_c []
noncomputable def ev_k : List KFr := lpK ev_c []
def ev_V (a : List Rat) (x : Rat) (i : Nat) : VL := ⟨fun k => match k with | 1 => (a.length : Int) | 2 => (i : Int) - 1 | _ => 0, fun k => match k with | 0 => a | _ => [], fun k => match k with | 0 => x | 1 => evalC (a.drop i) x | _ => 0, fun _ => []⟩
def ev_xs : List AV := [aL (.v 0), aQ (.v 0) 40000000]
def ev_L : List (CE × Nat × Int) := [(.v 0, 1, 0)]
def ev_F0 : Fa := ⟨[], ev_L, [], [], [], [], []⟩
def ev_FR : Fa := ⟨[(0, 2, 0), (2, 1, -1)], ev_L, [(.v 0, 90000000)], [], [], [], []⟩
def ev_FX : Fa := ⟨[(2, 0, -1)], ev_L, [], [], [], [], []⟩
def ev_q : CE := .ap 31 (.ap 33 (.v 1) (.v 0)) (.ap 30 (.v 0) (.i 2 0))
def ev_z : List AV := [.val (.bool false), .val (.slice none 0 0), .val (.bool false), .val (.slice none 0 0)]
noncomputable def ev_H : HP := [(16, some ⟨36, 1, [aQ (.v 0) 40000000], false, none⟩), (32, some ⟨36, 1, ev_z, false, none⟩), (64, some ⟨36, 1, [aQ (.v 1) 50000000], false, none⟩)]
noncomputable def ev_s : Fm := mkS ev_f.ntmps [(0, aL (.v 0)), (3, .ptr 16 0), (4, .ptr 32 0), (5, .ptr 64 0), (6, aI 2 0)] ev_H 400
noncomputable def ev_r0 := runF (tbF ev_F0 []) plainL 100 100 (.run ev_c) [] (begS ev_f.ntmps ev_xs)
noncomputable def ev_rr := runF (tbF ev_FR []) plainL 100 100 (.run ev_b) [] ev_s
noncomputable def ev_rx := runF (tbF ev_FX []) plainL 100 100 (.run ev_b) [] ev_s
noncomputable def ev_y := runF (tbF fa0 []) plainL 100 100 (.at_ (.ext 0)) ev_k (stopS ev_rx)
def ev_P : List (AV × AV) := [(aL (.v 0), aL (.v 0)), (aQ (.v 0) 40000000, aQ (.v 0) 40000000), (.val (.bool false), .val (.bool false))]
def ev_d0 : Rd := ⟨(aI 1 (-1), aI 2 0) :: (.rat 0, aQ (.v 1) 50000000) :: ev_P, [], [], [], [], 400⟩
def ev_dr : Rd := ⟨(aI 2 (-1), aI 2 0) :: (aQ ev_q 180000001, aQ (.v 1) 50000000) :: ev_P, [], [], [], [], 400⟩
set_option maxRecDepth 100000
theorem ev_e0 : ev_r0 = some (.loop ev_b ev_k (stopS ev_r0)) := by kernel_rfl
theorem ev_er : ev_rr = some (.done .nor (stopS ev_rr)) := by kernel_rfl
theorem ev_ex : ev_rx = some (.done (.ext 0) (stopS ev_rx)) := by kernel_rfl
theorem ev_ey : ev_y = some (.done .ret (stopS ev_y)) := by kernel_rfl
theorem ev_m0 : wkF ev_d0 16 (stopS ev_r0) ev_s = true := by kernel_rfl
theorem ev_mr : wkF ev_dr 16 (stopS ev_rr) ev_s = true := by kernel_rfl
theorem ev_b0 : below 16 ev_s.H = below 16 (stopS ev_r0).H := by kernel_rfl
theorem ev_br : below 16 ev_s.H = below 16 (stopS ev_rr).H := by kernel_rfl
theorem ev_res : resA (stopS ev_y) ev_f.results.toList = some [aQ (.v 1) 50000000] := by kernel_rfl
theorem ev_bo : ev_f.body = some ev_c := by kernel_rfl
theorem ev_ln : Nat.ble 2 ev_f.ntmps = true := by kernel_rfl
section
variable {a : List Rat} {x : Rat}
theorem ev_le {i j : Nat} : ∀ p ∈ ev_P, Le (ev_V a x i) (ev_V a x j) p := by
 intro p hp
 simp only [ev_P, List.mem_cons, List.not_mem_nil, or_false] at hp
 rcases hp with rfl | rfl | rfl
 ·exact rd_L rfl
 ·exact rd_Q rfl
 ·exact rd_val
theorem evalC_drop {i : Nat} (h : i < a.length) : evalC (a.drop i) x = evalC (a.drop (i + 1)) x * x + a.getD i 0 := by
 rw [List.drop_eq_getElem_cons h, List.getD_eq_getElem?_getD, List.getElem?_eq_getElem h]
 rfl
theorem kEvalL (sa : ∀ y ∈ a, RSm y 90000000) (sx : RSm x 40000000) (ha : a.length ≤ 1000000) (sy : ∀ i, i ≤ a.length → RSm (evalC (a.drop i) x) 50000000) {M : Nat → Prop} {w : World} {va vx : Value} (hm0 : ∀ b, M b → b < w.heap.size) (hva : (XP.rats a).p M w [va]) (hvx : (ratF x).p vx w) :
  Calls Tryz.prog 33 #[va, vx] w (GivesP (ratF (evalC a x)) w) := by
 have hv : @RVs (envD (ev_V a x a.length)) noR M w ev_xs [va, vx] := ⟨va, _, rfl, aL_in (V := ev_V a x a.length) (e := .v 0) hva, vx, _, rfl, aQ_in (V := ev_V a x a.length) (q := .v 0) hvx sx, rfl⟩
 have sm : ∀ {i}, i ≤ a.length → ∀ k, -1152921504606846976 ≤ (ev_V a x i).z k ∧ (ev_V a x i).z k ≤ 1152921504606846976 := fun {i} hi k => by
  show -1152921504606846976 ≤ (match k with | 1 => (a.length : Int) | 2 => (i : Int) - 1 | _ => 0) ∧ (match k with | 1 => (a.length : Int) | 2 => (i : Int) - 1 | _ => 0) ≤ (1152921504606846976 : Int)
  split <;> omega
 have hlen : ∀ {i}, ∀ y ∈ ev_L, ((lD (ev_V a x i) y.1).length : Int) = (ev_V a x i).z y.2.1 + y.2.2 := fun {i} => by simp [ev_L, ev_V, lD]
 refine Calls.mono (@am_callsX (envD (ev_V a x a.length)) _ ev_f ev_c ev_xs ev_xs (fun u w' => (ratF (evalC a x)).p u w') noR M w [va, vx] Tryz.func33 ev_bo (by rfl) (Nat.le_of_ble_eq_true ev_ln) hm0 hv fun a' hS => ?_) fun e w' h => h
 have F0 : FaOK (ev_V a x a.length) ev_F0 := ⟨rfl, sm (Nat.le_refl _), by simp [ev_F0], hlen, by simp [ev_F0], by simp [ev_F0], by simp [ev_F0], by simp [ev_F0], by simp [ev_F0]⟩
 show holds _ [] a' w (.run ev_c)
 refine am_go F0 (fun _ h => by cases h) _ ev_e0 hS fun ρ M' a' w' hS => ?_
 obtain ⟨ρ, M', hS⟩ := am_move (E' := envD (ev_V a x a.length)) ev_d0 (rd_ok (fun p hp => by
  rcases List.mem_cons.1 hp with rfl | hp
  ·exact rd_I (by show (a.length : Int) + -1 = (a.length : Int) - 1 + 0; omega)
  rcases List.mem_cons.1 hp with rfl | hp
  ·refine rd_rat ?_ (rsm0.mono (by decide))
   show evalC (a.drop a.length) x = 0
   rw [List.drop_length]
   rfl
  ·exact ev_le p hp) rfl rfl rfl) hm0 ev_m0 ev_b0 hS
 refine am_loop (fun i => i) (ev_V a x) (fun i => i ≤ a.length) ev_s ?_ a.length (Nat.le_refl _) hS
 intro i hi ρ M' a' w' hS
 show holds _ [] a' w' (.run ev_b)
 cases i with
 | zero =>
  have FX : FaOK (ev_V a x 0) ev_FX := ⟨rfl, sm (Nat.zero_le _), by simp [ev_FX, ev_V], hlen, by simp [ev_FX], by simp [ev_FX], by simp [ev_FX], by simp [ev_FX], by simp [ev_FX]⟩
  refine am_go FX (fun _ h => by cases h) _ ev_ex hS fun ρ M' a' w' hS => ?_
  show holds _ ev_k a' w' (.at_ (.ext 0))
  refine am_go (fa0_ok rfl (sm (Nat.zero_le _))) (fun _ h => by cases h) _ ev_ey hS fun ρ M' a' w' hS => ?_
  exact ⟨.inr rfl, envD (ev_V a x 0), _, ρ, M', _, aQ (.v 1) 50000000, hS, ev_res, rfl, fun v hv => (aQ_out (V := ev_V a x 0) (q := .v 1) (ρ := ρ) hv).1⟩
 | succ i =>
  have FR : FaOK (ev_V a x (i + 1)) ev_FR := ⟨rfl, sm hi, by simp [ev_FR, ev_V]; omega, hlen, by simpa [ev_FR, ev_V, lD] using sa, by simp [ev_FR], by simp [ev_FR], by simp [ev_FR], by simp [ev_FR]⟩
  refine am_go FR (fun _ h => by cases h) _ ev_er hS fun ρ M' a' w' hS => ?_
  obtain ⟨ρ, M', hS⟩ := am_move (E' := envD (ev_V a x i)) ev_dr (rd_ok (fun p hp => by
   rcases List.mem_cons.1 hp with rfl | hp
   ·exact rd_I (by show ((i + 1 : Nat) : Int) - 1 + -1 = (i : Int) - 1 + 0; omega)
   rcases List.mem_cons.1 hp with rfl | hp
   ·refine rd_Qn ?_ (sy i (by omega))
    have hz : (zD (ev_V a x (i + 1)) (.i 2 0)).toNat = i := by show (((i + 1 : Nat) : Int) - 1 + 0).toNat = i; omega
    simp only [ev_q, qD, lD, hz]
    exact (evalC_drop (by omega)).symm
   ·exact ev_le p hp) rfl rfl rfl) hm0 ev_mr ev_br hS
  exact ⟨i, ρ, M', by omega, by omega, hS⟩
end
end Go.Proofs.YtgaehhapjnbieaaGreat
