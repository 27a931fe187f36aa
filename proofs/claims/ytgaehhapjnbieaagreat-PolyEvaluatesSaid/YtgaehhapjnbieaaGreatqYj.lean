/- Package poly: Shift. -/
import Derived.Test.YtgaehhapjnbieaaGreatqWq
import Derived.Test.YtgaehhapjnbieaaGreatqVv
set_option linter.unusedSectionVars false
set_option linter.unusedVariables false
set_option linter.unusedSimpArgs false
namespace Go.Proofs.YtgaehhapjnbieaaGreat
open Go.RowKit
noncomputable def sf_f : Func := Tryz.f35
noncomputable def sf_c : Code := bodyOf sf_f
noncomputable def sf_b : Code := lpB sf_c []
noncomputable def sf_k : List KFr := lpK sf_c []
noncomputable def sf_b2 : Code := lpB sf_b []
noncomputable def sf_k2 : List KFr := lpK sf_b []
noncomputable def sf_t : Code := cr (cr (cr sf_c))
def sf_V (a : List Rat) (c : Rat) (R : List Rat) (i k : Nat) : VL := ⟨fun m => match m with | 1 => (a.length : Int) | 6 => (i : Int) | 7 => (a.length : Int) - 2 - k | _ => 0, fun m => match m with | 0 => a | 9 => shOut a c a.length a.length | _ => [], fun m => match m with | 0 => c | _ => 0, fun m => match m with | 1 => R.map some | _ => []⟩
def sf_xs : List AV := [aL (.v 0), aQ (.v 0) 10000000]
def sf_n : CE := .ap 61 (.i 1 0) (.lit 0)
def sf_o : CE := .ap 60 (.v 1) (.lit 0)
def sf_L : List (CE × Nat × Int) := [(.v 0, 1, 0), (.v 9, 1, 0)]
def sf_F0 : Fa := ⟨[(0, 1, -1), (1, 0, 1000000)], sf_L, [], [], [], [], []⟩
def sf_FA : Fa := ⟨[(0, 1, 0), (6, 1, -1)], sf_L, [], [], [], [], []⟩
def sf_FX : Fa := ⟨[(1, 6, 0)], sf_L, [], [], [], [], []⟩
def sf_FB : Fa := ⟨[(0, 7, 0), (6, 7, 0), (7, 1, -2)], sf_L, [], [], [(.v 1, 1, 0)], [(.v 1, 30000000)], []⟩
def sf_FY : Fa := ⟨[(7, 6, -1)], sf_L, [], [], [], [], []⟩
def sf_FT : Fa := ⟨[(1, 0, 1000000)], sf_L, [(.v 9, 30000000)], [], [], [], []⟩
noncomputable def sf_H : HP := [(16, some ⟨36, 1, [aQ (.v 0) 10000000], false, none⟩), (64, some ⟨36, 4, [], true, some sf_o⟩)]
noncomputable def sf_s : Fm := mkS sf_f.ntmps [(3, .ptr 16 0), (5, .slx 64 sf_n), (11, aI 1 0), (12, aI 6 0)] sf_H 1000
noncomputable def sf_s2 : Fm := mkS sf_f.ntmps [(3, .ptr 16 0), (5, .slx 64 sf_n), (6, aI 6 0), (7, aI 7 0), (11, aI 1 0), (12, aI 6 0)] sf_H 2000
noncomputable def sf_s3 : Fm := mkS sf_f.ntmps [(5, aL (.v 9))] [] 3000
noncomputable def sf_r0 := runF (tbF sf_F0 []) plainL 100 100 (.run sf_c) [] (begS sf_f.ntmps sf_xs)
noncomputable def sf_rA := runF (tbF sf_FA []) plainL 100 100 (.run sf_b) [] sf_s
noncomputable def sf_rX := runF (tbF sf_FX []) plainL 100 100 (.run sf_b) [] sf_s
noncomputable def sf_rB := runF (tbF sf_FB []) plainL 100 100 (.run sf_b2) [] sf_s2
noncomputable def sf_rY := runF (tbF sf_FY []) plainL 100 100 (.run sf_b2) [] sf_s2
noncomputable def sf_yY := runF (tbF fa0 []) plainL 100 100 (.at_ (.ext 2)) sf_k2 (stopS sf_rY)
noncomputable def sf_rT := runF (tbF sf_FT [pTrim sf_FT]) plainL 100 100 (.run sf_t) [] sf_s3
def sf_q : CE := .ap 31 (.ap 35 (.v 1) (.i 7 0)) (.ap 33 (.v 0) (.ap 35 (.v 1) (.i 7 1)))
def sf_P : List (AV × AV) := [(aQ (.v 0) 10000000, aQ (.v 0) 10000000), (aI 1 0, aI 1 0)]
def sf_nP : List (CE × CE) := [(sf_n, sf_n)]
def sf_d0 : Rd := ⟨(.val (.int .i64 0), aI 6 0) :: sf_P, sf_nP, [(.ap 60 (.ap 42 (.v 0) (.lit 0)) (.lit 0), sf_o)], [], [], 1000⟩
def sf_dA : Rd := ⟨(aI 1 (-2), aI 7 0) :: (aI 6 0, aI 6 0) :: sf_P, sf_nP, [(sf_o, sf_o)], [], [], 2000⟩
def sf_dB : Rd := ⟨(aI 7 (-1), aI 7 0) :: (aI 6 0, aI 6 0) :: sf_P, sf_nP, [(.ap 60 (.ap 41 (.v 1) (.ap 0 (.i 7 0) (.ap 52 sf_q (.lit 70000001)))) (.lit 0), sf_o)], [], [], 2000⟩
def sf_dN : Rd := ⟨(aI 6 1, aI 6 0) :: sf_P, sf_nP, [(sf_o, sf_o)], [], [], 1000⟩
def sf_dx : Rd := ⟨[], [], [], [(64, sf_n, sf_o, .ap 51 (.v 9) (.lit 0))], [], 3000⟩
set_option maxRecDepth 100000
theorem sf_e0 : sf_r0 = some (.loop sf_b sf_k (stopS sf_r0)) := by kernel_rfl
theorem sf_eA : sf_rA = some (.loop sf_b2 sf_k2 (stopS sf_rA)) := by kernel_rfl
theorem sf_eX : sf_rX = some (.done (.ext 0) (stopS sf_rX)) := by kernel_rfl
theorem sf_eB : sf_rB = some (.done .nor (stopS sf_rB)) := by kernel_rfl
theorem sf_eY : sf_rY = some (.done (.ext 2) (stopS sf_rY)) := by kernel_rfl
theorem sf_uY : sf_yY = some (.done .nor (stopS sf_yY)) := by kernel_rfl
theorem sf_eT : sf_rT = some (.done .ret (stopS sf_rT)) := by kernel_rfl
theorem sf_res : resA (stopS sf_rT) sf_f.results.toList = some [aL (.ap 70 (.v 9) (.lit 0))] := by kernel_rfl
theorem sf_ke : sf_k = [.bk 0, .sq sf_t] := by kernel_rfl
theorem sf_m0 : wkF sf_d0 16 (stopS sf_r0) sf_s = true := by kernel_rfl
theorem sf_mA : wkF sf_dA 16 (stopS sf_rA) sf_s2 = true := by kernel_rfl
theorem sf_mB : wkF sf_dB 16 (stopS sf_rB) sf_s2 = true := by kernel_rfl
theorem sf_mY : wkF sf_dN 16 (stopS sf_yY) sf_s = true := by kernel_rfl
theorem sf_mx : wkF sf_dx 16 (stopS sf_rX) sf_s3 = true := by kernel_rfl
theorem sf_b0 : below 16 sf_s.H = below 16 (stopS sf_r0).H := by kernel_rfl
theorem sf_bA : below 16 sf_s2.H = below 16 (stopS sf_rA).H := by kernel_rfl
theorem sf_bB : below 16 sf_s2.H = below 16 (stopS sf_rB).H := by kernel_rfl
theorem sf_bY : below 16 sf_s.H = below 16 (stopS sf_yY).H := by kernel_rfl
theorem sf_bx : below 16 sf_s3.H = below 16 (stopS sf_rX).H := by kernel_rfl
theorem sf_bo : sf_f.body = some sf_c := by kernel_rfl
theorem sf_ln : Nat.ble 2 sf_f.ntmps = true := by kernel_rfl
section
variable {a : List Rat} {c : Rat}
theorem sf_le {R R' : List Rat} {i j k l : Nat} : ∀ p ∈ sf_P, Le (sf_V a c R i k) (sf_V a c R' j l) p := by
 intro p hp
 simp only [sf_P, List.mem_cons, List.not_mem_nil, or_false] at hp
 rcases hp with rfl | rfl
 ·exact rd_Q rfl
 ·exact rd_I rfl
theorem sf_rd {R R' : List Rat} {i k i' k' : Nat} {d : Rd} (h1 : ∀ p ∈ d.vs, Le (sf_V a c R i k) (sf_V a c R' i' k') p) (h2 : d.ns = sf_nP) (h3 : ∃ e, d.bs = [(e, sf_o)] ∧ ∀ M w cs, (bD (sf_V a c R i k) e).p M w cs → OptCells w (R'.map some) cs) (h4 : d.rest = []) : RdOK (envD (sf_V a c R i k)) (envD (sf_V a c R' i' k')) d := by
 obtain ⟨e, he, h3⟩ := h3
 refine ⟨h1, fun p hp => ?_, fun p hp M w cs r => ?_, fun p hp => (by rw [h4] at hp; cases hp)⟩
 ·rw [h2] at hp
  simp only [sf_nP, List.mem_singleton] at hp
  subst hp
  rfl
 ·rw [he, List.mem_singleton] at hp
  subst hp
  exact h3 M w cs r
theorem sf_step {R : List Rat} {i k : Nat} (hR : R.length = a.length) (hk : k + 2 ≤ a.length) : rD (sf_V a c R i k) (.ap 41 (.v 1) (.ap 0 (.i 7 0) (.ap 52 sf_q (.lit 70000001)))) = (R.set (a.length - 2 - k) (R.getD (a.length - 2 - k) 0 + c * R.getD (a.length - 1 - k) 0)).map some := by
 have hz : (zD (sf_V a c R i k) (.i 7 0)).toNat = a.length - 2 - k := by show ((a.length : Int) - 2 - k + 0).toNat = _; omega
 have hz1 : (zD (sf_V a c R i k) (.i 7 1)).toNat = a.length - 1 - k := by show ((a.length : Int) - 2 - k + 1).toNat = _; omega
 have get : ∀ m, m < R.length → ((R.map some).getD m none).getD 0 = R.getD m 0 := fun m hm => by
  rw [List.getD_eq_getElem?_getD, List.getD_eq_getElem?_getD, List.getElem?_map, List.getElem?_eq_getElem hm]
  rfl
 have hq : qD (sf_V a c R i k) sf_q = R.getD (a.length - 2 - k) 0 + c * R.getD (a.length - 1 - k) 0 := by
  simp only [sf_q, qD, rD, hz, hz1]
  show ((R.map some).getD (a.length - 2 - k) none).getD 0 + c * ((R.map some).getD (a.length - 1 - k) none).getD 0 = _
  rw [get _ (by omega), get _ (by omega)]
 simp only [rD, hz, hq]
 show (R.map some).set _ _ = _
 rw [List.map_set]
theorem kShiftL1 (sc : RSm c 10000000) (ha : a.length ≤ 1000000) (ha0 : 0 < a.length) (sR : ∀ i, i ≤ a.length → ∀ k, k ≤ a.length - 1 - i → ∀ x ∈ shIn (shOut a c a.length i) c a.length k, RSm x 30000000)
  {M : Nat → Prop} {w : World} {va vc : Value} (hm0 : ∀ b, M b → b < w.heap.size) (hva : (XP.rats a).p M w [va]) (hvc : (ratF c).p vc w) : LCall 35 M w [va, vc] (shiftL a c) := by
 have hv : @RVs (envD (sf_V a c a 0 0)) noR M w sf_xs [va, vc] := ⟨va, _, rfl, aL_in (V := sf_V a c a 0 0) (e := .v 0) hva, vc, _, rfl, aQ_in (V := sf_V a c a 0 0) (q := .v 0) hvc sc, rfl⟩
 have sm : ∀ {R i k}, i ≤ a.length → k ≤ a.length → ∀ m, -1152921504606846976 ≤ (sf_V a c R i k).z m ∧ (sf_V a c R i k).z m ≤ 1152921504606846976 := fun {R i k} hi hk m => by
  show -1152921504606846976 ≤ (match m with | 1 => (a.length : Int) | 6 => (i : Int) | 7 => (a.length : Int) - 2 - k | _ => 0) ∧ (match m with | 1 => (a.length : Int) | 6 => (i : Int) | 7 => (a.length : Int) - 2 - k | _ => 0) ≤ (1152921504606846976 : Int)
  split <;> omega
 have hlen : ∀ {R i k}, ∀ y ∈ sf_L, ((lD (sf_V a c R i k) y.1).length : Int) = (sf_V a c R i k).z y.2.1 + y.2.2 := fun {R i k} => by simp [sf_L, sf_V, lD, shOut_len]
 refine @am_callsX (envD (sf_V a c a 0 0)) _ sf_f sf_c sf_xs sf_xs (fun u w' => (XP.rats (shiftL a c)).p M w' [u]) noR M w [va, vc] Tryz.func35 sf_bo (by rfl) (Nat.le_of_ble_eq_true sf_ln) hm0 hv fun a' hS => ?_
 have HF0 : FaOK (sf_V a c a 0 0) sf_F0 := ⟨rfl, sm (Nat.zero_le _) (Nat.zero_le _), by simp [sf_F0, sf_V]; omega, hlen, by simp [sf_F0], by simp [sf_F0], by simp [sf_F0], by simp [sf_F0], by simp [sf_F0]⟩
 show holds _ [] a' w (.run sf_c)
 refine am_go HF0 (fun _ h => by cases h) _ sf_e0 hS fun ρ M' a' w' hS => ?_
 obtain ⟨ρ, M', hS⟩ := am_move (E' := envD (sf_V a c (shOut a c a.length 0) 0 0)) sf_d0 (sf_rd (fun p hp => by
  rcases List.mem_cons.1 hp with rfl | hp
  ·exact rd_Ic rfl
  ·exact sf_le p hp) rfl ⟨_, rfl, fun M w cs r => by
   change OptCells w (rD (sf_V a c a 0 0) (.ap 42 (.v 0) (.lit 0))) cs at r
   simp only [rD, lD] at r
   exact r⟩ rfl) hm0 sf_m0 sf_b0 hS
 refine am_loop (fun i => a.length - i) (fun i => sf_V a c (shOut a c a.length i) i 0) (fun i => i ≤ a.length) sf_s ?_ 0 (Nat.zero_le _) hS
 intro i hi ρ M' a' w' hS
 show holds _ [] a' w' (.run sf_b)
 by_cases hil : i < a.length
 ·have FA : FaOK (sf_V a c (shOut a c a.length i) i 0) sf_FA := ⟨rfl, sm hi (Nat.zero_le _), by simp [sf_FA, sf_V]; omega, hlen, by simp [sf_FA], by simp [sf_FA], by simp [sf_FA], by simp [sf_FA], by simp [sf_FA]⟩
  refine am_go FA (fun _ h => by cases h) _ sf_eA hS fun ρ M' a' w' hS => ?_
  obtain ⟨ρ, M', hS⟩ := am_move (E' := envD (sf_V a c (shIn (shOut a c a.length i) c a.length 0) i 0)) sf_dA (sf_rd (fun p hp => by
   rcases List.mem_cons.1 hp with rfl | hp
   ·exact rd_I (by show (a.length : Int) + -2 = (a.length : Int) - 2 - (0 : Nat) + 0; omega)
   rcases List.mem_cons.1 hp with rfl | hp
   ·exact rd_I rfl
   ·exact sf_le p hp) rfl ⟨sf_o, rfl, fun M w cs r => r⟩ rfl) hm0 sf_mA sf_bA hS
  refine am_loop (fun k => a.length - k) (fun k => sf_V a c (shIn (shOut a c a.length i) c a.length k) i k) (fun k => k ≤ a.length - 1 - i) sf_s2 ?_ 0 (Nat.zero_le _) hS
  intro k hk ρ M' a' w' hS
  have hRl : (shIn (shOut a c a.length i) c a.length k).length = a.length := by rw [shIn_len, shOut_len]
  show holds _ [] a' w' (.run sf_b2)
  by_cases hkl : k < a.length - 1 - i
  ·have FB : FaOK (sf_V a c (shIn (shOut a c a.length i) c a.length k) i k) sf_FB := ⟨rfl, sm hi (by omega), by simp [sf_FB, sf_V]; omega, hlen, by simp [sf_FB], by simp [sf_FB], by
    intro x hx
    simp only [sf_FB, List.mem_singleton] at hx
    subst hx
    show (((shIn (shOut a c a.length i) c a.length k).map some).length : Int) = (a.length : Int) + 0
    rw [List.length_map, hRl]
    omega, by
    intro x hx y hy
    simp only [sf_FB, List.mem_singleton] at hx
    subst hx
    change y ∈ (shIn (shOut a c a.length i) c a.length k).map some at hy
    obtain ⟨q, hq, rfl⟩ := List.mem_map.1 hy
    exact ⟨q, rfl, sR i hi k (by omega) q hq⟩, by simp [sf_FB]⟩
   refine am_go FB (fun _ h => by cases h) _ sf_eB hS fun ρ M' a' w' hS => ?_
   obtain ⟨ρ, M', hS⟩ := am_move (E' := envD (sf_V a c (shIn (shOut a c a.length i) c a.length (k + 1)) i (k + 1))) sf_dB (sf_rd (fun p hp => by
    rcases List.mem_cons.1 hp with rfl | hp
    ·exact rd_I (by show (a.length : Int) - 2 - k + -1 = (a.length : Int) - 2 - ((k + 1 : Nat) : Int) + 0; omega)
    rcases List.mem_cons.1 hp with rfl | hp
    ·exact rd_I rfl
    ·exact sf_le p hp) rfl ⟨_, rfl, fun M w cs r => by
     change OptCells w (rD _ (.ap 41 (.v 1) (.ap 0 (.i 7 0) (.ap 52 sf_q (.lit 70000001))))) cs at r
     rw [sf_step hRl (by omega)] at r
     exact r⟩ rfl) hm0 sf_mB sf_bB hS
   exact ⟨k + 1, ρ, M', by omega, by omega, hS⟩
  ·have hke : k = a.length - 1 - i := by omega
   have FY : FaOK (sf_V a c (shIn (shOut a c a.length i) c a.length k) i k) sf_FY := ⟨rfl, sm hi (by omega), by simp [sf_FY, sf_V]; omega, hlen, by simp [sf_FY], by simp [sf_FY], by simp [sf_FY], by simp [sf_FY], by simp [sf_FY]⟩
   refine am_go FY (fun _ h => by cases h) _ sf_eY hS fun ρ M' a' w' hS => ?_
   show holds _ sf_k2 a' w' (.at_ (.ext 2))
   refine am_go (fa0_ok rfl (sm hi (by omega))) (fun _ h => by cases h) _ sf_uY hS fun ρ M' a' w' hS => ?_
   obtain ⟨ρ, M', hS⟩ := am_move (E' := envD (sf_V a c (shOut a c a.length (i + 1)) (i + 1) 0)) sf_dN (sf_rd (fun p hp => by
    rcases List.mem_cons.1 hp with rfl | hp
    ·exact rd_I (by show (i : Int) + 1 = ((i + 1 : Nat) : Int) + 0; omega)
    ·exact sf_le p hp) rfl ⟨sf_o, rfl, fun M w cs r => by rw [shOut, ← hke]; exact r⟩ rfl) hm0 sf_mY sf_bY hS
   exact ⟨i + 1, ρ, M', by omega, by omega, hS⟩
 ·have hil : i = a.length := by omega
  have FX : FaOK (sf_V a c (shOut a c a.length i) i 0) sf_FX := ⟨rfl, sm hi (Nat.zero_le _), by simp [sf_FX, sf_V]; omega, hlen, by simp [sf_FX], by simp [sf_FX], by simp [sf_FX], by simp [sf_FX], by simp [sf_FX]⟩
  refine am_go FX (fun _ h => by cases h) _ sf_eX hS fun ρ M' a' w' hS => ?_
  show unw sf_k _ _ a' w'
  rw [sf_ke]
  obtain ⟨ρ, M', hS⟩ := am_move (E' := envD (sf_V a c (shOut a c a.length i) i 0)) sf_dx ⟨fun p hp => (by cases hp), fun p hp => (by cases hp), fun p hp => (by cases hp), fun p hp M w g k cs hm hg hr hB hN => by
   simp only [sf_dx, List.mem_singleton] at hp
   subst hp
   have hNj : (envD (sf_V a c (shOut a c a.length i) i 0)).N sf_n = (shOut a c a.length a.length).length := by
    show ((a.length : Int) + 0).toNat = _
    rw [shOut_len]
    omega
   rw [hNj] at hN
   show (XP.rats (shOut a c a.length a.length)).p M w [.slice (some ⟨g, 0, none⟩) ((envD (sf_V a c (shOut a c a.length i) i 0)).N sf_n) k]
   rw [hNj]
   change OptCells w ((shOut a c a.length i).map some) cs at hB
   rw [hil] at hB
   exact ⟨_, k, rfl, hN, fun _ => ⟨g, 0, cs, rfl, hm, hg, hr, optCells_rat hB⟩⟩⟩ hm0 sf_mx sf_bx hS
  show holds _ [] a' w' (.run sf_t)
  have FT : FaOK (sf_V a c (shOut a c a.length i) i 0) sf_FT := ⟨rfl, sm hi (Nat.zero_le _), by simp [sf_FT, sf_V]; omega, hlen, by
   intro x hx
   simp only [sf_FT, List.mem_singleton] at hx
   subst hx
   exact fun y hy => sR a.length (Nat.le_refl _) 0 (Nat.zero_le _) y hy, by simp [sf_FT], by simp [sf_FT], by simp [sf_FT], by simp [sf_FT]⟩
  refine am_go FT (fun e he => by rw [List.mem_singleton] at he; subst he; exact pTrim_ok FT) _ sf_eT hS fun ρ M' a' w' hS => ?_
  refine ⟨.inr rfl, envD (sf_V a c (shOut a c a.length i) i 0), _, ρ, M', _, aL (.ap 70 (.v 9) (.lit 0)), hS, sf_res, rfl, fun v hv => ?_⟩
  obtain ⟨_, _, _, _, _, _, _, _, _, Fsup, _⟩ := hS
  have h := aL_out (V := sf_V a c (shOut a c a.length i) i 0) (e := .ap 70 (.v 9) (.lit 0)) (ρ := ρ) hv
  have he : lD (sf_V a c (shOut a c a.length i) i 0) (.ap 70 (.v 9) (.lit 0)) = shiftL a c := by simp only [lD]; rfl
  rw [he] at h
  exact (XP.rats (shiftL a c)).st M' M w' w' [v] (Grow.refl w') (fun _ _ _ => rfl) (fun b _ hb => Fsup b hb) h
end
end Go.Proofs.YtgaehhapjnbieaaGreat
namespace Go.Proofs.YtgaehhapjnbieaaGreat
open Go.RowKit
def emptyR : Option (AV × HP) → Bool
 | some (.val (.slice _ 0 _), _) => true
 | some (.sl _ _ 0 _, _) => true
 | _ => false
theorem vm_empty {V : VL} {F : Fa} {L : List PE} {f m : Nat} {xs : List AV} (hF : FaOK V F) (hL : ∀ e ∈ L, @PE.ok (envD V) e) (h : emptyR (callW plainL (runA (tbF F L) plainL m) f xs [] 16 0) = true)
  {M : Nat → Prop} {w : World} {vs : List Value} (hm0 : ∀ b, M b → b < w.heap.size) (hv : @RVs (envD V) noR M w xs vs) : LCall f M w vs [] := by
 letI := envD V
 generalize hr : callW plainL (runA (tbF F L) plainL m) f xs [] 16 0 = r at h
 have go : ∀ r U, callW plainL (runA (tbF F L) plainL m) f xs [] 16 0 = some (r, U) → (∀ ρ M w v, RV ρ M w r v → ∃ A c, v = .slice A 0 c) → LCall f M w vs [] := fun r U hr hR => by
  obtain ⟨_, hcall⟩ := callW_ok plainL_ok (run_ok (tbF_ok hF hL) plainL_ok m).1 f xs [] 16 0 _ _ hr
  have hs : St0 noR M (Own noR w (lk [])) w 0 (lk []) := ⟨⟨fun o b e => (by cases e), fun o o' b b' g c c' e => (by cases e)⟩, hm0, fun _ _ _ => rfl, fun b hb => .inl hb⟩
  refine Calls.mono (hcall noR M w vs hs (fun o p e => (by cases e)) (by decide) hv) fun e w' ⟨v, e1, ρ', M', ht, hv', hR', _, _, _, _, hfr, _⟩ => ⟨v, e1, ?_, ⟨hfr.os, hfr.tape, hfr.output, hfr.size, fun b hb => hfr.keep b hb ?_⟩⟩
  ·obtain ⟨A, c, rfl⟩ := hR _ _ _ _ hv'
   exact ⟨A, c, rfl, Nat.zero_le _, fun h => absurd rfl h⟩
  ·rintro (h1 | ⟨_, _, _, h1, _⟩)
   ·omega
   ·cases h1
 unfold emptyR at h
 split at h
 ·exact go _ _ hr fun ρ M w v hv => ⟨_, _, hv⟩
 ·refine go _ _ hr fun ρ M w v hv => ?_
  have hv : Rp ρ M w (.sl _ _ 0 _) [v] := hv
  unfold Rp at hv
  obtain ⟨g, c, k, _, e, _⟩ := hv
  exact ⟨_, _, (List.cons.inj e).1⟩
 ·cases h
set_option maxRecDepth 100000
theorem s0_e1 (n : Nat) : emptyR (callW plainL (runA (tbF fa0 []) plainL 300) 35 [.val (.slice none 0 n), aQ (.v 0) 10000000] [] 16 0) = true := by kernel_rfl
theorem s0_e2 (a : Addr) (n : Nat) : emptyR (callW plainL (runA (tbF fa0 []) plainL 300) 35 [.val (.slice (some a) 0 n), aQ (.v 0) 10000000] [] 16 0) = true := by kernel_rfl
section
variable {a : List Rat} {c x : Rat} {p q : Nat}
theorem kShiftL (sc : RSm c 10000000) (ha : a.length ≤ 1000000) (sR : ∀ i, i ≤ a.length → ∀ k, k ≤ a.length - 1 - i → ∀ x ∈ shIn (shOut a c a.length i) c a.length k, RSm x 30000000)
  {M : Nat → Prop} {w : World} {va vc : Value} (hm0 : ∀ b, M b → b < w.heap.size) (hva : (XP.rats a).p M w [va]) (hvc : (ratF c).p vc w) : LCall 35 M w [va, vc] (shiftL a c) := by
 by_cases h0 : 0 < a.length
 ·exact kShiftL1 sc ha h0 sR hm0 hva hvc
 ·have h0 : a = [] := List.length_eq_zero_iff.1 (by omega)
  subst h0
  have e : shiftL [] c = [] := rfl
  rw [e]
  have hF : FaOK (sf_V [] c [] 0 0) fa0 := fa0_ok rfl fun m => by
   show -1152921504606846976 ≤ (match m with | 1 => ((0 : Nat) : Int) | 6 => ((0 : Nat) : Int) | 7 => ((0 : Nat) : Int) - 2 - ((0 : Nat) : Int) | _ => 0) ∧ (match m with | 1 => ((0 : Nat) : Int) | 6 => ((0 : Nat) : Int) | 7 => ((0 : Nat) : Int) - 2 - ((0 : Nat) : Int) | _ => 0) ≤ (1152921504606846976 : Int)
   split <;> omega
  obtain ⟨A, n, e1, _, _⟩ := hva
  have e1 := (List.cons.inj e1).1
  subst e1
  cases A with
  | none => exact vm_empty hF (fun _ h => by cases h) (s0_e1 n) hm0 ⟨_, _, rfl, rfl, vc, _, rfl, aQ_in (V := sf_V [] c [] 0 0) (q := .v 0) hvc sc, rfl⟩
  | some ad => exact vm_empty hF (fun _ h => by cases h) (s0_e2 ad n) hm0 ⟨_, _, rfl, rfl, vc, _, rfl, aQ_in (V := sf_V [] c [] 0 0) (q := .v 0) hvc sc, rfl⟩
theorem evalC_bd (hp : 1 ≤ p) (sx : RSm x q) : ∀ {a : List Rat}, (∀ y ∈ a, RSm y p) → RSm (evalC a x) (1 + a.length * (p + q + 1))
 | [], _ => rsm0.mono (by omega)
 | y :: a, sa => by
  have ih := evalC_bd hp sx (a := a) fun z hz => sa z (List.mem_cons_of_mem _ hz)
  show RSm (evalC a x * x + y) _
  refine ((ih.mul sx).add (sa y (List.mem_cons_self ..))).mono ?_
  rw [List.length_cons, Nat.add_mul]
  omega
theorem evalC_bds (hp : 1 ≤ p) (sx : RSm x q) (sa : ∀ y ∈ a, RSm y p) (i : Nat) : RSm (evalC (a.drop i) x) (1 + a.length * (p + q + 1)) := by
 refine (evalC_bd hp sx (a := a.drop i) fun y hy => sa y (List.mem_of_mem_drop hy)).mono ?_
 have : (a.drop i).length * (p + q + 1) ≤ a.length * (p + q + 1) := Nat.mul_le_mul_right _ (by rw [List.length_drop]; omega)
 omega
theorem shIn_bd {R : List Rat} {n : Nat} (hp : 1 ≤ p) (sR : ∀ y ∈ R, RSm y p) (sc : RSm c q) : ∀ k, k = 0 ∨ k + 1 ≤ n → ∀ y ∈ shIn R c n k, RSm y (p + k * (p + q + 1))
 | 0, _, y, hy => (sR y hy).mono (by omega)
 | k + 1, hk, y, hy => by
  have ih := shIn_bd (n := n) hp sR sc k (by omega)
  have g : ∀ m, RSm ((shIn R c n k).getD m 0) (p + k * (p + q + 1)) := RSm_cf (by omega) ih
  have e : (k + 1) * (p + q + 1) = k * (p + q + 1) + (p + q + 1) := Nat.succ_mul ..
  rw [shIn] at hy
  rcases List.mem_or_eq_of_mem_set hy with hy | rfl
  ·exact (ih y hy).mono (by omega)
  ·have low : ∀ k', k' ≤ k → (shIn R c n k').getD (n - 2 - k) 0 = R.getD (n - 2 - k) 0 := fun k' => by
    induction k' with
    | zero => intro _; rfl
    | succ k' ih' =>
     intro hk'
     rw [shIn, List.getD_eq_getElem?_getD, List.getElem?_set_ne (by omega), ← List.getD_eq_getElem?_getD]
     exact ih' (by omega)
   rw [low k (Nat.le_refl _)]
   exact ((RSm_cf hp sR (n - 2 - k)).add (sc.mul (g _))).mono (by omega)
def bS (n q p : Nat) : Nat → Nat
 | 0 => p
 | i + 1 => bS n q p i + (n - 1 - i) * (bS n q p i + q + 1)
theorem bS_ge (n q p : Nat) : ∀ i, p ≤ bS n q p i
 | 0 => Nat.le_refl _
 | i + 1 => Nat.le_trans (bS_ge n q p i) (Nat.le_add_right _ _)
theorem bS_mono {n N q p : Nat} (h : n ≤ N) : ∀ i, bS n q p i ≤ bS N q p i
 | 0 => Nat.le_refl _
 | i + 1 => Nat.add_le_add (bS_mono h i) (Nat.mul_le_mul (by omega) (by have := bS_mono (q := q) (p := p) h i; omega))
theorem bS_up (n q p : Nat) {i j : Nat} (h : i ≤ j) : bS n q p i ≤ bS n q p j := by
 induction h with
 | refl => exact Nat.le_refl _
 | step _ ih => exact Nat.le_trans ih (Nat.le_add_right _ _)
theorem shOut_bd (hp : 1 ≤ p) (sa : ∀ y ∈ a, RSm y p) (sc : RSm c q) {n : Nat} : ∀ i, i ≤ n → ∀ y ∈ shOut a c n i, RSm y (bS n q p i)
 | 0, _, y, hy => sa y hy
 | i + 1, hi, y, hy => by
  have ih := shOut_bd hp sa sc (n := n) i (by omega)
  rw [shOut] at hy
  exact (shIn_bd (n := n) (Nat.le_trans hp (bS_ge n q p i)) ih sc _ (by omega) y hy).mono (Nat.le_refl _)
theorem shift_bds (hp : 1 ≤ p) (sa : ∀ y ∈ a, RSm y p) (sc : RSm c q) {N B : Nat} (hN : a.length ≤ N) (hB : bS N q p N ≤ B) : ∀ i, i ≤ a.length → ∀ k, k ≤ a.length - 1 - i → ∀ y ∈ shIn (shOut a c a.length i) c a.length k, RSm y B := fun i hi k hk y hy => by
 refine (shIn_bd (n := a.length) (Nat.le_trans hp (bS_ge a.length q p i)) (shOut_bd hp sa sc i hi) sc k (by omega) y hy).mono (Nat.le_trans ?_ hB)
 by_cases h0 : k = 0
 ·subst h0
  rw [Nat.zero_mul, Nat.add_zero]
  exact Nat.le_trans (bS_mono hN i) (bS_up N q p (Nat.le_trans hi hN))
 ·have e : bS a.length q p i + k * (bS a.length q p i + q + 1) ≤ bS a.length q p (i + 1) := Nat.add_le_add_left (Nat.mul_le_mul_right _ hk) _
  exact Nat.le_trans e (Nat.le_trans (bS_mono hN (i + 1)) (bS_up N q p (by omega)))
theorem shift_bd (hp : 1 ≤ p) (sa : ∀ y ∈ a, RSm y p) (sc : RSm c q) {N B : Nat} (hN : a.length ≤ N) (hB : bS N q p N ≤ B) : ∀ y ∈ shiftL a c, RSm y B := RSm_of_cf fun k => by
 unfold shiftL
 rw [(trimC_cf _).2]
 exact RSm_cf (Nat.le_trans hp (Nat.le_trans (bS_ge N q p N) hB)) (shift_bds hp sa sc hN hB a.length (Nat.le_refl _) 0 (Nat.zero_le _)) k
theorem shiftL_len (a : List Rat) (c : Rat) : (shiftL a c).length ≤ a.length := by
 have := trimC_len (shOut a c a.length a.length)
 rw [shOut_len] at this
 exact this
end
end Go.Proofs.YtgaehhapjnbieaaGreat
