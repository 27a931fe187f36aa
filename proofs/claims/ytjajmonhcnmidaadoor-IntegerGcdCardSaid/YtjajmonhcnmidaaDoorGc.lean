/- Walks: build, parts, toWord, and the small functions on integers. -/
import Derived.Test.YtjajmonhcnmidaaDoorGb
import Derived.Test.YtjajmonhcnmidaaDoorGa
namespace Go.Proofs.YtjajmonhcnmidaaDoor
open Go.RowKit

set_option maxHeartbeats 400000 in
theorem build_raw (neg : Bool) (A : Option Addr) (n c : Nat) (ms : List Nat) (w : World) (hn : ms.length = n) (hm : Mem w w.heap.size A ms) (hl : n ≤ 4398046511104) (hc : n ≤ c) (h32 : L32 ms) :
    Calls Tryd.prog 45 #[.bool neg, .slice A n c] w (GivesInt (sgn neg (val ms)) w) := by
  obtain ⟨l1, l2, _⟩ := limbs_val h32
  have HN := Lib.hid hn
  have HL := Lib.hid l1
  clear hn l1
  by_cases h0 : val ms = 0
  · have e0 : len (val ms) = 0 := by rw [h0, len_zero]
    have HE := Lib.hid e0
    have H0 := Lib.hid h0
    clear e0 h0
    go_enter Tryd.func45, Tryd.ntmps45
    go_wp2_with fail
    refine (trim_k A n c ms _ HN.out (hm.into (below_alloc _ _)) hl hc h32).mono ?_
    rintro e w' ⟨rfl, rfl⟩
    rw [HE.out]
    go_wp2
    refine bodyPost_ret (v := .agg #[.bool false, .slice none 0 0]) (by simp [results, Tryd.results45, go_sem]) rfl ⟨_, rfl, ?_, ?_⟩
    · rw [H0.out, sgn_zero]; exact IntAt.zero _ _ _
    · first | exact below_alloc _ _ | exact (below_alloc _ _).setCell (by simp) _
  · have e0 : ((len (val ms) : Int) == 0) = false := by
      have : len (val ms) ≠ 0 := fun h => h0 (len_eq_zero.1 h)
      simp; omega
    go_enter Tryd.func45, Tryd.ntmps45
    go_wp2_with fail
    refine (trim_k A n c ms _ HN.out (hm.into (below_alloc _ _)) hl hc h32).mono ?_
    rintro e w' ⟨rfl, rfl⟩
    go_wp2
    refine bodyPost_ret (v := .agg #[.bool neg, .slice A (len (val ms)) c]) (by simp [results, Tryd.results45, go_sem]) rfl ⟨_, rfl, ?_, ?_⟩
    · refine IntAt.mk ⟨A, c, rfl, by have := HN.out; omega, ?_⟩ (fun h => absurd h h0)
      rw [HL.out]
      exact (hm.into (below_alloc _ _)).take _
    · first | exact below_alloc _ _ | exact (below_alloc _ _).setCell (by simp) _

theorem build_any (neg : Bool) (v : Value) (x : Nat) (w : World) (h : NatAt w v x) (hl : len x ≤ 4398046511104) :
    Calls Tryd.prog 45 #[.bool neg, v] w (GivesInt (sgn neg x) w) := by
  obtain ⟨A, c, rfl, hc, hm⟩ := h
  have := build_raw neg A (len x) c (limbs x) w rfl hm hl hc (limbs_32 x)
  rwa [val_limbs] at this

/-- What parts gives of a valid integer. -/
def GivesParts (z : Int) (w : World) (e : Ending) (w' : World) : Prop := ∃ A c, e = .returned (.tuple #[.bool (decide (z < 0)), .slice A (len z.natAbs) c]) ∧ len z.natAbs ≤ c ∧ Mem w' w'.heap.size A (limbs z.natAbs) ∧ Below w.heap.size w w'

set_option maxHeartbeats 400000 in
theorem parts_any (v : Value) (z : Int) (w : World) (h : IntAt w v z) (hl : len z.natAbs ≤ 4398046511104) :
    Calls Tryd.prog 43 #[v] w (GivesParts z w) := by
  obtain ⟨s, rfl, A, c, rfl, hc, hm⟩ := h
  by_cases hz : z < 0
  · have hd : decide (z < 0) = true := by simpa using hz
    have hp : decide (0 < len z.natAbs) = true := by
      have : len z.natAbs ≠ 0 := fun h => by have := len_eq_zero.1 h; omega
      simp; omega
    have HD := Lib.hid hd
    clear hd
    rw [HD.out]
    go_enter Tryd.func43, Tryd.ntmps43
    go_wp2_with fail
    refine (trim_nat A c _ _ (hm.into (below_alloc _ _)) hl hc).mono ?_
    rintro e w' ⟨rfl, rfl⟩
    go_wp2
    go_ret2
    refine ⟨A, c, by rw [HD.out]; rfl, hc, hm.into (below_alloc _ _), below_alloc _ _⟩
  · have hd : decide (z < 0) = false := by simpa using hz
    have HD := Lib.hid hd
    clear hd
    rw [HD.out]
    go_enter Tryd.func43, Tryd.ntmps43
    go_wp2_with fail
    refine (trim_nat A c _ _ (hm.into (below_alloc _ _)) hl hc).mono ?_
    rintro e w' ⟨rfl, rfl⟩
    go_wp2
    go_ret2
    refine ⟨A, c, by rw [HD.out]; rfl, hc, hm.into (below_alloc _ _), below_alloc _ _⟩
theorem parts_is (v : Value) (z : Int) (n : Nat) (b : Bool) (w : World) (h : IntAt w v z) (hn : z.natAbs = n) (hb : decide (z < 0) = b) (hl : len n ≤ 4398046511104) :
    Calls Tryd.prog 43 #[v] w fun e w' => ∃ A c, e = .returned (.tuple #[.bool b, .slice A (len n) c]) ∧ Hid (NatAt w' (.slice A (len n) c) n) ∧ Below w.heap.size w w' := by
  subst hn hb
  exact (parts_any v z w h hl).mono fun e w' ⟨A, c, he, hc, hm, hb⟩ => ⟨A, c, he, ⟨A, c, rfl, hc, hm⟩, hb⟩
end Go.Proofs.YtjajmonhcnmidaaDoor
namespace Go.Proofs.YtjajmonhcnmidaaDoor
open Go.RowKit

theorem val2 (ms : List Nat) (h : ms.length ≤ 2) : val ms = ms.getD 0 0 + 4294967296 * ms.getD 1 0 := by
  match ms, h with
  | [], _ => rfl
  | [a], _ => simp [val]
  | [a, b], _ => simp [val]

theorem shl_or (a b : Nat) (hb : b < 4294967296) : (a * 4294967296) ||| b = a * 4294967296 + b := by
  have := Nat.two_pow_add_eq_or_of_lt (i := 32) (b := b) (by simpa using hb) a
  have e : (2 : Nat) ^ 32 = 4294967296 := by decide
  rw [e] at this
  rw [Nat.mul_comm, ← this]
theorem ofInt_u64 (a : Nat) (ha : a < 18446744073709551616) : (BitVec.ofInt 64 (a : Int)).toNat = a := by
  rw [BitVec.ofInt_natCast, BitVec.toNat_ofNat]; exact Nat.mod_eq_of_lt (by omega)
theorem u64_or_nat (a b : Nat) (ha : a < 18446744073709551616) (hb : b < 18446744073709551616) : bits .or .u64 (a : Int) (b : Int) = ((a ||| b : Nat) : Int) := by
  have hx : a ||| b < 2 ^ 64 := Nat.or_lt_two_pow (by omega) (by omega)
  show IntKind.u64.wrap ((BitVec.ofInt 64 (a : Int) ||| BitVec.ofInt 64 (b : Int)).toNat : Int) = _
  rw [BitVec.toNat_or, ofInt_u64 a ha, ofInt_u64 b hb, IntKind.wrap_u64]
  omega
theorem wrap_u64_nat (a : Nat) (h : a < 18446744073709551616) : IntKind.u64.wrap (a : Int) = (a : Int) := by rw [IntKind.wrap_u64]; omega
/-- high<<32 | low -/
theorem word_of (p q : Nat) (hp : p < 4294967296) (hq : q < 4294967296) : bits .or .u64 (IntKind.u64.wrap (IntKind.u64.wrap (p : Int) * 4294967296)) (IntKind.u64.wrap (q : Int)) = ((q + 4294967296 * p : Nat) : Int) := by
  rw [wrap_u64_nat p (by omega), wrap_u64_nat q (by omega)]
  have e : (p : Int) * 4294967296 = ((p * 4294967296 : Nat) : Int) := by omega
  rw [e, wrap_u64_nat _ (by omega), u64_or_nat _ _ (by omega) (by omega), shl_or _ _ hq]
  omega

set_option maxHeartbeats 400000 in
theorem toWord_any (A : Option Addr) (c x : Nat) (w : World) (hm : Mem w w.heap.size A (limbs x)) (hx : x < 18446744073709551616) :
    Calls Tryd.prog 44 #[.slice A (len x) c] w fun e w' => e = .returned (.int .u64 x) ∧ w = w' := by
  have hl : len x ≤ 2 := len_le_two hx
  have hv := val2 (limbs x) hl
  rw [val_limbs] at hv
  have b0 := (limbs_32 x).at_ 0
  have b1 := (limbs_32 x).at_ 1
  obtain ⟨p, hp⟩ : ∃ p, (limbs x).getD 0 0 = p := ⟨_, rfl⟩
  obtain ⟨q, hq⟩ : ∃ p, (limbs x).getD 1 0 = p := ⟨_, rfl⟩
  rw [hp] at b0 hv
  rw [hq] at b1 hv
  have HV := Lib.hid hv
  have HP := Lib.hid hp
  have HQ := Lib.hid hq
  have hw := Lib.hid (word_of q p b1 b0)
  clear hv hp hq
  go_enter Tryd.func44, Tryd.ntmps44
  go_wp2_with fail
  refine (limb_is A (len x) c (limbs x) 1 q w rfl hm (by omega) (by omega) (by omega) HQ.out).mono ?_
  rintro e w' ⟨rfl, rfl⟩
  go_wp2_with fail
  refine (limb_is A (len x) c (limbs x) 0 p w rfl hm (by omega) (by omega) (by omega) HP.out).mono ?_
  rintro e w' ⟨rfl, rfl⟩
  go_wp2
  go_ret
  have := hw.out
  rw [wrap_u64_nat p (by omega), wrap_u64_nat q (by omega), show (q : Int) * 4294967296 = ((q * 4294967296 : Nat) : Int) from by omega, wrap_u64_nat _ (by omega)] at this
  simp only [Int.natCast_mul] at this
  rw [HV.out, ← this]
  exact ⟨rfl, rfl⟩

set_option maxHeartbeats 400000 in
theorem Of_nonneg (n : Nat) (w : World) (hn : n < 9223372036854775808) :
    Calls Tryd.prog 30 #[.int .i64 n] w (GivesInt n w) := by
  have h0 : decide ((n : Int) < 0) = false := by simp
  have hl : len n ≤ 2 := len_le_two (by omega)
  go_enter Tryd.func30, Tryd.ntmps30
  go_wp2_with fail
  refine (fromWord_any n _ (by omega)).mono ?_
  rintro e w1 ⟨v, rfl, hv, hb⟩
  go_wp2_with fail
  refine (build_any false v n _ hv (by omega)).mono ?_
  rintro e w2 ⟨v2, rfl, hv2, hb2⟩
  obtain ⟨b, A, k, c, rfl, H⟩ := hv2.open_
  have hB := step_below hb hb2
  obtain ⟨hc0, hc1, hf0, hf1, hs⟩ := box2 hB
  have HE := Lib.hid (box2_end (x' := .bool b) (y' := .slice A k c) hB H.out)
  clear hB
  go_wp2
  refine bodyPost_ret (v := .agg #[.bool b, .slice A k c]) (by simp [results, Tryd.results30, go_sem, hc0, hc1]) rfl ⟨_, rfl, HE.out.1, HE.out.2⟩

end Go.Proofs.YtjajmonhcnmidaaDoor
namespace Go.Proofs.YtjajmonhcnmidaaDoor
open Go.RowKit

/-- After k rounds of an addition with the carry c. -/
def SumRel (w : World) (g n : Nat) (X Y : List Nat) (wr : World) (k c : Nat) : Prop :=
  ∃ ds : List Nat, ds.length = n + 1 ∧ L32 ds ∧ Row wr g ds ∧ val (ds.take k) + 4294967296 ^ k * c = val (X.take k) + val (Y.take k) ∧ Below w.heap.size w wr

theorem take_set_succ (ds : List Nat) (k r : Nat) (hk : k < ds.length) : val ((ds.set k r).take (k + 1)) = val (ds.take k) + 4294967296 ^ k * r := by
  rw [val_take_succ, List.take_set_of_le (by omega)]
  congr 2
  simp [List.getD, hk]

theorem SumRel.step {w wr : World} {g n : Nat} {X Y : List Nat} {k c p q : Nat} (h : SumRel w g n X Y wr k c) (hk : k < n + 1) (hg : w.heap.size ≤ g) (hp : X.getD k 0 = p) (hq : Y.getD k 0 = q) :
    SumRel w g n X Y (wr.setCell ⟨g, k, none⟩ (.int .u32 (((c + (p + q)) % 4294967296 : Nat) : Int))) (k + 1) ((c + (p + q)) / 4294967296) := by
  obtain ⟨ds, hl, h32, hr, he, hb⟩ := h
  refine ⟨ds.set k ((c + (p + q)) % 4294967296), by simpa using hl, h32.set (by omega), hr.set_ k _, ?_, hb.setCell (by simpa using hg) _⟩
  rw [take_set_succ _ _ _ (by omega), val_take_succ X, val_take_succ Y, hp, hq, Nat.pow_succ]
  have e : c + (p + q) = 4294967296 * ((c + (p + q)) / 4294967296) + (c + (p + q)) % 4294967296 := by omega
  generalize (c + (p + q)) / 4294967296 = d at *
  generalize (c + (p + q)) % 4294967296 = r at *
  generalize 4294967296 ^ k = P at *
  have e2 : P * (c + (p + q)) = P * (4294967296 * d + r) := by rw [e]
  rw [Nat.mul_add, Nat.mul_add, Nat.mul_add, ← Nat.mul_assoc] at e2
  omega
theorem SumRel.step' {w wr : World} {g n : Nat} {X Y : List Nat} {k c p q : Nat} (h : SumRel w g n X Y wr k c) (hk : k < n + 1) (hg : w.heap.size ≤ g) (hp : X.getD k 0 = p) (hq : Y.getD k 0 = q) (v : Int) (hv : v = ((c : Int) + ((p : Int) + (q : Int))) % 4294967296) :
    SumRel w g n X Y (wr.setCell ⟨g, k, none⟩ (.int .u32 v)) (k + 1) ((c + (p + q)) / 4294967296) := by
  have e : v = (((c + (p + q)) % 4294967296 : Nat) : Int) := by omega
  rw [e]
  exact h.step hk hg hp hq
theorem SumRel.cell {w wr : World} {g n : Nat} {X Y : List Nat} {k c : Nat} (h : SumRel w g n X Y wr k c) {i : Nat} (hi : i < n + 1) : ∃ x : Nat, wr.cell? ⟨g, i, none⟩ = some (.int .u32 (x : Int)) ∧ wr.frozen? ⟨g, i, none⟩ = false := by
  obtain ⟨ds, hl, h32, hr, he, hb⟩ := h
  exact ⟨_, hr.cell (by omega), hr.frozen i⟩
theorem SumRel.start (w : World) (n : Nat) (X Y : List Nat) : SumRel w w.heap.size n X Y (w.alloc (rowObj (List.replicate (n + 1) 0))) 0 0 :=
  ⟨_, by simp, L32.replicate _, Row.new _ _, by simp [val], below_alloc _ _⟩
/-- The last store, and the result's limbs. -/
theorem SumRel.finish {w wr : World} {g n : Nat} {X Y : List Nat} {c : Nat} (h : SumRel w g n X Y wr n c) (hg : w.heap.size ≤ g) (hc : c < 4294967296) (hX : X.length ≤ n) (hY : Y.length ≤ n) :
    ∃ ds : List Nat, ds.length = n + 1 ∧ L32 ds ∧ Row (wr.setCell ⟨g, n, none⟩ (.int .u32 (c : Int))) g ds ∧ val ds = val X + val Y ∧ Below w.heap.size w (wr.setCell ⟨g, n, none⟩ (.int .u32 (c : Int))) := by
  obtain ⟨ds, hl, h32, hr, he, hb⟩ := h
  refine ⟨ds.set n c, by simpa using hl, h32.set hc, hr.set_ n c, ?_, hb.setCell (by simpa using hg) _⟩
  have h1 := take_set_succ ds n c (by omega)
  rw [List.take_of_length_le (by simp [hl])] at h1
  rw [h1, he, List.take_of_length_le hX, List.take_of_length_le hY]
end Go.Proofs.YtjajmonhcnmidaaDoor
namespace Go.Proofs.YtjajmonhcnmidaaDoor
open Go.RowKit

set_option maxHeartbeats 1000000 in
theorem sum_ge (A B : Option Addr) (c d x y : Nat) (w : World) (ha : Mem w w.heap.size A (limbs x)) (hb : Mem w w.heap.size B (limbs y)) (hx : len x ≤ 1099511627776) (hle : len y ≤ len x) (hy0 : 0 < len y) :
    Calls Tryd.prog 46 #[.slice A (len x) c, .slice B (len y) d] w (GivesNat (x + y) w) := by
  have ht : decide (len x < len y) = false := by simp; omega
  have ht2 : ((len y : Int) == 0) = false := by simp; omega
  have hmk := fun W => mk32 ((len x : Int) + 1) (by omega) (by omega) W
  have e1 : ((len x : Int) + 1).toNat = len x + 1 := by omega
  rw [e1] at hmk
  clear e1
  obtain ⟨ad, rfl, _, hca⟩ := ha.at_ (show 0 < (limbs x).length by rw [len_limbs]; omega)
  obtain ⟨bd, rfl, _, hcb⟩ := hb.at_ (show 0 < (limbs y).length by rw [len_limbs]; omega)
  clear hca hcb
  go_enter Tryd.func46, Tryd.ntmps46
  go_wp2_with fail
  go_loopw [6, 27] (fun cr i wr => ∃ k c : Nat, k ≤ len y ∧ i = .int .i64 k ∧ cr = .int .u64 c ∧ c ≤ 1 ∧ SumRel w w.heap.size (len x) (limbs x) (limbs y) wr k c) (fun _ i _ => len y - (intOf i).toNat)
  case atStart => exact ⟨0, 0, by omega, rfl, rfl, by omega, SumRel.start _ _ _ _⟩
  case round =>
    obtain ⟨k, c, hk, rfl, rfl, hc1, hrel⟩ := hrel
    have HR := Lib.hid hrel
    clear hrel
    by_cases hlt : k < len y
    · obtain ⟨ad', e, _, hca⟩ := ha.at_ (show k < (limbs x).length by rw [len_limbs]; omega)
      injection e with e
      subst e
      obtain ⟨bd', e, _, hcb⟩ := hb.at_ (show k < (limbs y).length by rw [len_limbs]; omega)
      injection e with e
      subst e
      have hp := (limbs_32 x).get (show k < (limbs x).length by rw [len_limbs]; omega)
      have hq := (limbs_32 y).get (show k < (limbs y).length by rw [len_limbs]; omega)
      have gp := getD_of_lt (show k < (limbs x).length by rw [len_limbs]; omega)
      have gq := getD_of_lt (show k < (limbs y).length by rw [len_limbs]; omega)
      generalize (limbs x)[k]'(by rw [len_limbs]; omega) = p at *
      generalize (limbs y)[k]'(by rw [len_limbs]; omega) = q at *
      have GP := Lib.hid gp
      have GQ := Lib.hid gq
      clear gp gq
      obtain ⟨ds, hl, h32, hr, he, hbel⟩ := HR.out
      have hca' := (hbel.cell (p := ad.add k) (by rw [block_of_add']; omega)).trans hca
      have hcb' := (hbel.cell (p := bd.add k) (by rw [block_of_add']; omega)).trans hcb
      obtain ⟨ox, ho, hf⟩ := HR.out.cell (show k < len x + 1 by omega)
      clear hl h32 hr he hbel hca hcb
      go_wp2
      go_roundw
      case rel => exact ⟨k + 1, _, by omega, by go_num, by go_num, by omega, HR.out.step' (by omega) (Nat.le_refl _) GP.out GQ.out _ rfl⟩
      case measure => simp [intOf]; omega
    · have hk' : k = len y := by omega
      subst hk'
      go_wp2_with fail
      go_loopw [6, 9] (fun cr i wr => ∃ k c : Nat, len y ≤ k ∧ k ≤ len x ∧ i = .int .i64 k ∧ cr = .int .u64 c ∧ c ≤ 1 ∧ SumRel w w.heap.size (len x) (limbs x) (limbs y) wr k c) (fun _ i _ => len x - (intOf i).toNat)
      case atStart => exact ⟨_, c, Nat.le_refl _, by omega, rfl, rfl, hc1, HR.out⟩
      case round =>
        clear HR hc1
        obtain ⟨k, c, hk1, hk2, rfl, rfl, hc1, hrel⟩ := hrel
        have HR := Lib.hid hrel
        clear hrel
        by_cases hlt2 : k < len x
        · obtain ⟨ad', e, _, hca⟩ := ha.at_ (show k < (limbs x).length by rw [len_limbs]; omega)
          injection e with e
          subst e
          have hp := (limbs_32 x).get (show k < (limbs x).length by rw [len_limbs]; omega)
          have gp := getD_of_lt (show k < (limbs x).length by rw [len_limbs]; omega)
          have gq : (limbs y).getD k 0 = 0 := by simp [List.getD, List.getElem?_eq_none (show (limbs y).length ≤ k from hk1)]
          generalize (limbs x)[k]'(by rw [len_limbs]; omega) = p at *
          have GP := Lib.hid gp
          have GQ := Lib.hid gq
          clear gp gq
          obtain ⟨ds, hl, h32, hr, he, hbel⟩ := HR.out
          have hca' := (hbel.cell (p := ad.add k) (by rw [block_of_add']; omega)).trans hca
          obtain ⟨ox, ho, hf⟩ := HR.out.cell (show k < len x + 1 by omega)
          clear hl h32 hr he hbel hca
          go_wp2
          go_roundw
          case rel => exact ⟨k + 1, _, by omega, by omega, by go_num, by go_num, by omega, HR.out.step' (by omega) (Nat.le_refl _) GP.out GQ.out _ (by omega)⟩
          case measure => simp [intOf]; omega
        · have hk' : k = len x := by omega
          subst hk'
          obtain ⟨ox, ho, hf⟩ := HR.out.cell (show len x < len x + 1 by omega)
          obtain ⟨ds, hl, h32, hr, he, hbel⟩ := HR.out.finish (Nat.le_refl _) (by omega) (Nat.le_refl _) (by rw [len_limbs]; omega)
          have HE := Lib.hid he
          clear he
          go_wp2_with fail
          refine (trim_k _ _ _ ds _ hl (hr.mem hr.lt) (by omega) (by omega) h32).mono ?_
          rintro e w1 ⟨rfl, rfl⟩
          go_wp2
          go_ret
          refine ⟨_, rfl, ?_, hbel⟩
          have := hr.nat h32 (c := len x + 1) (by omega)
          have he' := HE.out
          rw [val_limbs, val_limbs] at he'
          rw [show x + y = val ds from by omega]
          exact this

set_option maxHeartbeats 1000000 in
theorem sum_lt (A B : Option Addr) (c d x y : Nat) (w : World) (ha : Mem w w.heap.size A (limbs x)) (hb : Mem w w.heap.size B (limbs y)) (hx : len y ≤ 1099511627776) (hle : len x < len y) (hy0 : 0 < len x) :
    Calls Tryd.prog 46 #[.slice A (len x) c, .slice B (len y) d] w (GivesNat (x + y) w) := by
  have ht : decide (len x < len y) = true := by simp; omega
  have ht2 : ((len x : Int) == 0) = false := by simp; omega
  have hmk := fun W => mk32 ((len y : Int) + 1) (by omega) (by omega) W
  have e1 : ((len y : Int) + 1).toNat = len y + 1 := by omega
  rw [e1] at hmk
  clear e1
  obtain ⟨ad, rfl, _, hca⟩ := ha.at_ (show 0 < (limbs x).length by rw [len_limbs]; omega)
  obtain ⟨bd, rfl, _, hcb⟩ := hb.at_ (show 0 < (limbs y).length by rw [len_limbs]; omega)
  clear hca hcb
  go_enter Tryd.func46, Tryd.ntmps46
  go_wp2_with fail
  go_loopw [6, 27] (fun cr i wr => ∃ k c : Nat, k ≤ len x ∧ i = .int .i64 k ∧ cr = .int .u64 c ∧ c ≤ 1 ∧ SumRel w w.heap.size (len y) (limbs y) (limbs x) wr k c) (fun _ i _ => len x - (intOf i).toNat)
  case atStart => exact ⟨0, 0, by omega, rfl, rfl, by omega, SumRel.start _ _ _ _⟩
  case round =>
    obtain ⟨k, c, hk, rfl, rfl, hc1, hrel⟩ := hrel
    have HR := Lib.hid hrel
    clear hrel
    by_cases hlt : k < len x
    · obtain ⟨ad', e, _, hca⟩ := ha.at_ (show k < (limbs x).length by rw [len_limbs]; omega)
      injection e with e
      subst e
      obtain ⟨bd', e, _, hcb⟩ := hb.at_ (show k < (limbs y).length by rw [len_limbs]; omega)
      injection e with e
      subst e
      have hp := (limbs_32 x).get (show k < (limbs x).length by rw [len_limbs]; omega)
      have hq := (limbs_32 y).get (show k < (limbs y).length by rw [len_limbs]; omega)
      have gp := getD_of_lt (show k < (limbs x).length by rw [len_limbs]; omega)
      have gq := getD_of_lt (show k < (limbs y).length by rw [len_limbs]; omega)
      generalize (limbs x)[k]'(by rw [len_limbs]; omega) = p at *
      generalize (limbs y)[k]'(by rw [len_limbs]; omega) = q at *
      have GP := Lib.hid gp
      have GQ := Lib.hid gq
      clear gp gq
      obtain ⟨ds, hl, h32, hr, he, hbel⟩ := HR.out
      have hca' := (hbel.cell (p := ad.add k) (by rw [block_of_add']; omega)).trans hca
      have hcb' := (hbel.cell (p := bd.add k) (by rw [block_of_add']; omega)).trans hcb
      obtain ⟨ox, ho, hf⟩ := HR.out.cell (show k < len y + 1 by omega)
      clear hl h32 hr he hbel hca hcb
      go_wp2
      go_roundw
      case rel => exact ⟨k + 1, _, by omega, by go_num, by go_num, by omega, HR.out.step' (by omega) (Nat.le_refl _) GQ.out GP.out _ rfl⟩
      case measure => simp [intOf]; omega
    · have hk' : k = len x := by omega
      subst hk'
      go_wp2_with fail
      go_loopw [6, 9] (fun cr i wr => ∃ k c : Nat, len x ≤ k ∧ k ≤ len y ∧ i = .int .i64 k ∧ cr = .int .u64 c ∧ c ≤ 1 ∧ SumRel w w.heap.size (len y) (limbs y) (limbs x) wr k c) (fun _ i _ => len y - (intOf i).toNat)
      case atStart => exact ⟨_, c, Nat.le_refl _, by omega, rfl, rfl, hc1, HR.out⟩
      case round =>
        clear HR hc1
        obtain ⟨k, c, hk1, hk2, rfl, rfl, hc1, hrel⟩ := hrel
        have HR := Lib.hid hrel
        clear hrel
        by_cases hlt2 : k < len y
        · obtain ⟨ad', e, _, hca⟩ := hb.at_ (show k < (limbs y).length by rw [len_limbs]; omega)
          injection e with e
          subst e
          have hp := (limbs_32 y).get (show k < (limbs y).length by rw [len_limbs]; omega)
          have gp := getD_of_lt (show k < (limbs y).length by rw [len_limbs]; omega)
          have gq : (limbs x).getD k 0 = 0 := by simp [List.getD, List.getElem?_eq_none (show (limbs x).length ≤ k from hk1)]
          generalize (limbs y)[k]'(by rw [len_limbs]; omega) = p at *
          have GP := Lib.hid gp
          have GQ := Lib.hid gq
          clear gp gq
          obtain ⟨ds, hl, h32, hr, he, hbel⟩ := HR.out
          have hca' := (hbel.cell (p := bd.add k) (by rw [block_of_add']; omega)).trans hca
          obtain ⟨ox, ho, hf⟩ := HR.out.cell (show k < len y + 1 by omega)
          clear hl h32 hr he hbel hca
          go_wp2
          go_roundw
          case rel => exact ⟨k + 1, _, by omega, by omega, by go_num, by go_num, by omega, HR.out.step' (by omega) (Nat.le_refl _) GP.out GQ.out _ (by omega)⟩
          case measure => simp [intOf]; omega
        · have hk' : k = len y := by omega
          subst hk'
          obtain ⟨ox, ho, hf⟩ := HR.out.cell (show len y < len y + 1 by omega)
          obtain ⟨ds, hl, h32, hr, he, hbel⟩ := HR.out.finish (Nat.le_refl _) (by omega) (Nat.le_refl _) (by rw [len_limbs]; omega)
          have HE := Lib.hid he
          clear he
          go_wp2_with fail
          refine (trim_k _ _ _ ds _ hl (hr.mem hr.lt) (by omega) (by omega) h32).mono ?_
          rintro e w1 ⟨rfl, rfl⟩
          go_wp2
          go_ret
          refine ⟨_, rfl, ?_, hbel⟩
          have := hr.nat h32 (c := len y + 1) (by omega)
          have he' := HE.out
          rw [val_limbs, val_limbs] at he'
          rw [show x + y = val ds from by omega]
          exact this

set_option maxHeartbeats 400000 in
theorem sum_any (va vb : Value) (x y : Nat) (w : World) (ha : NatAt w va x) (hb : NatAt w vb y) (hx : len x ≤ 1099511627776) (hy : len y ≤ 1099511627776) :
    Calls Tryd.prog 46 #[va, vb] w (GivesNat (x + y) w) := by
  obtain ⟨A, c, rfl, hc, hma⟩ := ha
  obtain ⟨B, d, rfl, hd, hmb⟩ := hb
  rcases Nat.lt_or_ge (len x) (len y) with hlt | hge
  · rcases Nat.eq_zero_or_pos (len x) with h0 | h0
    · have hx0 : x = 0 := len_eq_zero.1 h0
      subst hx0
      have HB : Hid (NatAt w (.slice B (len y) d) y) := ⟨B, d, rfl, hd, hmb⟩
      rw [Nat.zero_add]
      rw [len_zero] at *
      have ht : decide (0 < len y) = true := by simp; omega
      go_enter Tryd.func46, Tryd.ntmps46
      go_wp2
      go_ret
      exact ⟨_, rfl, HB.out, Below.refl _ _⟩
    · exact sum_lt A B c d x y w hma hmb hy hlt h0
  · rcases Nat.eq_zero_or_pos (len y) with h0 | h0
    · have hy0 : y = 0 := len_eq_zero.1 h0
      subst hy0
      have HB : Hid (NatAt w (.slice A (len x) c) x) := ⟨A, c, rfl, hc, hma⟩
      rw [Nat.add_zero]
      rw [len_zero] at *
      have ht : decide (len x < 0) = false := by simp
      go_enter Tryd.func46, Tryd.ntmps46
      go_wp2
      go_ret
      exact ⟨_, rfl, HB.out, Below.refl _ _⟩
    · exact sum_ge A B c d x y w hma hmb hx hge h0
end Go.Proofs.YtjajmonhcnmidaaDoor
namespace Go.Proofs.YtjajmonhcnmidaaDoor
open Go.RowKit

def DifRel (w : World) (g n : Nat) (X Y : List Nat) (wr : World) (k c : Nat) : Prop :=
  ∃ ds : List Nat, ds.length = n ∧ L32 ds ∧ Row wr g ds ∧ val (ds.take k) + val (Y.take k) = val (X.take k) + 4294967296 ^ k * c ∧ Below w.heap.size w wr

/-- p - q - c in 64 bits. -/
def dig (p q c : Nat) : Nat := (p + 18446744073709551616 - q - c) % 18446744073709551616
theorem dig_lt (p q c : Nat) : dig p q c < 18446744073709551616 := by unfold dig; omega
theorem dig_top {p q c : Nat} (_hp : p < 4294967296) (_hq : q < 4294967296) (_hc : c ≤ 1) : dig p q c / 9223372036854775808 ≤ 1 := by unfold dig; omega
theorem wrap_dig {p q c : Nat} (hp : p < 4294967296) (hq : q < 4294967296) (hc : c ≤ 1) : IntKind.u64.wrap (IntKind.u64.wrap ((p : Int) - (q : Int)) - (c : Int)) = (dig p q c : Int) := by
  unfold dig; rw [IntKind.wrap_u64, IntKind.wrap_u64]; omega
theorem wrap_dig0 {p c : Nat} (hp : p < 4294967296) (hc : c ≤ 1) : IntKind.u64.wrap ((p : Int) - (c : Int)) = (dig p 0 c : Int) := by
  unfold dig; rw [IntKind.wrap_u64]; omega
theorem DifRel.step {w wr : World} {g n : Nat} {X Y : List Nat} {k c p q : Nat} (h : DifRel w g n X Y wr k c) (hk : k < n) (hg : w.heap.size ≤ g) (hp : X.getD k 0 = p) (hq : Y.getD k 0 = q) (hp' : p < 4294967296) (hq' : q < 4294967296) (hc : c ≤ 1)
    (v : Int) (hv : v = (dig p q c : Int) % 4294967296) : DifRel w g n X Y (wr.setCell ⟨g, k, none⟩ (.int .u32 v)) (k + 1) (dig p q c / 9223372036854775808) := by
  obtain ⟨ds, hl, h32, hr, he, hb⟩ := h
  have e : v = ((dig p q c % 4294967296 : Nat) : Int) := by omega
  rw [e]
  refine ⟨ds.set k (dig p q c % 4294967296), by simpa using hl, h32.set (by omega), hr.set_ k _, ?_, hb.setCell (by simpa using hg) _⟩
  rw [take_set_succ _ _ _ (by omega), val_take_succ X, val_take_succ Y, hp, hq, Nat.pow_succ]
  have e1 : dig p q c % 4294967296 + q + c = p + 4294967296 * (dig p q c / 9223372036854775808) := by unfold dig; omega
  generalize dig p q c / 9223372036854775808 = d at *
  generalize dig p q c % 4294967296 = r at *
  generalize 4294967296 ^ k = P at *
  have e2 : P * (r + q + c) = P * (p + 4294967296 * d) := by rw [e1]
  rw [Nat.mul_add, Nat.mul_add, Nat.mul_add, ← Nat.mul_assoc] at e2
  omega
theorem DifRel.cell {w wr : World} {g n : Nat} {X Y : List Nat} {k c : Nat} (h : DifRel w g n X Y wr k c) {i : Nat} (hi : i < n) : ∃ x : Nat, wr.cell? ⟨g, i, none⟩ = some (.int .u32 (x : Int)) ∧ wr.frozen? ⟨g, i, none⟩ = false := by
  obtain ⟨ds, hl, h32, hr, he, hb⟩ := h
  exact ⟨_, hr.cell (by omega), hr.frozen i⟩
theorem DifRel.start (w : World) (n : Nat) (X Y : List Nat) : DifRel w w.heap.size n X Y (w.alloc (rowObj (List.replicate n 0))) 0 0 :=
  ⟨_, by simp, L32.replicate _, Row.new _ _, by simp [val], below_alloc _ _⟩
theorem DifRel.finish {w wr : World} {g n : Nat} {X Y : List Nat} {c : Nat} (h : DifRel w g n X Y wr n c) (hX : X.length ≤ n) (hY : Y.length ≤ n) (hxy : val Y ≤ val X) :
    ∃ ds : List Nat, ds.length = n ∧ L32 ds ∧ Row wr g ds ∧ val ds = val X - val Y ∧ Below w.heap.size w wr := by
  obtain ⟨ds, hl, h32, hr, he, hb⟩ := h
  refine ⟨ds, hl, h32, hr, ?_, hb⟩
  rw [List.take_of_length_le (by omega), List.take_of_length_le hX, List.take_of_length_le hY] at he
  have h1 := val_lt h32
  rw [hl] at h1
  rcases Nat.eq_zero_or_pos c with h0 | h0
  · rw [h0] at he; omega
  · have : 4294967296 ^ n * 1 ≤ 4294967296 ^ n * c := Nat.mul_le_mul_left _ h0
    omega
end Go.Proofs.YtjajmonhcnmidaaDoor
namespace Go.Proofs.YtjajmonhcnmidaaDoor
open Go.RowKit

set_option maxHeartbeats 1000000 in
theorem difference_pos (A B : Option Addr) (c d x y : Nat) (w : World) (ha : Mem w w.heap.size A (limbs x)) (hb : Mem w w.heap.size B (limbs y)) (hx : len x ≤ 1099511627776) (hxy : y ≤ x) (hy0 : 0 < len y) :
    Calls Tryd.prog 48 #[.slice A (len x) c, .slice B (len y) d] w (GivesNat (x - y) w) := by
  have hle : len y ≤ len x := len_mono hxy
  have ht2 : ((len y : Int) == 0) = false := by simp; omega
  have hmk := fun W => mk32 ((len x : Int)) (by omega) (by omega) W
  rw [Int.toNat_natCast] at hmk
  obtain ⟨ad, rfl, _, hca⟩ := ha.at_ (show 0 < (limbs x).length by rw [len_limbs]; omega)
  obtain ⟨bd, rfl, _, hcb⟩ := hb.at_ (show 0 < (limbs y).length by rw [len_limbs]; omega)
  clear hca hcb
  go_enter Tryd.func48, Tryd.ntmps48
  go_wp2_with fail
  go_loopw [6, 21] (fun cr i wr => ∃ k c : Nat, k ≤ len y ∧ i = .int .i64 k ∧ cr = .int .u64 c ∧ c ≤ 1 ∧ DifRel w w.heap.size (len x) (limbs x) (limbs y) wr k c) (fun _ i _ => len y - (intOf i).toNat)
  case atStart => exact ⟨0, 0, by omega, rfl, rfl, by omega, DifRel.start _ _ _ _⟩
  case round =>
    obtain ⟨k, c, hk, rfl, rfl, hc1, hrel⟩ := hrel
    have HR := Lib.hid hrel
    clear hrel
    by_cases hlt : k < len y
    · obtain ⟨ad', e, _, hca⟩ := ha.at_ (show k < (limbs x).length by rw [len_limbs]; omega)
      injection e with e
      subst e
      obtain ⟨bd', e, _, hcb⟩ := hb.at_ (show k < (limbs y).length by rw [len_limbs]; omega)
      injection e with e
      subst e
      have hp := (limbs_32 x).get (show k < (limbs x).length by rw [len_limbs]; omega)
      have hq := (limbs_32 y).get (show k < (limbs y).length by rw [len_limbs]; omega)
      have gp := getD_of_lt (show k < (limbs x).length by rw [len_limbs]; omega)
      have gq := getD_of_lt (show k < (limbs y).length by rw [len_limbs]; omega)
      generalize (limbs x)[k]'(by rw [len_limbs]; omega) = p at *
      generalize (limbs y)[k]'(by rw [len_limbs]; omega) = q at *
      have GP := Lib.hid gp
      have GQ := Lib.hid gq
      clear gp gq
      obtain ⟨ds, hl, h32, hr, he, hbel⟩ := HR.out
      have hca' := (hbel.cell (p := ad.add k) (by rw [block_of_add']; omega)).trans hca
      have hcb' := (hbel.cell (p := bd.add k) (by rw [block_of_add']; omega)).trans hcb
      obtain ⟨ox, ho, hf⟩ := HR.out.cell (show k < len x by omega)
      clear hl h32 hr he hbel hca hcb
      have hw := wrap_dig hp hq hc1
      have hd := dig_lt p q c
      have ht := dig_top hp hq hc1
      have hst := Lib.hid (HR.out.step (by omega) (Nat.le_refl _) GP.out GQ.out hp hq hc1 _ rfl)
      generalize dig p q c = D at *
      clear HR
      go_wp2
      go_roundw
      case rel => exact ⟨k + 1, D / 9223372036854775808, by omega, by go_num, by go_num, by omega, hst.out⟩
      case measure => simp [intOf]; omega
    · have hk' : k = len y := by omega
      subst hk'
      go_wp2_with fail
      go_loopw [6, 10] (fun cr i wr => ∃ k c : Nat, len y ≤ k ∧ k ≤ len x ∧ i = .int .i64 k ∧ cr = .int .u64 c ∧ c ≤ 1 ∧ DifRel w w.heap.size (len x) (limbs x) (limbs y) wr k c) (fun _ i _ => len x - (intOf i).toNat)
      case atStart => exact ⟨_, c, Nat.le_refl _, by omega, rfl, rfl, hc1, HR.out⟩
      case round =>
        clear HR hc1
        obtain ⟨k, c, hk1, hk2, rfl, rfl, hc1, hrel⟩ := hrel
        have HR := Lib.hid hrel
        clear hrel
        by_cases hlt2 : k < len x
        · obtain ⟨ad', e, _, hca⟩ := ha.at_ (show k < (limbs x).length by rw [len_limbs]; omega)
          injection e with e
          subst e
          have hp := (limbs_32 x).get (show k < (limbs x).length by rw [len_limbs]; omega)
          have gp := getD_of_lt (show k < (limbs x).length by rw [len_limbs]; omega)
          have gq : (limbs y).getD k 0 = 0 := by simp [List.getD, List.getElem?_eq_none (show (limbs y).length ≤ k from hk1)]
          generalize (limbs x)[k]'(by rw [len_limbs]; omega) = p at *
          have GP := Lib.hid gp
          have GQ := Lib.hid gq
          clear gp gq
          obtain ⟨ds, hl, h32, hr, he, hbel⟩ := HR.out
          have hca' := (hbel.cell (p := ad.add k) (by rw [block_of_add']; omega)).trans hca
          obtain ⟨ox, ho, hf⟩ := HR.out.cell (show k < len x by omega)
          clear hl h32 hr he hbel hca
          have hw := wrap_dig0 hp hc1
          have hd := dig_lt p 0 c
          have ht := dig_top (q := 0) hp (by omega) hc1
          have hst := Lib.hid (HR.out.step (by omega) (Nat.le_refl _) GP.out GQ.out hp (by omega) hc1 _ rfl)
          generalize dig p 0 c = D at *
          clear HR
          go_wp2
          go_roundw
          case rel => exact ⟨k + 1, D / 9223372036854775808, by omega, by omega, by go_num, by go_num, by omega, hst.out⟩
          case measure => simp [intOf]; omega
        · have hk' : k = len x := by omega
          subst hk'
          obtain ⟨ds, hl, h32, hr, he, hbel⟩ := HR.out.finish (Nat.le_refl _) (by rw [len_limbs]; omega) (by rw [val_limbs, val_limbs]; exact hxy)
          have HE := Lib.hid he
          clear he
          go_wp2_with fail
          refine (trim_k _ _ _ ds _ hl (hr.mem hr.lt) (by omega) (by omega) h32).mono ?_
          rintro e w1 ⟨rfl, rfl⟩
          go_wp2
          go_ret
          refine ⟨_, rfl, ?_, hbel⟩
          have := hr.nat h32 (c := len x) (by omega)
          have he' := HE.out
          rw [val_limbs, val_limbs] at he'
          rw [show x - y = val ds from by omega]
          exact this

set_option maxHeartbeats 400000 in
theorem difference_any (va vb : Value) (x y : Nat) (w : World) (ha : NatAt w va x) (hb : NatAt w vb y) (hx : len x ≤ 1099511627776) (hxy : y ≤ x) :
    Calls Tryd.prog 48 #[va, vb] w (GivesNat (x - y) w) := by
  obtain ⟨A, c, rfl, hc, hma⟩ := ha
  obtain ⟨B, d, rfl, hd, hmb⟩ := hb
  rcases Nat.eq_zero_or_pos (len y) with h0 | h0
  · have hy0 : y = 0 := len_eq_zero.1 h0
    subst hy0
    have HB : Hid (NatAt w (.slice A (len x) c) x) := ⟨A, c, rfl, hc, hma⟩
    rw [Nat.sub_zero]
    rw [len_zero] at *
    go_enter Tryd.func48, Tryd.ntmps48
    go_wp2
    go_ret
    exact ⟨_, rfl, HB.out, Below.refl _ _⟩
  · exact difference_pos A B c d x y w hma hmb hx hxy h0
end Go.Proofs.YtjajmonhcnmidaaDoor
namespace Go.Proofs.YtjajmonhcnmidaaDoor
open Go.RowKit

theorem mul_bd {p q : Nat} (hp : p < 4294967296) (hq : q < 4294967296) : p * q ≤ 18446744065119617025 := by
  have := Nat.mul_le_mul (show p ≤ 4294967295 by omega) (show q ≤ 4294967295 by omega)
  omega
theorem val_nil : val [] = 0 := rfl
theorem val_set (ds : List Nat) (t r : Nat) (ht : t < ds.length) : val (ds.set t r) + 4294967296 ^ t * ds.getD t 0 = val ds + 4294967296 ^ t * r := by
  induction ds generalizing t with
  | nil => simp at ht
  | cons x l ih =>
    match t with
    | 0 => simp [val]; omega
    | t + 1 =>
      have := ih t (by simpa using ht)
      simp only [List.set_cons_succ, val, List.getD_cons_succ, Nat.pow_succ]
      generalize 4294967296 ^ t = P at *
      rw [Nat.mul_assoc, Nat.mul_comm 4294967296 (l.getD t 0), ← Nat.mul_assoc, Nat.mul_assoc P 4294967296 r, Nat.mul_comm 4294967296 r, ← Nat.mul_assoc]
      generalize P * l.getD t 0 = u at *
      generalize P * r = v at *
      omega

/-- After the rows below i, and j limbs of row i (the factor p), with the carry c; the rest is zero. -/
def MulRel (w : World) (g n m : Nat) (X Y : List Nat) (wr : World) (i j p c : Nat) : Prop :=
  ∃ ds : List Nat, ds.length = n ∧ L32 ds ∧ Row wr g ds ∧ val ds + 4294967296 ^ (i + j) * c = val (X.take i) * val Y + 4294967296 ^ i * (p * val (Y.take j)) ∧ (∀ t, i + m ≤ t → ds.getD t 0 = 0) ∧ Below w.heap.size w wr

theorem MulRel.cell {w wr : World} {g n m : Nat} {X Y : List Nat} {i j p c : Nat} (h : MulRel w g n m X Y wr i j p c) {t : Nat} (ht : t < n) : ∃ x : Nat, x < 4294967296 ∧ wr.cell? ⟨g, t, none⟩ = some (.int .u32 (x : Int)) ∧ wr.frozen? ⟨g, t, none⟩ = false ∧
    (j < m → ∀ q c' : Nat, Y.getD j 0 = q → t = i + j → w.heap.size ≤ g → c' = (c + (p * q + x)) / 4294967296 → ∀ v : Int, v = ((c : Int) + ((p : Int) * (q : Int) + (x : Int))) % 4294967296 → MulRel w g n m X Y (wr.setCell ⟨g, t, none⟩ (.int .u32 v)) i (j + 1) p c') := by
  obtain ⟨ds, hl, h32, hr, he, hz, hb⟩ := h
  refine ⟨_, h32.get (show t < ds.length by omega), hr.cell (by omega), hr.frozen t, ?_⟩
  intro hj q c' hq htij hg hc' v hv
  have gx := getD_of_lt (show t < ds.length by omega)
  generalize ds[t]'(by omega) = x at *
  have e : v = (((c + (p * q + x)) % 4294967296 : Nat) : Int) := by
    rw [← Int.natCast_mul] at hv
    generalize p * q = pq at *
    omega
  rw [e]
  subst hc'
  refine ⟨ds.set t ((c + (p * q + x)) % 4294967296), by simpa using hl, h32.set (by omega), hr.set_ t _, ?_, fun t' ht' => ?_, hb.setCell (by simpa using hg) _⟩
  · have hs := val_set ds t ((c + (p * q + x)) % 4294967296) (by omega)
    rw [gx] at hs
    rw [val_take_succ Y, hq, show i + (j + 1) = t + 1 from by omega, Nat.pow_succ]
    rw [← htij] at he
    have e1 : 4294967296 ^ t = 4294967296 ^ i * 4294967296 ^ j := by rw [htij, Nat.pow_add]
    have e2 : c + (p * q + x) = 4294967296 * ((c + (p * q + x)) / 4294967296) + (c + (p * q + x)) % 4294967296 := by omega
    generalize (c + (p * q + x)) / 4294967296 = d at *
    generalize (c + (p * q + x)) % 4294967296 = r at *
    have e3 : 4294967296 ^ i * (p * (val (Y.take j) + 4294967296 ^ j * q)) = 4294967296 ^ i * (p * val (Y.take j)) + 4294967296 ^ t * (p * q) := by
      rw [e1, Nat.mul_add, Nat.mul_add, Nat.mul_assoc]
      congr 2
      rw [Nat.mul_left_comm]
    rw [e3]
    generalize 4294967296 ^ i * (p * val (Y.take j)) = a at *
    generalize val (X.take i) * val Y = b at *
    generalize 4294967296 ^ t = P at *
    have e4 : P * (c + (p * q + x)) = P * (4294967296 * d + r) := by rw [e2]
    rw [Nat.mul_add, Nat.mul_add, Nat.mul_add, ← Nat.mul_assoc P 4294967296 d] at e4
    omega
  · rw [List.getD_eq_getElem?_getD, List.getElem?_set_ne (by omega), ← List.getD_eq_getElem?_getD]
    exact hz t' ht'

theorem MulRel.start {w : World} {n m : Nat} {X Y : List Nat} (p : Nat) : MulRel w w.heap.size n m X Y (w.alloc (rowObj (List.replicate n 0))) 0 0 p 0 :=
  ⟨_, by simp, L32.replicate _, Row.new _ _, by simp [val, val_replicate], fun t _ => by simp [List.getD, List.getElem?_replicate]; split <;> rfl, below_alloc _ _⟩
/-- Between the rows: the factor does not matter yet. -/
theorem MulRel.row {w wr : World} {g n m : Nat} {X Y : List Nat} {i p p' : Nat} (h : MulRel w g n m X Y wr i 0 p 0) : MulRel w g n m X Y wr i 0 p' 0 := by
  obtain ⟨ds, hl, h32, hr, he, hz, hb⟩ := h
  exact ⟨ds, hl, h32, hr, by rw [List.take_zero, val_nil, Nat.mul_zero, Nat.mul_zero] at he ⊢; exact he, hz, hb⟩
/-- The end of a row: the carry is stored. -/
theorem MulRel.next {w wr : World} {g n m : Nat} {X Y : List Nat} {i p c : Nat} (h : MulRel w g n m X Y wr i m p c) (hg : w.heap.size ≤ g) (hi : i + m < n) (hc : c < 4294967296) (hp : X.getD i 0 = p) (hY : Y.length ≤ m) (p' : Nat) :
    MulRel w g n m X Y (wr.setCell ⟨g, i + m, none⟩ (.int .u32 (c : Int))) (i + 1) 0 p' 0 := by
  obtain ⟨ds, hl, h32, hr, he, hz, hb⟩ := h
  refine ⟨ds.set (i + m) c, by simpa using hl, h32.set hc, hr.set_ _ c, ?_, fun t' ht' => ?_, hb.setCell (by simpa using hg) _⟩
  · have hs := val_set ds (i + m) c (by omega)
    rw [hz _ (Nat.le_refl _), Nat.mul_zero, Nat.add_zero] at hs
    rw [List.take_of_length_le hY] at he
    rw [Nat.mul_zero, Nat.add_zero, hs, he, val_take_succ, hp, List.take_zero, val_nil, Nat.mul_zero, Nat.mul_zero, Nat.add_zero, Nat.add_mul, Nat.mul_assoc]
  · rw [List.getD_eq_getElem?_getD, List.getElem?_set_ne (by omega), ← List.getD_eq_getElem?_getD]
    exact hz t' (by omega)
theorem MulRel.drewN {w wr : World} {g n m : Nat} {X Y : List Nat} {i j p c : Nat} (h : MulRel w g n m X Y wr i j p c) (k : Nat) : MulRel w g n m X Y (wr.drewN k) i j p c := by
  obtain ⟨ds, hl, h32, hr, he, hz, hb⟩ := h
  exact ⟨ds, hl, h32, hr, he, hz, ⟨hb.os, hb.tape, hb.output, hb.size, hb.block⟩⟩
theorem MulRel.finish {w wr : World} {g n m : Nat} {X Y : List Nat} {i p : Nat} (h : MulRel w g n m X Y wr i 0 p 0) (hX : X.length ≤ i) :
    ∃ ds : List Nat, ds.length = n ∧ L32 ds ∧ Row wr g ds ∧ val ds = val X * val Y ∧ Below w.heap.size w wr := by
  obtain ⟨ds, hl, h32, hr, he, hz, hb⟩ := h
  refine ⟨ds, hl, h32, hr, ?_, hb⟩
  rw [List.take_of_length_le hX] at he
  rw [List.take_zero, val_nil, Nat.mul_zero, Nat.mul_zero, Nat.mul_zero, Nat.add_zero, Nat.add_zero] at he
  exact he
end Go.Proofs.YtjajmonhcnmidaaDoor
namespace Go.Proofs.YtjajmonhcnmidaaDoor
open Go.RowKit

set_option maxHeartbeats 2000000 in
theorem product_le (A B : Option Addr) (c d x y : Nat) (w : World) (ha : Mem w w.heap.size A (limbs x)) (hb : Mem w w.heap.size B (limbs y)) (hx : len x ≤ 1099511627776) (hy : len y ≤ 1099511627776) (hle : len x ≤ len y) (hx0 : 0 < len x) (hy0 : 0 < len y) :
    Calls Tryd.prog 49 #[.slice A (len x) c, .slice B (len y) d] w (GivesNat (x * y) w) := by
  have ht : decide (len y < len x) = false := by simp; omega
  have ht2 : ((len x : Int) == 0) = false := by simp; omega
  have ht3 : ((len y : Int) == 0) = false := by simp; omega
  have hmk := fun W => mk32 ((len x : Int) + (len y : Int)) (by omega) (by omega) W
  have e1 : ((len x : Int) + (len y : Int)).toNat = len x + len y := by omega
  rw [e1] at hmk
  clear e1
  obtain ⟨ad, rfl, _, hca⟩ := ha.at_ (show 0 < (limbs x).length by rw [len_limbs]; omega)
  obtain ⟨bd, rfl, _, hcb⟩ := hb.at_ (show 0 < (limbs y).length by rw [len_limbs]; omega)
  clear hca hcb
  go_enter Tryd.func49, Tryd.ntmps49
  go_wp2_with fail
  go_loopw [35] (fun i wr => ∃ k : Nat, k ≤ len x ∧ i = .int .i64 k ∧ MulRel w w.heap.size (len x + len y) (len y) (limbs x) (limbs y) wr k 0 0 0) (fun i _ => len x - (intOf i).toNat)
  case atStart => exact ⟨0, by omega, rfl, MulRel.start 0⟩
  case round =>
    obtain ⟨k, hk, rfl, hR0⟩ := hrel
    by_cases hlt : k < len x
    · obtain ⟨ad', e, _, hca⟩ := ha.at_ (show k < (limbs x).length by rw [len_limbs]; omega)
      injection e with e
      subst e
      have hp := (limbs_32 x).get (show k < (limbs x).length by rw [len_limbs]; omega)
      have gp := getD_of_lt (show k < (limbs x).length by rw [len_limbs]; omega)
      generalize (limbs x)[k]'(by rw [len_limbs]; omega) = p at *
      have GP := Lib.hid gp
      clear gp
      obtain ⟨ds, hl, h32, hr, he, hz, hbel⟩ := hR0
      have hca' := (hbel.cell (p := ad.add k) (by rw [block_of_add']; omega)).trans hca
      have HR : Hid (MulRel w w.heap.size (len x + len y) (len y) (limbs x) (limbs y) wr k 0 p 0) := MulRel.row ⟨ds, hl, h32, hr, he, hz, hbel⟩
      clear hl h32 hr he hz hbel hca
      have b1 : (0 : Int) ≤ (k : Int) := by omega
      have b2 : (k : Int) < (len x : Int) := by omega
      go_wp2_with fail
      go_quiet (fail)
      have HR1 := Lib.hid (HR.out.drewN nq)
      clear HR
      generalize wr.drewN nq = wo at *
      go_wp2_with fail
      go_loopw [9, 53] (fun cr i wr2 => ∃ j cc : Nat, j ≤ len y ∧ i = .int .i64 j ∧ cr = .int .u64 cc ∧ cc < 4294967296 ∧ MulRel w w.heap.size (len x + len y) (len y) (limbs x) (limbs y) wr2 k j p cc) (fun _ i _ => len y - (intOf i).toNat)
      case atStart => exact ⟨0, 0, by omega, rfl, rfl, by omega, HR1.out⟩
      case round =>
        obtain ⟨j, cc, hj, rfl, rfl, hcc, hrel⟩ := hrel
        have HR2 := Lib.hid hrel
        clear hrel HR1
        by_cases hlj : j < len y
        · obtain ⟨bd', e, _, hcb⟩ := hb.at_ (show j < (limbs y).length by rw [len_limbs]; omega)
          injection e with e
          subst e
          have hq := (limbs_32 y).get (show j < (limbs y).length by rw [len_limbs]; omega)
          have gq := getD_of_lt (show j < (limbs y).length by rw [len_limbs]; omega)
          generalize (limbs y)[j]'(by rw [len_limbs]; omega) = q at *
          have GQ := Lib.hid gq
          clear gq
          obtain ⟨ds, hl, h32, hr, he, hz, hbel⟩ := HR2.out
          have hcb' := (hbel.cell (p := bd.add j) (by rw [block_of_add']; omega)).trans hcb
          clear hl h32 hr he hz hbel hcb
          obtain ⟨r, hr, hcell, hfz, hstep⟩ := HR2.out.cell (t := k + j) (by omega)
          have HS := Lib.hid (hstep hlj q _ GQ.out rfl (Nat.le_refl _) rfl _ rfl)
          have hm := mul_bd hp hq
          have hm0 : (0 : Int) ≤ (p : Int) * (q : Int) := by rw [← Int.natCast_mul]; omega
          have hm1 : (p : Int) * (q : Int) ≤ 18446744065119617025 := by rw [← Int.natCast_mul]; omega
          clear hstep HR2 hm
          go_wp2
          go_roundw
          case rel => exact ⟨j + 1, (cc + (p * q + r)) / 4294967296, by omega, by go_num, by congr 1, by have := mul_bd hp hq; generalize p * q = pq at *; omega, HS.out⟩
          case measure => simp [intOf]; omega
        · have hj' : j = len y := by omega
          subst hj'
          obtain ⟨r, hr, hcell, hfz, hstep⟩ := HR2.out.cell (t := k + len y) (by omega)
          clear hstep
          go_wp2
          go_roundw
          case rel => exact ⟨k + 1, by omega, by go_num, HR2.out.next (Nat.le_refl _) (by omega) hcc GP.out (Nat.le_refl _) 0⟩
          case measure => simp [intOf]; omega

    · have hk' : k = len x := by omega
      subst hk'
      obtain ⟨ds, hl, h32, hr, he, hbel⟩ := hR0.finish (Nat.le_refl _)
      have HE := Lib.hid he
      clear he
      go_wp2_with fail
      refine (trim_k _ _ _ ds _ hl (hr.mem hr.lt) (by omega) (by omega) h32).mono ?_
      rintro e w1 ⟨rfl, rfl⟩
      go_wp2
      go_ret
      refine ⟨_, rfl, ?_, hbel⟩
      have := hr.nat h32 (c := len x + len y) (by omega)
      have he' := HE.out
      rw [val_limbs, val_limbs] at he'
      rw [show x * y = val ds from by rw [he']]
      exact this

set_option maxHeartbeats 2000000 in
theorem product_gt (A B : Option Addr) (c d x y : Nat) (w : World) (ha : Mem w w.heap.size A (limbs x)) (hb : Mem w w.heap.size B (limbs y)) (hx : len x ≤ 1099511627776) (hy : len y ≤ 1099511627776) (hle : len y < len x) (hx0 : 0 < len x) (hy0 : 0 < len y) :
    Calls Tryd.prog 49 #[.slice A (len x) c, .slice B (len y) d] w (GivesNat (x * y) w) := by
  have ht : decide (len y < len x) = true := by simp; omega
  have ht2 : ((len x : Int) == 0) = false := by simp; omega
  have ht3 : ((len y : Int) == 0) = false := by simp; omega
  have hmk := fun W => mk32 ((len y : Int) + (len x : Int)) (by omega) (by omega) W
  have e1 : ((len y : Int) + (len x : Int)).toNat = len y + len x := by omega
  rw [e1] at hmk
  clear e1
  obtain ⟨ad, rfl, _, hca⟩ := ha.at_ (show 0 < (limbs x).length by rw [len_limbs]; omega)
  obtain ⟨bd, rfl, _, hcb⟩ := hb.at_ (show 0 < (limbs y).length by rw [len_limbs]; omega)
  clear hca hcb
  go_enter Tryd.func49, Tryd.ntmps49
  go_wp2_with fail
  go_loopw [35] (fun i wr => ∃ k : Nat, k ≤ len y ∧ i = .int .i64 k ∧ MulRel w w.heap.size (len y + len x) (len x) (limbs y) (limbs x) wr k 0 0 0) (fun i _ => len y - (intOf i).toNat)
  case atStart => exact ⟨0, by omega, rfl, MulRel.start 0⟩
  case round =>
    obtain ⟨k, hk, rfl, hR0⟩ := hrel
    by_cases hlt : k < len y
    · obtain ⟨bd', e, _, hca⟩ := hb.at_ (show k < (limbs y).length by rw [len_limbs]; omega)
      injection e with e
      subst e
      have hp := (limbs_32 y).get (show k < (limbs y).length by rw [len_limbs]; omega)
      have gp := getD_of_lt (show k < (limbs y).length by rw [len_limbs]; omega)
      generalize (limbs y)[k]'(by rw [len_limbs]; omega) = p at *
      have GP := Lib.hid gp
      clear gp
      obtain ⟨ds, hl, h32, hr, he, hz, hbel⟩ := hR0
      have hca' := (hbel.cell (p := bd.add k) (by rw [block_of_add']; omega)).trans hca
      have HR : Hid (MulRel w w.heap.size (len y + len x) (len x) (limbs y) (limbs x) wr k 0 p 0) := MulRel.row ⟨ds, hl, h32, hr, he, hz, hbel⟩
      clear hl h32 hr he hz hbel hca
      have b1 : (0 : Int) ≤ (k : Int) := by omega
      have b2 : (k : Int) < (len y : Int) := by omega
      go_wp2_with fail
      go_quiet (fail)
      have HR1 := Lib.hid (HR.out.drewN nq)
      clear HR
      generalize wr.drewN nq = wo at *
      go_wp2_with fail
      go_loopw [9, 53] (fun cr i wr2 => ∃ j cc : Nat, j ≤ len x ∧ i = .int .i64 j ∧ cr = .int .u64 cc ∧ cc < 4294967296 ∧ MulRel w w.heap.size (len y + len x) (len x) (limbs y) (limbs x) wr2 k j p cc) (fun _ i _ => len x - (intOf i).toNat)
      case atStart => exact ⟨0, 0, by omega, rfl, rfl, by omega, HR1.out⟩
      case round =>
        obtain ⟨j, cc, hj, rfl, rfl, hcc, hrel⟩ := hrel
        have HR2 := Lib.hid hrel
        clear hrel HR1
        by_cases hlj : j < len x
        · obtain ⟨ad', e, _, hcb⟩ := ha.at_ (show j < (limbs x).length by rw [len_limbs]; omega)
          injection e with e
          subst e
          have hq := (limbs_32 x).get (show j < (limbs x).length by rw [len_limbs]; omega)
          have gq := getD_of_lt (show j < (limbs x).length by rw [len_limbs]; omega)
          generalize (limbs x)[j]'(by rw [len_limbs]; omega) = q at *
          have GQ := Lib.hid gq
          clear gq
          obtain ⟨ds, hl, h32, hr, he, hz, hbel⟩ := HR2.out
          have hcb' := (hbel.cell (p := ad.add j) (by rw [block_of_add']; omega)).trans hcb
          clear hl h32 hr he hz hbel hcb
          obtain ⟨r, hr, hcell, hfz, hstep⟩ := HR2.out.cell (t := k + j) (by omega)
          have HS := Lib.hid (hstep hlj q _ GQ.out rfl (Nat.le_refl _) rfl _ rfl)
          have hm := mul_bd hp hq
          have hm0 : (0 : Int) ≤ (p : Int) * (q : Int) := by rw [← Int.natCast_mul]; omega
          have hm1 : (p : Int) * (q : Int) ≤ 18446744065119617025 := by rw [← Int.natCast_mul]; omega
          clear hstep HR2 hm
          go_wp2
          go_roundw
          case rel => exact ⟨j + 1, (cc + (p * q + r)) / 4294967296, by omega, by go_num, by congr 1, by have := mul_bd hp hq; generalize p * q = pq at *; omega, HS.out⟩
          case measure => simp [intOf]; omega
        · have hj' : j = len x := by omega
          subst hj'
          obtain ⟨r, hr, hcell, hfz, hstep⟩ := HR2.out.cell (t := k + len x) (by omega)
          clear hstep
          go_wp2
          go_roundw
          case rel => exact ⟨k + 1, by omega, by go_num, HR2.out.next (Nat.le_refl _) (by omega) hcc GP.out (Nat.le_refl _) 0⟩
          case measure => simp [intOf]; omega

    · have hk' : k = len y := by omega
      subst hk'
      obtain ⟨ds, hl, h32, hr, he, hbel⟩ := hR0.finish (Nat.le_refl _)
      have HE := Lib.hid he
      clear he
      go_wp2_with fail
      refine (trim_k _ _ _ ds _ hl (hr.mem hr.lt) (by omega) (by omega) h32).mono ?_
      rintro e w1 ⟨rfl, rfl⟩
      go_wp2
      go_ret
      refine ⟨_, rfl, ?_, hbel⟩
      have := hr.nat h32 (c := len y + len x) (by omega)
      have he' := HE.out
      rw [val_limbs, val_limbs] at he'
      rw [show x * y = val ds from by rw [he']; exact Nat.mul_comm _ _]
      exact this

set_option maxHeartbeats 400000 in
theorem product_any (va vb : Value) (x y : Nat) (w : World) (ha : NatAt w va x) (hb : NatAt w vb y) (hx : len x ≤ 1099511627776) (hy : len y ≤ 1099511627776) :
    Calls Tryd.prog 49 #[va, vb] w (GivesNat (x * y) w) := by
  obtain ⟨A, c, rfl, hc, hma⟩ := ha
  obtain ⟨B, d, rfl, hd, hmb⟩ := hb
  rcases Nat.eq_zero_or_pos (len x) with h0 | h0
  · have hx0 : x = 0 := len_eq_zero.1 h0
    subst hx0
    rw [Nat.zero_mul]
    rw [len_zero] at *
    go_enter Tryd.func49, Tryd.ntmps49
    go_wp2
    go_ret
    exact ⟨_, rfl, NatAt.zero _ _ _, Below.refl _ _⟩
  · rcases Nat.eq_zero_or_pos (len y) with h1 | h1
    · have hy0 : y = 0 := len_eq_zero.1 h1
      subst hy0
      have ht2 : ((len x : Int) == 0) = false := by simp; omega
      rw [Nat.mul_zero]
      rw [len_zero] at *
      go_enter Tryd.func49, Tryd.ntmps49
      go_wp2
      go_ret
      exact ⟨_, rfl, NatAt.zero _ _ _, Below.refl _ _⟩
    · rcases Nat.lt_or_ge (len y) (len x) with hlt | hge
      · exact product_gt A B c d x y w hma hmb hx hy hlt h0 h1
      · exact product_le A B c d x y w hma hmb hx hy hge h0 h1

end Go.Proofs.YtjajmonhcnmidaaDoor
namespace Go.Proofs.YtjajmonhcnmidaaDoor
open Go.RowKit

theorem wrap_neg (n : Nat) (hn : n ≤ 9223372036854775808) (h1 : 0 < n) : IntKind.u64.wrap (-IntKind.u64.wrap (-(n : Int))) = (n : Int) := by
  rw [IntKind.wrap_u64, IntKind.wrap_u64]; omega

set_option maxHeartbeats 400000 in
theorem Of_neg (n : Nat) (w : World) (hn : n ≤ 9223372036854775808) (h1 : 0 < n) :
    Calls Tryd.prog 30 #[.int .i64 (-(n : Int))] w (GivesInt (sgn true n) w) := by
  have h0 : decide (-(n : Int) < 0) = true := by simp; omega
  have hl : len n ≤ 2 := len_le_two (by omega)
  go_enter Tryd.func30, Tryd.ntmps30
  go_wp2_with fail
  rw [wrap_neg n hn h1]
  refine (fromWord_any n _ (by omega)).mono ?_
  rintro e w1 ⟨v, rfl, hv, hb⟩
  go_wp2_with fail
  refine (build_any true v n _ hv (by omega)).mono ?_
  rintro e w2 ⟨v2, rfl, hv2, hb2⟩
  obtain ⟨b, A, k, c, rfl, H⟩ := hv2.open_
  have hB := step_below hb hb2
  obtain ⟨hc0, hc1, hf0, hf1, hs⟩ := box2 hB
  have HE := Lib.hid (box2_end (x' := .bool b) (y' := .slice A k c) hB H.out)
  clear hB
  go_wp2
  refine bodyPost_ret (v := .agg #[.bool b, .slice A k c]) (by simp [results, Tryd.results30, go_sem, hc0, hc1]) rfl ⟨_, rfl, HE.out.1, HE.out.2⟩

theorem Of_any (z : Int) (w : World) (h0 : -9223372036854775808 ≤ z) (h1 : z ≤ 9223372036854775807) : Calls Tryd.prog 30 #[.int .i64 z] w (GivesInt z w) := by
  rcases Int.lt_or_le z 0 with h | h
  · obtain ⟨n, rfl⟩ : ∃ n : Nat, z = -(n : Int) := ⟨z.natAbs, by omega⟩
    exact Of_neg n w (by omega) (by omega)
  · obtain ⟨n, rfl⟩ := Int.eq_ofNat_of_zero_le h
    exact Of_nonneg n w (by omega)

set_option maxHeartbeats 400000 in
theorem Sign_any (v : Value) (z : Int) (w : World) (h : IntAt w v z) (hl : len z.natAbs ≤ 1099511627776) :
    Calls Tryd.prog 28 #[v] w fun e w' => e = .returned (.int .i64 z.sign) ∧ Below w.heap.size w w' := by
  obtain ⟨n, hn⟩ : ∃ n, z.natAbs = n := ⟨_, rfl⟩
  obtain ⟨b, hb⟩ : ∃ b, decide (z < 0) = b := ⟨_, rfl⟩
  obtain ⟨A, c, rfl, H⟩ := h.parts_ hn hb
  have HI := Lib.hid (IntAt.back H.out hn hb)
  rw [hn] at hl
  have HN := Lib.hid hn
  have HB := Lib.hid hb
  clear hn hb h
  cases b
  all_goals
    go_enter Tryd.func28, Tryd.ntmps28
    go_wp2_with fail
    refine (parts_is _ z n _ _ (HI.out.into (below_alloc _ _)) HN.out HB.out (by omega)).mono ?_
    rintro e w1 ⟨A1, c1, rfl, H1, hb1⟩
    have HD := Lib.hid (step_below (below_alloc _ _) hb1)
    clear hb1
  · rcases Nat.eq_zero_or_pos n with h0 | h0
    · have hz : z.sign = 0 := by have := HN.out; have : z = 0 := by omega
                                 rw [this]; rfl
      have HZ := Lib.hid hz
      clear hz
      subst h0
      rw [len_zero] at *
      go_wp2
      go_ret
      rw [HZ.out]
      exact ⟨rfl, HD.out⟩
    · have hz : z.sign = 1 := Int.sign_eq_one_of_pos (by have := HN.out; have := of_decide_eq_false HB.out; omega)
      have HZ := Lib.hid hz
      clear hz
      have hne : ((len n : Int) == 0) = false := by
        have : len n ≠ 0 := fun h => by have := len_eq_zero.1 h; omega
        simp; omega
      go_wp2
      go_ret
      rw [HZ.out]
      exact ⟨rfl, HD.out⟩
  · have hz : z.sign = -1 := Int.sign_eq_neg_one_of_neg (of_decide_eq_true HB.out)
    have HZ := Lib.hid hz
    clear hz
    go_wp2
    go_ret
    rw [HZ.out]
    exact ⟨rfl, HD.out⟩

set_option maxHeartbeats 400000 in
theorem Neg_any (v : Value) (z : Int) (w : World) (h : IntAt w v z) (hl : len z.natAbs ≤ 1099511627776) :
    Calls Tryd.prog 18 #[v] w (GivesInt (-z) w) := by
  obtain ⟨n, hn⟩ : ∃ n, z.natAbs = n := ⟨_, rfl⟩
  obtain ⟨b, hb⟩ : ∃ b, decide (z < 0) = b := ⟨_, rfl⟩
  obtain ⟨A, c, rfl, H⟩ := h.parts_ hn hb
  have hz : sgn (!b) n = -z := by
    subst hn hb
    by_cases h : z < 0
    · simp [sgn, h]; omega
    · simp [sgn, h]; omega
  have HZ := Lib.hid hz
  rw [hn] at hl
  clear hn hb h hz
  go_enter Tryd.func18, Tryd.ntmps18
  go_wp2_with fail
  refine (build_any (!b) _ n _ (H.out.into (below2 _ _ _)) (by omega)).mono ?_
  rintro e w2 ⟨v2, rfl, hv2, hb2⟩
  rw [HZ.out] at hv2
  obtain ⟨b', A', k', c', rfl, H'⟩ := hv2.open_
  have hg := (heap2 w (.cells #[.bool b, .slice A (len n) c] 27) (.cells #[.bool false, .slice none 0 0] 27)).2
  obtain ⟨hc0, hc1, hf0, hf1, hs⟩ := box_in hg hb2
  have HE := Lib.hid (box_end (x' := .bool b') (y' := .slice A' k' c') hg hb2 H'.out (below2 _ _ _) (by omega))
  clear hg hb2
  go_wp2
  refine bodyPost_ret (v := .agg #[.bool b', .slice A' k' c']) (by simp [results, Tryd.results18, go_sem, hc0, hc1]) rfl ⟨_, rfl, HE.out.1, HE.out.2⟩

theorem sgn_mul (a b : Int) : sgn (decide (a < 0) != decide (b < 0)) (a.natAbs * b.natAbs) = a * b := by
  have h : ∀ (p q : Bool) (x y : Nat), sgn (p != q) (x * y) = sgn p x * sgn q y := by
    intro p q x y
    cases p <;> cases q <;> simp [sgn, Int.neg_mul, Int.mul_neg]
  rw [h, sgn_of, sgn_of]

set_option maxHeartbeats 800000 in
theorem Mul_any (va vb : Value) (a b : Int) (w : World) (ha : IntAt w va a) (hb : IntAt w vb b) (hla : len a.natAbs ≤ 1099511627776) (hlb : len b.natAbs ≤ 1099511627776) :
    Calls Tryd.prog 17 #[va, vb] w (GivesInt (a * b) w) := by
  obtain ⟨x, hx⟩ : ∃ n, a.natAbs = n := ⟨_, rfl⟩
  obtain ⟨y, hy⟩ : ∃ n, b.natAbs = n := ⟨_, rfl⟩
  obtain ⟨p, hp⟩ : ∃ s, decide (a < 0) = s := ⟨_, rfl⟩
  obtain ⟨q, hq⟩ : ∃ s, decide (b < 0) = s := ⟨_, rfl⟩
  have hz := sgn_mul a b
  rw [hx, hy, hp, hq] at hz
  rw [hx] at hla
  rw [hy] at hlb
  obtain ⟨A, c, rfl, HA⟩ := ha.parts_ hx hp
  obtain ⟨B, d, rfl, HB⟩ := hb.parts_ hy hq
  have HIA := Lib.hid (IntAt.back HA.out hx hp)
  have HIB := Lib.hid (IntAt.back HB.out hy hq)
  have HX := Lib.hid hx
  have HY := Lib.hid hy
  have HP := Lib.hid hp
  have HQ := Lib.hid hq
  have HZ := Lib.hid hz
  clear hx hy hp hq hz ha hb HA HB
  have HH := Lib.hid (heap3 w (.cells #[.bool p, .slice A (len x) c] 27) (.cells #[.bool q, .slice B (len y) d] 27) (.cells #[.bool false, .slice none 0 0] 27))
  have HW := Lib.hid (below3 w (.cells #[.bool p, .slice A (len x) c] 27) (.cells #[.bool q, .slice B (len y) d] 27) (.cells #[.bool false, .slice none 0 0] 27))
  go_enter Tryd.func17, Tryd.ntmps17
  go_wp2_with fail
  generalize ((w.alloc (.cells #[.bool p, .slice A (len x) c] 27)).alloc (.cells #[.bool q, .slice B (len y) d] 27)).alloc (.cells #[.bool false, .slice none 0 0] 27) = W at *
  refine (parts_is _ a x p _ (HIA.out.into HW.out) HX.out HP.out (by omega)).mono ?_
  rintro e w1 ⟨A1, c1, rfl, H1, hb1⟩
  have hB1 := Lib.hid hb1
  obtain ⟨hc0, hc1, hf0, hf1, hs⟩ := box_in HH.out.2.1 hb1
  clear hb1
  go_wp2_with fail
  refine (parts_is _ b y q _ (HIB.out.into (step_below HW.out hB1.out)) HY.out HQ.out (by omega)).mono ?_
  rintro e w2 ⟨B1, d1, rfl, H2, hb2⟩
  have hB2 := Lib.hid hb2
  clear hb2 hc0 hc1 hf0 hf1 hs
  go_wp2_with fail
  refine (product_any _ _ x y _ (H1.out.into hB2.out) H2.out hla hlb).mono ?_
  rintro e w3 ⟨v3, rfl, hv3, hb3⟩
  have hB3 := Lib.hid (step_below (step_below hB1.out hB2.out) hb3)
  clear hb3 hB1 hB2
  go_wp2_with fail
  refine (build_any (p != q) v3 (x * y) _ hv3 (by have := len_mul x y; omega)).mono ?_
  rintro e w4 ⟨v4, rfl, hv4, hb4⟩
  rw [HZ.out] at hv4
  obtain ⟨b', A', k', c', rfl, H'⟩ := hv4.open_
  have hb := step_below hB3.out hb4
  obtain ⟨hc0, hc1, hf0, hf1, hs⟩ := box_in HH.out.2.2 hb
  have HE := Lib.hid (box_end (x' := .bool b') (y' := .slice A' k' c') HH.out.2.2 hb H'.out HW.out (by omega))
  clear hb hb4
  go_wp2
  refine bodyPost_ret (v := .agg #[.bool b', .slice A' k' c']) (by simp [results, Tryd.results17, go_sem, hc0, hc1]) rfl ⟨_, rfl, HE.out.1, HE.out.2⟩
end Go.Proofs.YtjajmonhcnmidaaDoor
namespace Go.Proofs.YtjajmonhcnmidaaDoor
open Go.RowKit

set_option maxHeartbeats 1600000 in
theorem Add_any (va vb : Value) (a b : Int) (w : World) (ha : IntAt w va a) (hb : IntAt w vb b) (hla : len a.natAbs ≤ 1099511627776) (hlb : len b.natAbs ≤ 1099511627776) :
    Calls Tryd.prog 15 #[va, vb] w (GivesInt (a + b) w) := by
  obtain ⟨x, hx⟩ : ∃ n, a.natAbs = n := ⟨_, rfl⟩
  obtain ⟨y, hy⟩ : ∃ n, b.natAbs = n := ⟨_, rfl⟩
  obtain ⟨p, hp⟩ : ∃ s, decide (a < 0) = s := ⟨_, rfl⟩
  obtain ⟨q, hq⟩ : ∃ s, decide (b < 0) = s := ⟨_, rfl⟩
  have sa := sgn_of a
  have sb := sgn_of b
  rw [hx, hp] at sa
  rw [hy, hq] at sb
  rw [hx] at hla
  rw [hy] at hlb
  obtain ⟨A, c, rfl, HA⟩ := ha.parts_ hx hp
  obtain ⟨B, d, rfl, HB⟩ := hb.parts_ hy hq
  have HIA := Lib.hid (IntAt.back HA.out hx hp)
  have HIB := Lib.hid (IntAt.back HB.out hy hq)
  have HX := Lib.hid hx
  have HY := Lib.hid hy
  have HP := Lib.hid hp
  have HQ := Lib.hid hq
  have SA := Lib.hid sa
  have SB := Lib.hid sb
  clear hx hy hp hq ha hb HA HB sa sb
  cases p <;> cases q
  · have HH := Lib.hid (heap3 w (.cells #[.bool false, .slice A (len x) c] 27) (.cells #[.bool false, .slice B (len y) d] 27) (.cells #[.bool false, .slice none 0 0] 27))
    have HW := Lib.hid (below3 w (.cells #[.bool false, .slice A (len x) c] 27) (.cells #[.bool false, .slice B (len y) d] 27) (.cells #[.bool false, .slice none 0 0] 27))
    go_enter Tryd.func15, Tryd.ntmps15
    go_wp2_with fail
    generalize ((w.alloc (.cells #[.bool false, .slice A (len x) c] 27)).alloc (.cells #[.bool false, .slice B (len y) d] 27)).alloc (.cells #[.bool false, .slice none 0 0] 27) = W at *
    refine (parts_is _ a x false _ (HIA.out.into HW.out) HX.out HP.out (by omega)).mono ?_
    rintro e w1 ⟨A1, c1, rfl, H1, hb1⟩
    have hB1 := Lib.hid hb1
    obtain ⟨hc0, hc1, hf0, hf1, hs⟩ := box_in HH.out.2.1 hb1
    clear hb1
    go_wp2_with fail
    refine (parts_is _ b y false _ (HIB.out.into (step_below HW.out hB1.out)) HY.out HQ.out (by omega)).mono ?_
    rintro e w2 ⟨B1, d1, rfl, H2, hb2⟩
    have hB2 := Lib.hid (step_below hB1.out hb2)
    have H1' := Lib.hid (H1.out.into hb2)
    clear hb2 hc0 hc1 hf0 hf1 hs hB1 H1
    go_wp2_with fail
    refine (sum_any _ _ x y _ H1'.out H2.out hla hlb).mono ?_
    rintro e w3 ⟨v3, rfl, hv3, hb3⟩
    have hB3 := Lib.hid (step_below hB2.out hb3)
    clear hb3 hB2
    go_wp2_with fail
    refine (build_any false v3 (x + y) _ hv3 (by have := len_add x y; omega)).mono ?_
    rintro e w4 ⟨v4, rfl, hv4, hb4⟩
    rw [show sgn false (x + y) = a + b from by have h1 := SA.out; have h2 := SB.out; simp only [sgn] at h1 h2 ⊢; simp at h1 h2 ⊢; omega] at hv4
    obtain ⟨b', A', k', c', rfl, H'⟩ := hv4.open_
    have hb := step_below hB3.out hb4
    obtain ⟨hc0, hc1, hf0, hf1, hs⟩ := box_in HH.out.2.2 hb
    have HE := Lib.hid (box_end (x' := .bool b') (y' := .slice A' k' c') HH.out.2.2 hb H'.out HW.out (by omega))
    clear hb hb4
    go_wp2
    refine bodyPost_ret (v := .agg #[.bool b', .slice A' k' c']) (by simp [results, Tryd.results15, go_sem, hc0, hc1]) rfl ⟨_, rfl, HE.out.1, HE.out.2⟩
  · have HH := Lib.hid (heap3 w (.cells #[.bool false, .slice A (len x) c] 27) (.cells #[.bool true, .slice B (len y) d] 27) (.cells #[.bool false, .slice none 0 0] 27))
    have HW := Lib.hid (below3 w (.cells #[.bool false, .slice A (len x) c] 27) (.cells #[.bool true, .slice B (len y) d] 27) (.cells #[.bool false, .slice none 0 0] 27))
    go_enter Tryd.func15, Tryd.ntmps15
    go_wp2_with fail
    generalize ((w.alloc (.cells #[.bool false, .slice A (len x) c] 27)).alloc (.cells #[.bool true, .slice B (len y) d] 27)).alloc (.cells #[.bool false, .slice none 0 0] 27) = W at *
    refine (parts_is _ a x false _ (HIA.out.into HW.out) HX.out HP.out (by omega)).mono ?_
    rintro e w1 ⟨A1, c1, rfl, H1, hb1⟩
    have hB1 := Lib.hid hb1
    obtain ⟨hc0, hc1, hf0, hf1, hs⟩ := box_in HH.out.2.1 hb1
    clear hb1
    go_wp2_with fail
    refine (parts_is _ b y true _ (HIB.out.into (step_below HW.out hB1.out)) HY.out HQ.out (by omega)).mono ?_
    rintro e w2 ⟨B1, d1, rfl, H2, hb2⟩
    have hB2 := Lib.hid (step_below hB1.out hb2)
    have H1' := Lib.hid (H1.out.into hb2)
    clear hb2 hc0 hc1 hf0 hf1 hs hB1 H1
    go_wp2_with fail
    refine (compare_any _ _ _ _ x y _ H1'.out.mem.2.2 H2.out.mem.2.2 hla hlb).mono ?_
    rintro e w2' ⟨rfl, nd, rfl⟩
    have hbd := below_drewN w2 nd
    have hB2' := Lib.hid (step_below hB2.out hbd)
    have H1 := Lib.hid (H1'.out.into hbd)
    have H2' := Lib.hid (H2.out.into hbd)
    clear hbd hB2 H1' H2
    rcases Nat.lt_or_ge x y with hlt | hge
    · rw [cmpN_lt hlt]
      go_wp2_with fail
      refine (difference_any _ _ y x _ H2'.out H1.out hlb (by omega)).mono ?_
      rintro e w3 ⟨v3, rfl, hv3, hb3⟩
      have hB3 := Lib.hid (step_below hB2'.out hb3)
      clear hb3 hB2'
      go_wp2_with fail
      refine (build_any true v3 (y - x) _ hv3 (by have := len_mono (Nat.sub_le y x); omega)).mono ?_
      rintro e w4 ⟨v4, rfl, hv4, hb4⟩
      rw [show sgn true (y - x) = a + b from by have h1 := SA.out; have h2 := SB.out; simp only [sgn] at h1 h2 ⊢; simp at h1 h2 ⊢; omega] at hv4
      obtain ⟨b', A', k', c', rfl, H'⟩ := hv4.open_
      have hb := step_below hB3.out hb4
      obtain ⟨hc0, hc1, hf0, hf1, hs⟩ := box_in HH.out.2.2 hb
      have HE := Lib.hid (box_end (x' := .bool b') (y' := .slice A' k' c') HH.out.2.2 hb H'.out HW.out (by omega))
      clear hb hb4
      go_wp2
      refine bodyPost_ret (v := .agg #[.bool b', .slice A' k' c']) (by simp [results, Tryd.results15, go_sem, hc0, hc1]) rfl ⟨_, rfl, HE.out.1, HE.out.2⟩
    · obtain ⟨v, hv, hv0⟩ : ∃ v : Int, cmpN x y = v ∧ 0 ≤ v := ⟨_, rfl, by rcases Nat.lt_or_ge y x with h | h; rw [cmpN_gt h]; omega; rw [cmpN_eq (by omega)]; omega⟩
      rw [hv]
      clear hv
      go_wp2_with fail
      refine (difference_any _ _ x y _ H1.out H2'.out hla hge).mono ?_
      rintro e w3 ⟨v3, rfl, hv3, hb3⟩
      have hB3 := Lib.hid (step_below hB2'.out hb3)
      clear hb3 hB2'
      go_wp2_with fail
      refine (build_any false v3 (x - y) _ hv3 (by have := len_mono (Nat.sub_le x y); omega)).mono ?_
      rintro e w4 ⟨v4, rfl, hv4, hb4⟩
      rw [show sgn false (x - y) = a + b from by have h1 := SA.out; have h2 := SB.out; simp only [sgn] at h1 h2 ⊢; simp at h1 h2 ⊢; omega] at hv4
      obtain ⟨b', A', k', c', rfl, H'⟩ := hv4.open_
      have hb := step_below hB3.out hb4
      obtain ⟨hc0, hc1, hf0, hf1, hs⟩ := box_in HH.out.2.2 hb
      have HE := Lib.hid (box_end (x' := .bool b') (y' := .slice A' k' c') HH.out.2.2 hb H'.out HW.out (by omega))
      clear hb hb4
      go_wp2
      refine bodyPost_ret (v := .agg #[.bool b', .slice A' k' c']) (by simp [results, Tryd.results15, go_sem, hc0, hc1]) rfl ⟨_, rfl, HE.out.1, HE.out.2⟩
  · have HH := Lib.hid (heap3 w (.cells #[.bool true, .slice A (len x) c] 27) (.cells #[.bool false, .slice B (len y) d] 27) (.cells #[.bool false, .slice none 0 0] 27))
    have HW := Lib.hid (below3 w (.cells #[.bool true, .slice A (len x) c] 27) (.cells #[.bool false, .slice B (len y) d] 27) (.cells #[.bool false, .slice none 0 0] 27))
    go_enter Tryd.func15, Tryd.ntmps15
    go_wp2_with fail
    generalize ((w.alloc (.cells #[.bool true, .slice A (len x) c] 27)).alloc (.cells #[.bool false, .slice B (len y) d] 27)).alloc (.cells #[.bool false, .slice none 0 0] 27) = W at *
    refine (parts_is _ a x true _ (HIA.out.into HW.out) HX.out HP.out (by omega)).mono ?_
    rintro e w1 ⟨A1, c1, rfl, H1, hb1⟩
    have hB1 := Lib.hid hb1
    obtain ⟨hc0, hc1, hf0, hf1, hs⟩ := box_in HH.out.2.1 hb1
    clear hb1
    go_wp2_with fail
    refine (parts_is _ b y false _ (HIB.out.into (step_below HW.out hB1.out)) HY.out HQ.out (by omega)).mono ?_
    rintro e w2 ⟨B1, d1, rfl, H2, hb2⟩
    have hB2 := Lib.hid (step_below hB1.out hb2)
    have H1' := Lib.hid (H1.out.into hb2)
    clear hb2 hc0 hc1 hf0 hf1 hs hB1 H1
    go_wp2_with fail
    refine (compare_any _ _ _ _ x y _ H1'.out.mem.2.2 H2.out.mem.2.2 hla hlb).mono ?_
    rintro e w2' ⟨rfl, nd, rfl⟩
    have hbd := below_drewN w2 nd
    have hB2' := Lib.hid (step_below hB2.out hbd)
    have H1 := Lib.hid (H1'.out.into hbd)
    have H2' := Lib.hid (H2.out.into hbd)
    clear hbd hB2 H1' H2
    rcases Nat.lt_or_ge x y with hlt | hge
    · rw [cmpN_lt hlt]
      go_wp2_with fail
      refine (difference_any _ _ y x _ H2'.out H1.out hlb (by omega)).mono ?_
      rintro e w3 ⟨v3, rfl, hv3, hb3⟩
      have hB3 := Lib.hid (step_below hB2'.out hb3)
      clear hb3 hB2'
      go_wp2_with fail
      refine (build_any false v3 (y - x) _ hv3 (by have := len_mono (Nat.sub_le y x); omega)).mono ?_
      rintro e w4 ⟨v4, rfl, hv4, hb4⟩
      rw [show sgn false (y - x) = a + b from by have h1 := SA.out; have h2 := SB.out; simp only [sgn] at h1 h2 ⊢; simp at h1 h2 ⊢; omega] at hv4
      obtain ⟨b', A', k', c', rfl, H'⟩ := hv4.open_
      have hb := step_below hB3.out hb4
      obtain ⟨hc0, hc1, hf0, hf1, hs⟩ := box_in HH.out.2.2 hb
      have HE := Lib.hid (box_end (x' := .bool b') (y' := .slice A' k' c') HH.out.2.2 hb H'.out HW.out (by omega))
      clear hb hb4
      go_wp2
      refine bodyPost_ret (v := .agg #[.bool b', .slice A' k' c']) (by simp [results, Tryd.results15, go_sem, hc0, hc1]) rfl ⟨_, rfl, HE.out.1, HE.out.2⟩
    · obtain ⟨v, hv, hv0⟩ : ∃ v : Int, cmpN x y = v ∧ 0 ≤ v := ⟨_, rfl, by rcases Nat.lt_or_ge y x with h | h; rw [cmpN_gt h]; omega; rw [cmpN_eq (by omega)]; omega⟩
      rw [hv]
      clear hv
      go_wp2_with fail
      refine (difference_any _ _ x y _ H1.out H2'.out hla hge).mono ?_
      rintro e w3 ⟨v3, rfl, hv3, hb3⟩
      have hB3 := Lib.hid (step_below hB2'.out hb3)
      clear hb3 hB2'
      go_wp2_with fail
      refine (build_any true v3 (x - y) _ hv3 (by have := len_mono (Nat.sub_le x y); omega)).mono ?_
      rintro e w4 ⟨v4, rfl, hv4, hb4⟩
      rw [show sgn true (x - y) = a + b from by have h1 := SA.out; have h2 := SB.out; simp only [sgn] at h1 h2 ⊢; simp at h1 h2 ⊢; omega] at hv4
      obtain ⟨b', A', k', c', rfl, H'⟩ := hv4.open_
      have hb := step_below hB3.out hb4
      obtain ⟨hc0, hc1, hf0, hf1, hs⟩ := box_in HH.out.2.2 hb
      have HE := Lib.hid (box_end (x' := .bool b') (y' := .slice A' k' c') HH.out.2.2 hb H'.out HW.out (by omega))
      clear hb hb4
      go_wp2
      refine bodyPost_ret (v := .agg #[.bool b', .slice A' k' c']) (by simp [results, Tryd.results15, go_sem, hc0, hc1]) rfl ⟨_, rfl, HE.out.1, HE.out.2⟩
  · have HH := Lib.hid (heap3 w (.cells #[.bool true, .slice A (len x) c] 27) (.cells #[.bool true, .slice B (len y) d] 27) (.cells #[.bool false, .slice none 0 0] 27))
    have HW := Lib.hid (below3 w (.cells #[.bool true, .slice A (len x) c] 27) (.cells #[.bool true, .slice B (len y) d] 27) (.cells #[.bool false, .slice none 0 0] 27))
    go_enter Tryd.func15, Tryd.ntmps15
    go_wp2_with fail
    generalize ((w.alloc (.cells #[.bool true, .slice A (len x) c] 27)).alloc (.cells #[.bool true, .slice B (len y) d] 27)).alloc (.cells #[.bool false, .slice none 0 0] 27) = W at *
    refine (parts_is _ a x true _ (HIA.out.into HW.out) HX.out HP.out (by omega)).mono ?_
    rintro e w1 ⟨A1, c1, rfl, H1, hb1⟩
    have hB1 := Lib.hid hb1
    obtain ⟨hc0, hc1, hf0, hf1, hs⟩ := box_in HH.out.2.1 hb1
    clear hb1
    go_wp2_with fail
    refine (parts_is _ b y true _ (HIB.out.into (step_below HW.out hB1.out)) HY.out HQ.out (by omega)).mono ?_
    rintro e w2 ⟨B1, d1, rfl, H2, hb2⟩
    have hB2 := Lib.hid (step_below hB1.out hb2)
    have H1' := Lib.hid (H1.out.into hb2)
    clear hb2 hc0 hc1 hf0 hf1 hs hB1 H1
    go_wp2_with fail
    refine (sum_any _ _ x y _ H1'.out H2.out hla hlb).mono ?_
    rintro e w3 ⟨v3, rfl, hv3, hb3⟩
    have hB3 := Lib.hid (step_below hB2.out hb3)
    clear hb3 hB2
    go_wp2_with fail
    refine (build_any true v3 (x + y) _ hv3 (by have := len_add x y; omega)).mono ?_
    rintro e w4 ⟨v4, rfl, hv4, hb4⟩
    rw [show sgn true (x + y) = a + b from by have h1 := SA.out; have h2 := SB.out; simp only [sgn] at h1 h2 ⊢; simp at h1 h2 ⊢; omega] at hv4
    obtain ⟨b', A', k', c', rfl, H'⟩ := hv4.open_
    have hb := step_below hB3.out hb4
    obtain ⟨hc0, hc1, hf0, hf1, hs⟩ := box_in HH.out.2.2 hb
    have HE := Lib.hid (box_end (x' := .bool b') (y' := .slice A' k' c') HH.out.2.2 hb H'.out HW.out (by omega))
    clear hb hb4
    go_wp2
    refine bodyPost_ret (v := .agg #[.bool b', .slice A' k' c']) (by simp [results, Tryd.results15, go_sem, hc0, hc1]) rfl ⟨_, rfl, HE.out.1, HE.out.2⟩

def cmpI (a b : Int) : Int := if a < b then -1 else if a = b then 0 else 1
theorem cmpI_lt {a b : Int} (h : a < b) : cmpI a b = -1 := by simp [cmpI, h]
theorem cmpI_eq {a b : Int} (h : a = b) : cmpI a b = 0 := by simp [cmpI, h]
theorem cmpI_gt {a b : Int} (h : b < a) : cmpI a b = 1 := by unfold cmpI; rw [if_neg (by omega), if_neg (by omega)]
theorem cmpI_nat (x y : Nat) : cmpI (x : Int) (y : Int) = cmpN x y := by
  rcases Nat.lt_trichotomy x y with h | h | h
  · rw [cmpN_lt h, cmpI_lt (by omega)]
  · rw [cmpN_eq h, cmpI_eq (by omega)]
  · rw [cmpN_gt h, cmpI_gt (by omega)]
theorem cmpI_neg (x y : Nat) : cmpI (-(x : Int)) (-(y : Int)) = cmpN y x := by
  rcases Nat.lt_trichotomy x y with h | h | h
  · rw [cmpN_gt h, cmpI_gt (by omega)]
  · rw [cmpN_eq h.symm, cmpI_eq (by omega)]
  · rw [cmpN_lt h, cmpI_lt (by omega)]

set_option maxHeartbeats 1600000 in
theorem Cmp_any (va vb : Value) (a b : Int) (w : World) (ha : IntAt w va a) (hb : IntAt w vb b) (hla : len a.natAbs ≤ 1099511627776) (hlb : len b.natAbs ≤ 1099511627776) :
    Calls Tryd.prog 26 #[va, vb] w fun e w' => e = .returned (.int .i64 (cmpI a b)) ∧ Below w.heap.size w w' := by
  obtain ⟨x, hx⟩ : ∃ n, a.natAbs = n := ⟨_, rfl⟩
  obtain ⟨y, hy⟩ : ∃ n, b.natAbs = n := ⟨_, rfl⟩
  obtain ⟨p, hp⟩ : ∃ s, decide (a < 0) = s := ⟨_, rfl⟩
  obtain ⟨q, hq⟩ : ∃ s, decide (b < 0) = s := ⟨_, rfl⟩
  have sa := sgn_of a
  have sb := sgn_of b
  rw [hx, hp] at sa
  rw [hy, hq] at sb
  rw [hx] at hla
  rw [hy] at hlb
  obtain ⟨A, c, rfl, HA⟩ := ha.parts_ hx hp
  obtain ⟨B, d, rfl, HB⟩ := hb.parts_ hy hq
  have HIA := Lib.hid (IntAt.back HA.out hx hp)
  have HIB := Lib.hid (IntAt.back HB.out hy hq)
  have HX := Lib.hid hx
  have HY := Lib.hid hy
  have HP := Lib.hid hp
  have HQ := Lib.hid hq
  have SA := Lib.hid sa
  have SB := Lib.hid sb
  clear hx hy hp hq ha hb HA HB sa sb
  cases p <;> cases q
  · have HH := Lib.hid (heap2 w (.cells #[.bool false, .slice A (len x) c] 27) (.cells #[.bool false, .slice B (len y) d] 27))
    have HW := Lib.hid (below2 w (.cells #[.bool false, .slice A (len x) c] 27) (.cells #[.bool false, .slice B (len y) d] 27))
    go_enter Tryd.func26, Tryd.ntmps26
    go_wp2_with fail
    generalize (w.alloc (.cells #[.bool false, .slice A (len x) c] 27)).alloc (.cells #[.bool false, .slice B (len y) d] 27) = W at *
    refine (parts_is _ a x false _ (HIA.out.into HW.out) HX.out HP.out (by omega)).mono ?_
    rintro e w1 ⟨A1, c1, rfl, H1, hb1⟩
    have hB1 := Lib.hid hb1
    obtain ⟨hc0, hc1, hf0, hf1, hs⟩ := box_in HH.out.2 hb1
    clear hb1
    go_wp2_with fail
    refine (parts_is _ b y false _ (HIB.out.into (step_below HW.out hB1.out)) HY.out HQ.out (by omega)).mono ?_
    rintro e w2 ⟨B1, d1, rfl, H2, hb2⟩
    have hB2 := Lib.hid (step_below hB1.out hb2)
    have H1' := Lib.hid (H1.out.into hb2)
    clear hb2 hc0 hc1 hf0 hf1 hs hB1 H1
    have HC : Hid (cmpI a b = cmpN x y) := by
      have h1 := SA.out
      have h2 := SB.out
      rw [← h1, ← h2]
      exact cmpI_nat x y
    go_wp2_with fail
    refine (compare_any _ _ _ _ x y _ H1'.out.mem.2.2 H2.out.mem.2.2 hla hlb).mono ?_
    rintro e w2' ⟨rfl, nd, rfl⟩
    have HD := Lib.hid (step_below HW.out (step_below hB2.out (below_drewN w2 nd)))
    rw [← HC.out]
    go_wp2
    go_ret
    exact ⟨rfl, HD.out⟩
  · have HH := Lib.hid (heap2 w (.cells #[.bool false, .slice A (len x) c] 27) (.cells #[.bool true, .slice B (len y) d] 27))
    have HW := Lib.hid (below2 w (.cells #[.bool false, .slice A (len x) c] 27) (.cells #[.bool true, .slice B (len y) d] 27))
    go_enter Tryd.func26, Tryd.ntmps26
    go_wp2_with fail
    generalize (w.alloc (.cells #[.bool false, .slice A (len x) c] 27)).alloc (.cells #[.bool true, .slice B (len y) d] 27) = W at *
    refine (parts_is _ a x false _ (HIA.out.into HW.out) HX.out HP.out (by omega)).mono ?_
    rintro e w1 ⟨A1, c1, rfl, H1, hb1⟩
    have hB1 := Lib.hid hb1
    obtain ⟨hc0, hc1, hf0, hf1, hs⟩ := box_in HH.out.2 hb1
    clear hb1
    go_wp2_with fail
    refine (parts_is _ b y true _ (HIB.out.into (step_below HW.out hB1.out)) HY.out HQ.out (by omega)).mono ?_
    rintro e w2 ⟨B1, d1, rfl, H2, hb2⟩
    have hB2 := Lib.hid (step_below hB1.out hb2)
    have H1' := Lib.hid (H1.out.into hb2)
    clear hb2 hc0 hc1 hf0 hf1 hs hB1 H1
    have HC : Hid (cmpI a b = 1) := cmpI_gt (by have := of_decide_eq_false HP.out; have := of_decide_eq_true HQ.out; omega)
    have HD := Lib.hid (step_below HW.out hB2.out)
    go_wp2
    go_ret
    rw [HC.out]
    exact ⟨rfl, HD.out⟩
  · have HH := Lib.hid (heap2 w (.cells #[.bool true, .slice A (len x) c] 27) (.cells #[.bool false, .slice B (len y) d] 27))
    have HW := Lib.hid (below2 w (.cells #[.bool true, .slice A (len x) c] 27) (.cells #[.bool false, .slice B (len y) d] 27))
    go_enter Tryd.func26, Tryd.ntmps26
    go_wp2_with fail
    generalize (w.alloc (.cells #[.bool true, .slice A (len x) c] 27)).alloc (.cells #[.bool false, .slice B (len y) d] 27) = W at *
    refine (parts_is _ a x true _ (HIA.out.into HW.out) HX.out HP.out (by omega)).mono ?_
    rintro e w1 ⟨A1, c1, rfl, H1, hb1⟩
    have hB1 := Lib.hid hb1
    obtain ⟨hc0, hc1, hf0, hf1, hs⟩ := box_in HH.out.2 hb1
    clear hb1
    go_wp2_with fail
    refine (parts_is _ b y false _ (HIB.out.into (step_below HW.out hB1.out)) HY.out HQ.out (by omega)).mono ?_
    rintro e w2 ⟨B1, d1, rfl, H2, hb2⟩
    have hB2 := Lib.hid (step_below hB1.out hb2)
    have H1' := Lib.hid (H1.out.into hb2)
    clear hb2 hc0 hc1 hf0 hf1 hs hB1 H1
    have HC : Hid (cmpI a b = -1) := cmpI_lt (by have := of_decide_eq_true HP.out; have := of_decide_eq_false HQ.out; omega)
    have HD := Lib.hid (step_below HW.out hB2.out)
    go_wp2
    go_ret
    rw [HC.out]
    exact ⟨rfl, HD.out⟩
  · have HH := Lib.hid (heap2 w (.cells #[.bool true, .slice A (len x) c] 27) (.cells #[.bool true, .slice B (len y) d] 27))
    have HW := Lib.hid (below2 w (.cells #[.bool true, .slice A (len x) c] 27) (.cells #[.bool true, .slice B (len y) d] 27))
    go_enter Tryd.func26, Tryd.ntmps26
    go_wp2_with fail
    generalize (w.alloc (.cells #[.bool true, .slice A (len x) c] 27)).alloc (.cells #[.bool true, .slice B (len y) d] 27) = W at *
    refine (parts_is _ a x true _ (HIA.out.into HW.out) HX.out HP.out (by omega)).mono ?_
    rintro e w1 ⟨A1, c1, rfl, H1, hb1⟩
    have hB1 := Lib.hid hb1
    obtain ⟨hc0, hc1, hf0, hf1, hs⟩ := box_in HH.out.2 hb1
    clear hb1
    go_wp2_with fail
    refine (parts_is _ b y true _ (HIB.out.into (step_below HW.out hB1.out)) HY.out HQ.out (by omega)).mono ?_
    rintro e w2 ⟨B1, d1, rfl, H2, hb2⟩
    have hB2 := Lib.hid (step_below hB1.out hb2)
    have H1' := Lib.hid (H1.out.into hb2)
    clear hb2 hc0 hc1 hf0 hf1 hs hB1 H1
    have HC : Hid (cmpI a b = cmpN y x) := by
      have h1 := SA.out
      have h2 := SB.out
      rw [← h1, ← h2]
      exact cmpI_neg x y
    go_wp2_with fail
    refine (compare_any _ _ _ _ y x _ H2.out.mem.2.2 H1'.out.mem.2.2 hlb hla).mono ?_
    rintro e w2' ⟨rfl, nd, rfl⟩
    have HD := Lib.hid (step_below HW.out (step_below hB2.out (below_drewN w2 nd)))
    rw [← HC.out]
    go_wp2
    go_ret
    exact ⟨rfl, HD.out⟩
end Go.Proofs.YtjajmonhcnmidaaDoor
