/- Walks: fromDigits at any digits. -/
import Derived.Test.YtdofolejfdfocaaGreatDoorqR3
import Derived.Test.YtdofolejfdfocaaGreatDoorqNot
namespace Go.Proofs.YtdofolejfdfocaaGreatDoor
open Go.RowKit Go.Lib

theorem mk0c (c : Int) (h0 : 0 ≤ c) (h : c ≤ 17592186044416) (w : World) : (Instr.makeSlice 22 (.int .i64 0) (.int .i64 c)).run Tryz.prog w = .ok (.slice (some ⟨w.heap.size, 0, none⟩) 0 c.toNat) (w.alloc (rowObj (List.replicate c.toNat 0))) := by
  obtain ⟨i, hi, hz, hs, hb⟩ := info_parts info32
  have hr := run_make (P := Tryz.prog) w 22 76 i (.int .u32 0) Tryz.underlying22 hi hz .i64 .i64 0 c (by omega) h0 (by rw [hb]; omega) (by omega)
  have e : madeCells (Value.int .u32 0).cells (c.toNat * i.size) = ((List.replicate c.toNat 0).map (fun (x : Nat) => Value.int .u32 (x : Int))).toArray := by
    rw [hs, Nat.mul_one]
    apply Array.ext_getElem?
    intro j
    by_cases hj : j < c.toNat
    · simp [madeCells, Value.cells, hj, Nat.mod_one]
    · simp [madeCells, Value.cells, hj]
  rw [hr, e]
  rfl
theorem owns_mk0 (w : World) (c : Nat) (hc : c ≤ 17592186044416) : Owns (w.alloc (rowObj (List.replicate c 0))) w.heap.size (.slice (some ⟨w.heap.size, 0, none⟩) 0 c) [] :=
  ⟨by simp, .inr ⟨w.heap.size, c, _, rfl, Nat.le_refl _, heap_alloc_new w _, by simp, by unfold maxLen; omega, by simp, by simp⟩⟩
theorem dv_take_succ {l : List UInt8} {k : Nat} {c : UInt8} (h : l[k]? = some c) : dv (l.take (k + 1)) = 10 * dv (l.take k) + dgt c := by
  obtain ⟨hk, e⟩ := List.getElem?_eq_some_iff.1 h
  rw [List.take_succ_eq_append_getElem hk, e, dv_append, dv_single]
  simp; omega
theorem all_take {l : List UInt8} (h : l.all isD = true) (k : Nat) : (l.take k).all isD = true := by
  rw [List.all_eq_true] at h ⊢
  exact fun x hx => h x (List.mem_of_mem_take hx)
theorem all_drop {l : List UInt8} (h : l.all isD = true) (k : Nat) : (l.drop k).all isD = true := by
  rw [List.all_eq_true] at h ⊢
  exact fun x hx => h x (List.mem_of_mem_drop hx)
theorem extract_drop (l : List UInt8) (k e : Nat) (he : l.length ≤ e) : (ByteArray.mk l.toArray).extract k e = ⟨(l.drop k).toArray⟩ := by
  apply ByteArray.ext
  rw [ByteArray.data_extract]
  apply Array.ext'
  simp [List.take_of_length_le (show (l.drop k).length ≤ e - k by rw [List.length_drop]; omega)]
def slen' : Value → Nat
  | .string s => s.size
  | _ => 0
/-- What is read of the digits, and what is left. -/
def FromRel (w : World) (bs rest : List UInt8) (g n c : Nat) (ms : List Nat) (wr : World) : Prop :=
  Owns wr w.heap.size (.slice (some ⟨g, 0, none⟩) n c) ms ∧ n = ms.length ∧ w.heap.size ≤ g ∧ L32 ms ∧ (ms = [] ∨ rest.length % 9 = 0) ∧ rest.all isD = true ∧ dv bs = val ms * 10 ^ rest.length + dv rest ∧ n + rest.length ≤ bs.length ∧ Below w.heap.size w wr
theorem FromRel.next {w wr w' : World} {bs rest : List UInt8} {g n c g' n' c' k : Nat} {ms ms' : List Nat} (h : FromRel w bs rest g n c ms wr) (hL : 0 < rest.length) (hk : k = (rest.length - 1) % 9 + 1)
    (ho : Owns w' w.heap.size (.slice (some ⟨g', 0, none⟩) n' c') ms') (hn : n' = ms'.length) (hn2 : n' ≤ n + 1) (hg : w.heap.size ≤ g') (h32 : L32 ms') (hv : val ms' = val ms * 1000000000 + dv (rest.take k)) (hb : Below w.heap.size wr w') : FromRel w bs (rest.drop k) g' n' c' ms' w' := by
  obtain ⟨h1, h2, h3, h4, h5, h6, h7, h8, h9⟩ := h
  have hkl : k ≤ rest.length := by omega
  refine ⟨ho, hn, hg, h32, .inr (by rw [List.length_drop]; omega), all_drop h6 k, ?_, by rw [List.length_drop]; omega, h9.trans hb⟩
  rw [h7, hv]
  have e := dv_append (rest.take k) (rest.drop k)
  rw [List.take_append_drop] at e
  rw [e, List.length_drop]
  rcases h5 with h5 | h5
  · subst h5
    simp [val]
  · have hk9 : k = 9 := by omega
    subst hk9
    have hp : 10 ^ rest.length = 1000000000 * 10 ^ (rest.length - 9) := by
      rw [show (1000000000 : Nat) = 10 ^ 9 from rfl, ← Nat.pow_add]; congr 1; omega
    rw [hp, Nat.add_mul, Nat.mul_assoc]
    omega

theorem from_end {bs : List UInt8} {ms : List Nat} (h : dv bs = val ms * 10 ^ ([] : List UInt8).length + dv []) : dv bs = val ms := by
  rw [h, List.length_nil, Nat.pow_zero, Nat.mul_one]; rfl

set_option maxRecDepth 100000 in
set_option maxHeartbeats 1600000 in
theorem fromDigits_any (bs : List UInt8) (hd : bs.all isD = true) (hl : bs.length ≤ 2000) (w : World) : Calls Tryz.prog 85 #[.string ⟨bs.toArray⟩] w (GivesNat (dv bs) w) := by
  obtain ⟨L0, hL0⟩ : ∃ L0, bs.length = L0 := ⟨_, rfl⟩
  have hs0 := bytes_size bs
  rw [hL0] at hs0
  have hq : (L0 : Int) / 9 = ((L0 / 9 : Nat) : Int) := by omega
  have hmk := fun W => mk0c (((L0 / 9 : Nat) : Int) + 1) (by omega) (by omega) W
  have et : (((L0 / 9 : Nat) : Int) + 1).toNat = L0 / 9 + 1 := by omega
  rw [et] at hmk
  have HR0 : Hid (FromRel w bs bs w.heap.size 0 (L0 / 9 + 1) [] (w.alloc (rowObj (List.replicate (L0 / 9 + 1) 0)))) := Lib.hid ⟨owns_mk0 w _ (by omega), rfl, Nat.le_refl _, L32.nil_, .inl rfl, hd, by simp [val], by omega, below_alloc w _⟩
  have HL0 := Lib.hid hL0
  generalize hQ : L0 / 9 = Q0 at *
  have HQ := Lib.hid hQ
  have hQ2 : Q0 ≤ 2000 := by omega
  have hw1 : wrap64 (Q0 : Int) = (Q0 : Int) := by simp only [wrap64]; omega
  have hw2 : wrap64 ((Q0 : Int) + 1) = (Q0 : Int) + 1 := by simp only [wrap64]; omega
  clear et hd hQ hL0
  go_enter Tryz.func85, Tryz.ntmps85
  go_wp2_with fail
  go_loopw [0, 3] (fun s v wr => ∃ rest g n c ms, s = .string ⟨List.toArray rest⟩ ∧ v = .slice (some ⟨g, 0, none⟩) n c ∧ FromRel w bs rest g n c ms wr) (fun s _ _ => slen' s)
  case atStart => exact ⟨bs, w.heap.size, 0, Q0 + 1, [], rfl, rfl, HR0.out⟩
  case round =>
    obtain ⟨rest, g, n, c, ms, rfl, rfl, hrel⟩ := hrel
    have HR := Lib.hid hrel
    obtain ⟨L, hL⟩ : ∃ L, rest.length = L := ⟨_, rfl⟩
    have hs := bytes_size rest
    rw [hL] at hs
    have hL2 : n + L ≤ 2000 := by have := hrel.2.2.2.2.2.2.2.1; omega
    have hall := hrel.2.2.2.2.2.1
    clear hrel
    rcases Nat.eq_zero_or_pos L with h0 | h0
    · subst h0
      have hnil : rest = [] := List.length_eq_zero_iff.1 hL
      subst hnil
      obtain ⟨h1, h2, h3, h4, h5, h6, h7, h8, h9⟩ := HR.out
      have HV : Hid (dv bs = val ms) := Lib.hid (from_end h7)
      have HO := Lib.hid h1
      have HB := Lib.hid h9
      have H2 := Lib.hid h2
      clear h1 h2 h5 h6 h7 h9 hall
      go_wp2_with fail
      have hp := HO.out.prow
      refine (trim_k _ n c ms _ H2.out.symm hp.1.mem (by omega) hp.2.2.1 h4).mono ?_
      rintro e w' ⟨rfl, rfl⟩
      go_wp2
      go_ret
      refine ⟨_, rfl, ?_, HB.out⟩
      have hlv := limbs_val h4
      rw [HV.out]
      exact ⟨_, _, rfl, by have := hlv.2.1; omega, by rw [hlv.1]; exact (hp.1.take _).mem⟩
    · obtain ⟨k, hk⟩ : ∃ k, k = (L - 1) % 9 + 1 := ⟨_, rfl⟩
      have hrm : ((L : Int) - 1) % 9 = (k : Int) - 1 := by omega
      have hk1 : 1 ≤ k := by omega
      have hk9 : k ≤ 9 := by omega
      have hkL : k ≤ L := by omega
      have HK := Lib.hid hk
      have HL := Lib.hid hL
      have hex := extract_drop rest k L (by omega)
      clear hk
      go_wp2_with fail
      go_loop [5, 21] (fun a i => ∃ j : Nat, j ≤ k ∧ i = .int .i64 j ∧ a = .int .u64 (dv (rest.take j))) (fun _ i => (k - intOf i).toNat)
      case atStart => exact ⟨0, by omega, rfl, by simp [dv, dvA]⟩
      case round =>
        obtain ⟨j, hj, rfl, rfl⟩ := hrel
        obtain ⟨D, hD⟩ : ∃ D, dv (rest.take j) = D := ⟨_, rfl⟩
        rw [hD]
        have hD9 : D < 1000000000 := by
          have h1 := dv_lt _ (all_take hall j)
          have h2 : 10 ^ (rest.take j).length ≤ 10 ^ 9 := Nat.pow_le_pow_right (by decide) (by rw [List.length_take]; omega)
          have h3 : (10 : Nat) ^ 9 = 1000000000 := by decide
          omega
        by_cases hjk : j < k
        · obtain ⟨b, hb⟩ : ∃ b, rest[j]? = some b := ⟨_, List.getElem?_eq_getElem (by omega)⟩
          have hbk := bytes_at hb (by omega)
          have hbd : isD b = true := by
            rw [List.all_eq_true] at hall
            exact hall b (List.mem_of_getElem? hb)
          have h1 : 48 ≤ b.toNat ∧ b.toNat ≤ 57 := by simpa [isD] using hbd
          have HD := Lib.hid (dv_take_succ hb)
          have hg : dgt b = b.toNat - 48 := rfl
          have HG := Lib.hid hg
          have HDD := Lib.hid hD
          clear hb hbd hg hD
          obtain ⟨h1, h2⟩ := h1
          go_wp2
          go_round
          case rel => exact ⟨j + 1, by omega, by go_num, by rw [HD.out, HDD.out, HG.out]; congr 1; omega⟩
          case measure => simp [intOf]; omega
        · have e : j = k := by omega
          subst e
          have HDD := Lib.hid hD
          clear hD
          go_wp2_with fail
          obtain ⟨h1, h2, h3, h4, h5, h6, h7, h8, h9⟩ := HR.out
          have hsz := h9.size
          refine (lengthen_any g w.heap.size n c D ms _ h1 h2 h4 (by omega) hD9 hsz h3).mono ?_
          rintro e w1 ⟨g', n', c', ms', rfl, ho, hn', hn2, hgb, h32', hv, hb1⟩
          have HN := Lib.hid (HR.out.next (k := j) (by rw [HL.out]; omega) (by rw [HL.out]; exact HK.out) ho hn' hn2 hgb h32' (by rw [HDD.out]; exact hv) hb1)
          clear h1 h2 h3 h4 h5 h6 h7 h8 h9 ho hn' hn2 h32' hv hb1 hsz hgb
          go_wp2
          go_roundw
          case rel => exact ⟨_, g', n', c', ms', rfl, rfl, HN.out⟩
          case measure => simp [slen', ByteArray.size]; omega
end Go.Proofs.YtdofolejfdfocaaGreatDoor
