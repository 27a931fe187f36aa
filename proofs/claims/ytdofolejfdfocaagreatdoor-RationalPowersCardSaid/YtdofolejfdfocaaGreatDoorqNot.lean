/- Walks: isNotation at any text. -/
import Derived.Test.YtdofolejfdfocaaGreatDoorqDig
import Derived.Test.YtdofolejfdfocaaGreatDoorqApp
namespace Go.Proofs.YtdofolejfdfocaaGreatDoor
open Go.RowKit Go.Lib

theorem bytes_at {bs : List UInt8} {k : Nat} {b : UInt8} (h : bs[k]? = some b) (hk : k < (ByteArray.mk bs.toArray).size) : (ByteArray.mk bs.toArray)[k] = b := by
  obtain ⟨h1, h2⟩ := List.getElem?_eq_some_iff.1 h
  have e : (ByteArray.mk bs.toArray)[k] = bs.toArray[k]'(by simpa using h1) := rfl
  rw [e]
  simpa using h2
theorem bytes_size (bs : List UInt8) : (ByteArray.mk bs.toArray).size = bs.length := by simp [ByteArray.size]
/-- The digits ahead of place k are digits. -/
def DigTo (bs : List UInt8) (k : Nat) : Prop := (bs.take k).all isD = true
theorem DigTo.step {bs : List UInt8} {k : Nat} {b : UInt8} (h : DigTo bs k) (hb : bs[k]? = some b) (hd : isD b = true) : DigTo bs (k + 1) := by
  obtain ⟨hk, e⟩ := List.getElem?_eq_some_iff.1 hb
  unfold DigTo at *
  rw [List.take_succ_eq_append_getElem hk, List.all_append, h, e]
  simp [hd]
theorem DigTo.bad {bs : List UInt8} {k : Nat} {b : UInt8} (hb : bs[k]? = some b) (hd : isD b = false) : bs.all isD = false := by
  obtain ⟨hk, e⟩ := List.getElem?_eq_some_iff.1 hb
  rw [List.all_eq_false]
  exact ⟨b, by rw [← e]; exact List.getElem_mem hk, by simp [hd]⟩

set_option maxHeartbeats 1600000 in
theorem notation_any (bs : List UInt8) (hl : bs.length ≤ 9223372036854775806) (w : World) : Calls Tryz.prog 84 #[.string ⟨bs.toArray⟩] w fun e w' => e = .returned (.bool (isNum bs)) ∧ w = w' := by
  have hs := bytes_size bs
  cases bs with
  | nil =>
    go_enter Tryz.func84, Tryz.ntmps84
    go_wp2
    go_ret
    exact ⟨rfl, rfl⟩
  | cons b r =>
    obtain ⟨L, hL⟩ : ∃ L, (b :: r).length = L := ⟨_, rfl⟩
    obtain ⟨S, hS⟩ : ∃ S, (b :: r) = S := ⟨_, rfl⟩
    rw [hS] at hL hs hl ⊢
    rw [hL] at hs hl
    have hn0 : 0 < L := by rw [← hL, ← hS]; simp
    have h0 := bytes_at (bs := S) (k := 0) (b := b) (by rw [← hS]; rfl) (by omega)
    have hne : ((L : Int) == 0) = false := by simp; omega
    by_cases hz : b = 48 ∧ 1 < L
    · obtain ⟨rfl, hz⟩ := hz
      have hg : decide (1 < L) = true := by simp [hz]
      have hfin : isNum S = false := by
        have : 1 < S.length := by omega
        unfold isNum
        rw [← hS] at this ⊢
        simp at this
        simp [this]
      have HF := Lib.hid hfin
      have HS := Lib.hid hS
      have HL := Lib.hid hL
      clear hfin hS
      go_enter Tryz.func84, Tryz.ntmps84
      go_wp2
      go_ret
      rw [HF.out]
      exact ⟨rfl, rfl⟩
    · have hg : ¬ (b.toNat = 48 ∧ 1 < L) := fun h => hz ⟨UInt8.toNat_inj.1 h.1, h.2⟩
      have hfin : isNum S = S.all isD := by
        unfold isNum
        rw [← hS] at hL ⊢
        have : ((some b == some (48 : UInt8)) && decide (1 < (b :: r).length)) = false := by
          rw [hL]
          by_cases h1 : b = 48
          · have : ¬ 1 < L := fun h => hz ⟨h1, h⟩
            simp [this]
          · simp [h1]
        simp only [List.head?_cons, this]
        simp
      have HF := Lib.hid hfin
      have HS := Lib.hid hS
      have HL := Lib.hid hL
      clear hfin hS hz
      generalize hbn : b.toNat = bn at *
      by_cases h48 : bn = 48
      · have h1L : ¬ 1 < L := fun h => hg ⟨h48, h⟩
        have h1L' : L = 1 := by omega
        clear hg
        go_enter Tryz.func84, Tryz.ntmps84
        go_wp2_with fail
        go_loop [19] (fun i => ∃ k : Nat, i = .int .i64 k ∧ k ≤ L ∧ DigTo S k) (fun i => (L - intOf i).toNat)
        case atStart => exact ⟨0, rfl, by omega, rfl⟩
        case round =>
          obtain ⟨k, rfl, hk, hdig⟩ := hrel
          have HD := Lib.hid hdig
          by_cases hkL : k < L
          · obtain ⟨c, hc⟩ : ∃ c, S[k]? = some c := ⟨_, List.getElem?_eq_getElem (by omega)⟩
            have hck := bytes_at hc (by omega)
            cases hd : isD c with
            | true =>
              have h1 : ¬ c.toNat < 48 := by simp [isD] at hd; omega
              have h2 : ¬ 57 < c.toNat := by simp [isD] at hd; omega
              have HN := Lib.hid (DigTo.step hdig hc hd)
              clear hdig hd hc
              go_wp2
              go_round
              case rel => exact ⟨k + 1, rfl, by omega, HN.out⟩
              case measure => simp [intOf]; omega
            | false =>
              have HN := Lib.hid (DigTo.bad hc hd)
              have hdd : c.toNat < 48 ∨ (¬ c.toNat < 48 ∧ 57 < c.toNat) := by simp [isD] at hd; omega
              clear hdig hd hc
              rcases hdd with h1 | ⟨h1, h2⟩
              · go_wp2
                go_ret
                rw [HF.out, HN.out]
                exact ⟨rfl, rfl⟩
              · go_wp2
                go_ret
                rw [HF.out, HN.out]
                exact ⟨rfl, rfl⟩
          · have e : k = L := by omega
            subst e
            have HA : Hid (S.all isD = true) := Lib.hid (by have := HD.out; unfold DigTo at this; rwa [← hL, List.take_length] at this)
            clear hdig
            go_wp2
            go_ret
            rw [HF.out, HA.out]
            exact ⟨rfl, rfl⟩
      · clear hg
        go_enter Tryz.func84, Tryz.ntmps84
        go_wp2_with fail
        go_loop [19] (fun i => ∃ k : Nat, i = .int .i64 k ∧ k ≤ L ∧ DigTo S k) (fun i => (L - intOf i).toNat)
        case atStart => exact ⟨0, rfl, by omega, rfl⟩
        case round =>
          obtain ⟨k, rfl, hk, hdig⟩ := hrel
          have HD := Lib.hid hdig
          by_cases hkL : k < L
          · obtain ⟨c, hc⟩ : ∃ c, S[k]? = some c := ⟨_, List.getElem?_eq_getElem (by omega)⟩
            have hck := bytes_at hc (by omega)
            cases hd : isD c with
            | true =>
              have h1 : ¬ c.toNat < 48 := by simp [isD] at hd; omega
              have h2 : ¬ 57 < c.toNat := by simp [isD] at hd; omega
              have HN := Lib.hid (DigTo.step hdig hc hd)
              clear hdig hd hc
              go_wp2
              go_round
              case rel => exact ⟨k + 1, rfl, by omega, HN.out⟩
              case measure => simp [intOf]; omega
            | false =>
              have HN := Lib.hid (DigTo.bad hc hd)
              have hdd : c.toNat < 48 ∨ (¬ c.toNat < 48 ∧ 57 < c.toNat) := by simp [isD] at hd; omega
              clear hdig hd hc
              rcases hdd with h1 | ⟨h1, h2⟩
              · go_wp2
                go_ret
                rw [HF.out, HN.out]
                exact ⟨rfl, rfl⟩
              · go_wp2
                go_ret
                rw [HF.out, HN.out]
                exact ⟨rfl, rfl⟩
          · have e : k = L := by omega
            subst e
            have HA : Hid (S.all isD = true) := Lib.hid (by have := HD.out; unfold DigTo at this; rwa [← hL, List.take_length] at this)
            clear hdig
            go_wp2
            go_ret
            rw [HF.out, HA.out]
            exact ⟨rfl, rfl⟩
end Go.Proofs.YtdofolejfdfocaaGreatDoor
