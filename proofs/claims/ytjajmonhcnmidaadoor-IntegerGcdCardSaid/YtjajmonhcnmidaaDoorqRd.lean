/- Walks: Read at the four fixed texts. -/
import Derived.Test.YtjajmonhcnmidaaDoorGf
import Derived.Test.YtjajmonhcnmidaaDoorqApp
namespace Go.Proofs.YtjajmonhcnmidaaDoor
open Go.RowKit

theorem notation_empty (w : World) : Calls Tryd.prog 63 #[.string ⟨#[]⟩] w fun e w' => e = .returned (.bool false) ∧ w = w' := by
  go_enter Tryd.func63, Tryd.ntmps63
  go_wp2
  go_ret
  exact ⟨rfl, rfl⟩
theorem notation_007 (w : World) : Calls Tryd.prog 63 #[.string ⟨#[48, 48, 55]⟩] w fun e w' => e = .returned (.bool false) ∧ w = w' := by
  go_enter Tryd.func63, Tryd.ntmps63
  go_wp2
  go_ret
  exact ⟨rfl, rfl⟩
theorem notation_0 (w : World) : Calls Tryd.prog 63 #[.string ⟨#[48]⟩] w fun e w' => e = .returned (.bool true) ∧ w = w' := by
  go_enter Tryd.func63, Tryd.ntmps63
  go_wp2_with fail
  go_loop [19] (fun i => i = .int .i64 0 ∨ i = .int .i64 1) (fun i => (1 - intOf i).toNat)
  case atStart => exact .inl rfl
  case round =>
    rcases hrel with rfl | rfl
    · go_wp2
      go_round
      case rel => exact .inr rfl
      case measure => simp [intOf]
    · go_wp2
      go_ret
      exact ⟨rfl, rfl⟩
theorem notation_7 (w : World) : Calls Tryd.prog 63 #[.string ⟨#[55]⟩] w fun e w' => e = .returned (.bool true) ∧ w = w' := by
  go_enter Tryd.func63, Tryd.ntmps63
  go_wp2_with fail
  go_loop [19] (fun i => i = .int .i64 0 ∨ i = .int .i64 1) (fun i => (1 - intOf i).toNat)
  case atStart => exact .inl rfl
  case round =>
    rcases hrel with rfl | rfl
    · go_wp2
      go_round
      case rel => exact .inr rfl
      case measure => simp [intOf]
    · go_wp2
      go_ret
      exact ⟨rfl, rfl⟩

def GivesRead (z ec : Int) (w : World) (e : Ending) (w' : World) : Prop := ∃ v, e = .returned (.tuple #[v, .int .i64 ec]) ∧ IntAt w' v z ∧ Below w.heap.size w w'
set_option maxHeartbeats 400000 in
theorem Read_empty (w : World) : Calls Tryd.prog 39 #[.string ⟨#[]⟩] w (GivesRead 0 4 w) := by
  go_enter Tryd.func39, Tryd.ntmps39
  go_wp2_with (go_at_call 63; refine (notation_empty _).mono ?_; rintro e w' ⟨rfl, rfl⟩)
  refine bodyPost_ret (v := .tuple #[.agg #[.bool false, .slice none 0 0], .int .i64 4]) (by simp [results, Tryd.results39, go_sem]) rfl ⟨_, rfl, IntAt.zero _ _ _, ?_⟩
  first | exact below_alloc _ _ | exact ((below_alloc _ _).setCell (by simp) _).setCell (by simp) _
set_option maxHeartbeats 400000 in
theorem Read_007 (w : World) : Calls Tryd.prog 39 #[.string ⟨#[48, 48, 55]⟩] w (GivesRead 0 4 w) := by
  go_enter Tryd.func39, Tryd.ntmps39
  go_wp2_with (go_at_call 63; refine (notation_007 _).mono ?_; rintro e w' ⟨rfl, rfl⟩)
  refine bodyPost_ret (v := .tuple #[.agg #[.bool false, .slice none 0 0], .int .i64 4]) (by simp [results, Tryd.results39, go_sem]) rfl ⟨_, rfl, IntAt.zero _ _ _, ?_⟩
  first | exact below_alloc _ _ | exact ((below_alloc _ _).setCell (by simp) _).setCell (by simp) _
set_option maxHeartbeats 400000 in
theorem Read_m0 (w : World) : Calls Tryd.prog 39 #[.string ⟨#[45, 48]⟩] w (GivesRead 0 4 w) := by
  have hx : (ByteArray.mk #[45, 48]).extract 1 2 = ⟨#[48]⟩ := by decide +kernel
  go_enter Tryd.func39, Tryd.ntmps39
  go_wp2_with (go_at_call 63; refine (notation_0 _).mono ?_; rintro e w' ⟨rfl, rfl⟩)
  refine bodyPost_ret (v := .tuple #[.agg #[.bool false, .slice none 0 0], .int .i64 4]) (by simp [results, Tryd.results39, go_sem]) rfl ⟨_, rfl, IntAt.zero _ _ _, ?_⟩
  first | exact below_alloc _ _ | exact ((below_alloc _ _).setCell (by simp) _).setCell (by simp) _

set_option maxHeartbeats 1000000 in
theorem lengthen_empty (g base : Nat) (w : World) (hown : Owns w base (.slice (some ⟨g, 0, none⟩) 0 1) []) (hbase : base ≤ w.heap.size) (hg : base ≤ g) :
    Calls Tryd.prog 78 #[.slice (some ⟨g, 0, none⟩) 0 1, .int .u64 7] w fun e w' => ∃ v, e = .returned v ∧ Owns w' base v [7] ∧ Below base w w' := by
  have HO := Lib.hid hown
  go_enter Tryd.func78, Tryd.ntmps78
  go_wp2_with fail
  go_loop [1, 9] (fun a i => a = .int .u64 7 ∧ i = .int .i64 0) (fun _ _ => 0)
  case atStart => exact ⟨rfl, rfl⟩
  case round =>
    obtain ⟨rfl, rfl⟩ := hrel
    have ho1 := Lib.hid (HO.out.alloc (.cells #[.int .u32 7] 38))
    have hr1 := Lib.hid ((Row.new w [7]).mem (B := w.heap.size + 1) (by omega)).raw
    go_wp2_with (at_builtin; refine wpList_append_limbs rfl (.tmp 29) (.tmp 32) rfl base (.slice (some ⟨g, 0, none⟩) 0 1) [] rfl ho1.out (w.heap.size + 1) (some ⟨w.heap.size, 0, none⟩) 1 1 [7] rfl hr1.out rfl (by simp) (by simp; omega) ?_; rintro v' w1 hown1 hgrow hat; have HB := Lib.hid (((Below.refl base w).alloc hbase (.cells #[.int .u32 7] 38)).grown hgrow (by simp; omega) (by intro k hk; simp [Value.ownBlock] at hk; omega)); clear hgrow hat)
    go_ret
    exact ⟨_, rfl, hown1, HB.out⟩

theorem mk01 (w : World) : (Instr.makeSlice 22 (.int .i64 0) (.int .i64 1)).run Tryd.prog w = .ok (.slice (some ⟨w.heap.size, 0, none⟩) 0 1) (w.alloc (rowObj [0])) := by
  obtain ⟨i, hi, hz, hs, hb⟩ := info_parts info32
  have hr := run_make (P := Tryd.prog) w 22 38 i (.int .u32 0) Tryd.underlying22 hi hz .i64 .i64 0 1 (by omega) (by omega) (by rw [hb]; omega) (by omega)
  rw [hr]
  have e : madeCells (Value.int .u32 0).cells ((1 : Int).toNat * i.size) = #[Value.int .u32 0] := by
    rw [hs]
    apply Array.ext_getElem?
    intro j
    by_cases hj : j < 1
    · simp [madeCells, Value.cells, hj, Nat.mod_one]
    · simp [madeCells, Value.cells, hj]
  rw [e]
  rfl
def slen : Value → Nat
  | .string s => s.size
  | _ => 0

set_option maxHeartbeats 1000000 in
theorem fromDigits_7 (w : World) : Calls Tryd.prog 64 #[.string ⟨#[55]⟩] w (GivesNat 7 w) := by
  have hmk := mk01
  have hx : (ByteArray.mk #[55]).extract 1 1 = ⟨#[]⟩ := by decide +kernel
  have hown0 : Owns (w.alloc (rowObj [0])) w.heap.size (.slice (some ⟨w.heap.size, 0, none⟩) 0 1) [] :=
    ⟨by simp, .inr ⟨w.heap.size, 1, _, rfl, Nat.le_refl _, heap_alloc_new w _, by simp, by unfold maxLen; omega, by simp, by simp⟩⟩
  have HO := Lib.hid hown0
  clear hown0
  go_enter Tryd.func64, Tryd.ntmps64
  go_wp2_with fail
  go_loopw [0, 3] (fun s v wr => (s = .string ⟨#[55]⟩ ∧ v = .slice (some ⟨w.heap.size, 0, none⟩) 0 1 ∧ w.alloc (rowObj [0]) = wr) ∨ (s = .string ⟨#[]⟩ ∧ Owns wr w.heap.size v [7] ∧ Below w.heap.size w wr)) (fun s _ _ => slen s)
  case atStart => exact .inl ⟨rfl, rfl, rfl⟩
  case round =>
    rcases hrel with ⟨rfl, rfl, rfl⟩ | ⟨rfl, hO, hB⟩
    · go_wp2_with fail
      go_loop [5, 21] (fun a i => (a = .int .u64 0 ∧ i = .int .i64 0) ∨ (a = .int .u64 7 ∧ i = .int .i64 1)) (fun _ i => (1 - intOf i).toNat)
      case atStart => exact .inl ⟨rfl, rfl⟩
      case round =>
        rcases hrel with ⟨rfl, rfl⟩ | ⟨rfl, rfl⟩
        · go_wp2
          go_round
          case rel => exact .inr ⟨rfl, rfl⟩
          case measure => simp [intOf]
        · go_wp2_with fail
          refine (lengthen_empty w.heap.size w.heap.size _ HO.out (by simp) (Nat.le_refl _)).mono ?_
          rintro e w1 ⟨v1, rfl, ho1, hb1⟩
          have HB := Lib.hid ((below_alloc w (rowObj [0])).trans hb1)
          have HO1 := Lib.hid ho1
          clear hb1 ho1
          go_wp2
          go_roundw
          case rel => exact .inr ⟨rfl, HO1.out, HB.out⟩
          case measure => simp [slen]; try decide
    · have hnat := hO.nat (L32.mk (show 7 < 4294967296 by decide) L32.nil_) (.inr (by decide))
      have e7 : val [7] = 7 := rfl
      rw [e7] at hnat
      obtain ⟨A, c, rfl, HN⟩ := hnat.open_
      have HB := Lib.hid hB
      clear hO hB hnat
      have hl7 : len 7 ≤ 1 := len_le_one (by decide)
      go_wp2_with fail
      refine (trim_nat A c 7 _ HN.out.mem.2.2 (by omega) HN.out.mem.2.1).mono ?_
      rintro e w' ⟨rfl, rfl⟩
      go_wp2
      go_ret
      exact ⟨_, rfl, HN.out, HB.out⟩

set_option maxHeartbeats 1000000 in
theorem Read_m7 (w : World) : Calls Tryd.prog 39 #[.string ⟨#[45, 55]⟩] w (GivesRead (-7) 0 w) := by
  have hx : (ByteArray.mk #[45, 55]).extract 1 2 = ⟨#[55]⟩ := by decide +kernel
  go_enter Tryd.func39, Tryd.ntmps39
  go_wp2_with (go_at_call 63; refine (notation_7 _).mono ?_; rintro e w' ⟨rfl, rfl⟩)
  refine (fromDigits_7 _).mono ?_
  rintro e w1 ⟨v1, rfl, hv1, hb1⟩
  obtain ⟨A1, c1, rfl, H1⟩ := hv1.open_
  have HB1 := Lib.hid hb1
  have hl7 : len 7 ≤ 1 := len_le_one (by decide)
  clear hb1 hv1
  go_wp2_with fail
  refine (build_any true _ 7 _ H1.out (by omega)).mono ?_
  rintro e w2 ⟨v2, rfl, hv2, hb2⟩
  obtain ⟨b, A, k, c, rfl, H⟩ := hv2.open_
  have hB := step_below HB1.out hb2
  obtain ⟨hc0, hc1, hf0, hf1, hs⟩ := box2 hB
  have HE := Lib.hid (box2_end (x' := .bool b) (y' := .slice A k c) hB H.out)
  clear hB hb2 hv2
  go_wp2
  refine bodyPost_ret (v := .tuple #[.agg #[.bool b, .slice A k c], .int .i64 0]) (by simp [results, Tryd.results39, go_sem, hc0, hc1]) rfl ⟨_, rfl, HE.out.1, HE.out.2⟩
end Go.Proofs.YtjajmonhcnmidaaDoor
