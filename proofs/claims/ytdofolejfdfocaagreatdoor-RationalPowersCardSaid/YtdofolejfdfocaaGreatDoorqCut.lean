/- Walks: strings.Cut at a slash. -/
import Derived.Test.YtdofolejfdfocaaGreatDoorqRead
import Derived.Test.YtdofolejfdfocaaGreatDoorqDivP
import Derived.Lib.IndexLaws
namespace Go.Proofs.YtdofolejfdfocaaGreatDoor
open Go.RowKit Go.Lib

theorem extract_take (l : List UInt8) (e : Nat) : (ByteArray.mk l.toArray).extract 0 e = ⟨(l.take e).toArray⟩ := by
  apply ByteArray.ext
  rw [ByteArray.data_extract]
  apply Array.ext'
  simp
set_option maxHeartbeats 1600000 in
theorem LCut_none (bs : List UInt8) (h : Lib.indexByte bs 47 = -1) (w : World) : Calls Tryz.prog 83 #[.string ⟨bs.toArray⟩, .string ⟨#[47]⟩] w fun e w' => e = .returned (.tuple #[.string ⟨bs.toArray⟩, .string ⟨#[]⟩, .bool false]) ∧ Below w.heap.size w w' := by
  have HX := fun W => Tryz.stringslite_Index_one ⟨bs.toArray⟩ 47 W
  simp only [h] at HX
  have H1 := Lib.hid HX
  clear HX
  go_enter Tryz.func83, Tryz.ntmps83
  go_wp2_with (go_at_call 105; refine (H1.out _).mono ?_; rintro e w' ⟨rfl, rfl⟩)
  go_ret3
  exact ⟨rfl, Below.refl _ _⟩
set_option maxHeartbeats 1600000 in
theorem LCut_some (bs : List UInt8) (k : Nat) (h : Lib.indexByte bs 47 = (k : Int)) (hl : bs.length ≤ 2000000) (w : World) : Calls Tryz.prog 83 #[.string ⟨bs.toArray⟩, .string ⟨#[47]⟩] w fun e w' => e = .returned (.tuple #[.string ⟨(bs.take k).toArray⟩, .string ⟨(bs.drop (k + 1)).toArray⟩, .bool true]) ∧ Below w.heap.size w w' := by
  have hs := bytes_size bs
  obtain ⟨L, hL⟩ : ∃ L, bs.length = L := ⟨_, rfl⟩
  have hk : k < L := by
    rw [← hL]
    exact (List.getElem?_eq_some_iff.1 (Lib.indexByte_some h).1).1
  rw [hL] at hs hl
  have hx1 := extract_take bs k
  have hx2 := extract_drop bs (k + 1) L (by omega)
  have c1 : (0 : Int) ≤ (k : Int) := by omega
  have c2 : (k : Int) ≤ (L : Int) := by omega
  have c3 : (0 : Int) ≤ (k : Int) + 1 := by omega
  have c4 : (k : Int) + 1 ≤ (L : Int) := by omega
  have HX := fun W => Tryz.stringslite_Index_one ⟨bs.toArray⟩ 47 W
  simp only [h] at HX
  have H1 := Lib.hid HX
  clear HX hL h
  go_enter Tryz.func83, Tryz.ntmps83
  go_wp2_with (go_at_call 105; refine (H1.out _).mono ?_; rintro e w' ⟨rfl, rfl⟩)
  go_quiet (fail)
  go_wp2
  go_ret3
  exact ⟨rfl, below_drewN _ _⟩
set_option maxHeartbeats 1600000 in
theorem Cut_none (bs : List UInt8) (h : Lib.indexByte bs 47 = -1) (w : World) : Calls Tryz.prog 62 #[.string ⟨bs.toArray⟩, .string ⟨#[47]⟩] w (GivesP (tup3F (eqF (.string ⟨bs.toArray⟩)) (eqF (.string ⟨#[]⟩)) (eqF (.bool false))) w) := by
  go_enter Tryz.func62, Tryz.ntmps62
  go_wp2_with fail
  refine (LCut_none bs h _).mono ?_
  rintro e w1 ⟨rfl, hb⟩
  go_wp2
  go_ret3
  exact ⟨_, rfl, ⟨_, _, _, rfl, rfl, rfl, rfl⟩, hb⟩
set_option maxHeartbeats 1600000 in
theorem Cut_some (bs : List UInt8) (k : Nat) (h : Lib.indexByte bs 47 = (k : Int)) (hl : bs.length ≤ 2000000) (w : World) : Calls Tryz.prog 62 #[.string ⟨bs.toArray⟩, .string ⟨#[47]⟩] w (GivesP (tup3F (eqF (.string ⟨(bs.take k).toArray⟩)) (eqF (.string ⟨(bs.drop (k + 1)).toArray⟩)) (eqF (.bool true))) w) := by
  go_enter Tryz.func62, Tryz.ntmps62
  go_wp2_with fail
  refine (LCut_some bs k h hl _).mono ?_
  rintro e w1 ⟨rfl, hb⟩
  go_wp2
  go_ret3
  exact ⟨_, rfl, ⟨_, _, _, rfl, rfl, rfl, rfl⟩, hb⟩
end Go.Proofs.YtdofolejfdfocaaGreatDoor
