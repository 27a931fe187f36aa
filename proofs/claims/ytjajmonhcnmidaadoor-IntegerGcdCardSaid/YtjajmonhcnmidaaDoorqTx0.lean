/- Walks: slices.Clone of limbs. -/
import Derived.Test.YtjajmonhcnmidaaDoorqShort
import Derived.Test.YtjajmonhcnmidaaDoorqApp
import Derived.WalkSpells
namespace Go.Proofs.YtjajmonhcnmidaaDoor
open Go.RowKit

theorem Owns.head {w : World} {base : Nat} {v : Value} {ms : List Nat} (h : Owns w base v ms) (h0 : 0 < ms.length) : ∃ g c, v = .slice (some ⟨g, 0, none⟩) ms.length c := by
  obtain ⟨h1, h2⟩ := h
  rcases h2 with ⟨_, h3⟩ | ⟨g', cap, cur, rfl, _⟩
  · omega
  · exact ⟨g', cap, rfl⟩
theorem Owns.prow {w : World} {base g n c : Nat} {ms : List Nat} (h : Owns w base (.slice (some ⟨g, 0, none⟩) n c) ms) : PRow w g ms ∧ n = ms.length ∧ n ≤ c ∧ base ≤ g := by
  obtain ⟨h1, h2⟩ := h
  rcases h2 with ⟨h3, _⟩ | ⟨g', cap, cur, h3, hb, hg, hn, hm, hs, ht⟩
  · cases h3
  · injection h3 with e1 e2 e3
    injection e1 with e1
    injection e1 with e1
    subst e1 e2 e3
    refine ⟨⟨cur.toList.drop (ms.length * 1), ?_⟩, rfl, hn, hb⟩
    rw [hg]
    have : ms.map enc32 = cur.toList.take (ms.length * 1) := ht.symm
    rw [this, List.take_append_drop, Array.toArray_toList]

set_option maxRecDepth 100000 in
set_option maxHeartbeats 1000000 in
theorem Clone_any (ad : Addr) (n c : Nat) (w : World) (h : NatAt w (.slice (some ad) (len n) c) n) (hl : len n ≤ 4398046511104) (h0 : 0 < len n) :
    Calls Tryd.prog 58 #[.slice (some ad) (len n) c] w fun e w' => ∃ g c', e = .returned (.slice (some ⟨g, 0, none⟩) (len n) c') ∧ PRow w' g (limbs n) ∧ w.heap.size ≤ g ∧ len n ≤ c' ∧ Below w.heap.size w w' := by
  have hnil := fun W : World => Lib.run_eql_slice_nil (P := Tryd.prog) W 22 38 (some ad) (len n) c 0 0 Tryd.underlying22
  have ho := Lib.hid (Owns.empty w (Nat.le_refl _))
  have hr := Lib.hid (h.mem.2.2.raw.below (below_alloc w (.cells #[] 38)))
  go_enter Tryd.func58, Tryd.ntmps58
  go_wp2_with (at_builtin; refine wpList_append_limbs rfl (.tmp 5) (.tmp 6) rfl w.heap.size (.slice (some ⟨w.heap.size, 0, none⟩) 0 0) [] rfl ho.out w.heap.size (some ad) (len n) c (limbs n) rfl hr.out rfl (by simp; omega) (by simp) ?_; rintro v' w1 hown hgrow hat; have HB := Lib.hid ((below_alloc w (.cells #[] 38)).grown hgrow (by simp) (by intro k hk; simp [Value.ownBlock] at hk; omega)); clear hgrow hat)
  go_ret
  obtain ⟨g, c', hv⟩ := hown.head (by simpa [len_limbs] using h0)
  rw [hv] at hown
  obtain ⟨hp, _, hle, hbg⟩ := hown.prow
  rw [List.nil_append] at hp
  refine ⟨g, c', ?_, hp, hbg, by simpa [len_limbs] using hle, HB.out⟩
  exact congrArg Ending.returned (hv.trans (by simp [len_limbs]))
end Go.Proofs.YtjajmonhcnmidaaDoor
