/- Slices of limbs that read as lists of numbers, and the values of such lists: definitions and small lemmas, without any walk. -/
import Derived.Test.YtjajmonhcnmidaaDoorRows
import Derived.WalkKit
import Derived.WalkSpells
import Derived.WalkLawsBesides
import Derived.Lib.Hide
import Derived.Deep.Draws
import Derived.Laws.OwnMore
namespace Go.Proofs.YtjajmonhcnmidaaDoor
open Go.RowKit

theorem block_of_add' (a : Addr) (n : Nat) : (a.add n).block = a.block := by unfold Addr.add; split <;> rfl
theorem add_of_add' (a : Addr) (i j : Nat) : (a.add i).add j = a.add (i + j) := by
  unfold Addr.add
  by_cases hi : i = 0 <;> by_cases hj : j = 0 <;> simp [hi, hj, Nat.add_assoc]

/-- The slice with the head A reads as the limbs ms, in blocks below B: of a slice that came in. -/
def RawMem (w : World) (B : Nat) (A : Option Addr) (ms : List Nat) : Prop :=
  0 < ms.length → ∃ ad, A = some ad ∧ ad.block < B ∧ ∀ (j x : Nat), ms[j]? = some x → w.cell? (ad.add j) = some (.int .u32 (x : Int))
/-- The same, in a block of limbs. -/
def Mem (w : World) (B : Nat) (A : Option Addr) (ms : List Nat) : Prop :=
  0 < ms.length → ∃ ad, A = some ad ∧ ad.block < B ∧ (∃ cs fr, w.heap[ad.block]? = some (.cells cs 38 fr)) ∧ ∀ (j x : Nat), ms[j]? = some x → w.cell? (ad.add j) = some (.int .u32 (x : Int))

section
variable {w w' : World} {B B' : Nat} {A : Option Addr} {ms : List Nat}
theorem Mem.raw (h : Mem w B A ms) : RawMem w B A ms := fun hn => by
  obtain ⟨ad, e, hb, _, hc⟩ := h hn
  exact ⟨ad, e, hb, hc⟩
theorem RawMem.at_ {k : Nat} (h : RawMem w B A ms) (hk : k < ms.length) : ∃ ad, A = some ad ∧ ad.block < B ∧ w.cell? (ad.add k) = some (.int .u32 (ms[k] : Nat)) := by
  obtain ⟨ad, e, hb, hc⟩ := h (by omega)
  exact ⟨ad, e, hb, hc k _ (List.getElem?_eq_getElem hk)⟩
theorem RawMem.below (h : RawMem w B A ms) (hk : Below B w w') : RawMem w' B A ms := fun hn => by
  obtain ⟨ad, e, hb, hc⟩ := h hn
  exact ⟨ad, e, hb, fun j u hu => (hk.cell (by rw [block_of_add']; exact hb)).trans (hc j u hu)⟩
theorem RawMem.take (h : RawMem w B A ms) (k : Nat) : RawMem w B A (ms.take k) := fun hn => by
  obtain ⟨ad, e, hb, hc⟩ := h (by rw [List.length_take] at hn; omega)
  refine ⟨ad, e, hb, fun j u hu => hc j u ?_⟩
  rw [List.getElem?_take] at hu
  split at hu
  · exact hu
  · cases hu
theorem Mem.nil_ : Mem w B A [] := fun h => absurd h (by simp)
theorem Mem.at_ {k : Nat} (h : Mem w B A ms) (hk : k < ms.length) : ∃ ad, A = some ad ∧ ad.block < B ∧ w.cell? (ad.add k) = some (.int .u32 (ms[k] : Nat)) := h.raw.at_ hk
theorem Mem.more (h : Mem w B A ms) (hB : B ≤ B') : Mem w B' A ms := fun hn => by
  obtain ⟨ad, e, hb, ht, hc⟩ := h hn
  exact ⟨ad, e, by omega, ht, hc⟩
theorem Mem.below (h : Mem w B A ms) (hk : Below B w w') : Mem w' B A ms := fun hn => by
  obtain ⟨ad, e, hb, ⟨cs, fr, ht⟩, hc⟩ := h hn
  exact ⟨ad, e, hb, ⟨cs, fr, (hk.block _ hb).trans ht⟩, fun j u hu => (hk.cell (by rw [block_of_add']; exact hb)).trans (hc j u hu)⟩
/-- the form used at calls: read in the old world, below its heap; it reads in the new one -/
theorem Mem.into (h : Mem w w.heap.size A ms) (hb : Below w.heap.size w w') : Mem w' w'.heap.size A ms := (h.below hb).more hb.size
theorem Mem.drewN (h : Mem w B A ms) (k : Nat) : Mem (w.drewN k) B A ms := h
/-- a store into a block that holds no limbs -/
theorem Mem.far (h : Mem w B A ms) {g : Nat} {cs : Array Value} {T : TypeId} {fr : Nat × Nat} (hg : w.heap[g]? = some (.cells cs T fr)) (hT : T ≠ 38) (i : Nat) (v : Value) : Mem (w.setCell ⟨g, i, none⟩ v) B A ms := fun hn => by
  obtain ⟨ad, e, hb, ⟨cs', fr', ht⟩, hc⟩ := h hn
  have hne : ad.block ≠ g := by
    intro e
    rw [e, hg] at ht
    injection ht with ht
    injection ht with _ h2 _
    exact hT h2
  refine ⟨ad, e, hb, ⟨cs', fr', (Below.heap_setCell w _ _ _ hne).trans ht⟩, fun j u hu => ?_⟩
  rw [World.cell?_setCell_other _ _ _ _ (fun e => hne (by have := congrArg Addr.block e; simpa [block_of_add'] using this.symm))]
  exact hc j u hu
theorem Mem.take (h : Mem w B A ms) (k : Nat) : Mem w B A (ms.take k) := fun hn => by
  obtain ⟨ad, e, hb, ht, hc⟩ := h (by rw [List.length_take] at hn; omega)
  refine ⟨ad, e, hb, ht, fun j u hu => hc j u ?_⟩
  rw [List.getElem?_take] at hu
  split at hu
  · exact hu
  · cases hu
end

end Go.Proofs.YtjajmonhcnmidaaDoor
