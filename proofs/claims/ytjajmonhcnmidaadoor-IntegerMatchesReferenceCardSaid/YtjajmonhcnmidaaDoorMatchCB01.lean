/- Slices of limbs that read as lists of numbers, and the values of such lists: definitions and small lemmas, without any walk. -/
import Derived.Test.YtjajmonhcnmidaaDoorRows
import Derived.WalkKit
import Derived.WalkSpells
import Derived.WalkLawsBesides
import Derived.Lib.Hide
import Derived.Deep.Draws
import Derived.Laws.OwnMore
import Derived.Test.YtjajmonhcnmidaaDoorShelf
import Derived.Lib.ItoaMem
import Derived.ProofKit
import Derived.ChangeSlices
import Derived.Carry
import Derived.Handed
import Derived.SizedLaws
import Derived.Lib.SmallJoins
import Derived.Lib.LaidTab
import Derived.Deep.DeepLaidRun
import Derived.Deep.QuietTactic
import Derived.BigQuiet
import Derived.Outline
import Derived.Maps.AppendAt
import Derived.Laws.AppendOwnNone
namespace Go.Proofs.YtjajmonhcnmidaaDoor
open Go.RowKit

theorem block_of_add' (a : Addr) (n : Nat) : (a.add n).block = a.block := by unfold Addr.add; split <;> rfl
theorem add_of_add' (a : Addr) (i j : Nat) : (a.add i).add j = a.add (i + j) := by
  unfold Addr.add
  by_cases hi : i = 0 <;> by_cases hj : j = 0 <;> simp [hi, hj, Nat.add_assoc]

/-- The slice with the head A reads as the limbs ms, in blocks below B: of a slice that came in. -/
def RawMem (w : World) (B : Nat) (A : Option Addr) (ms : List Nat) : Prop :=
  0 < ms.length → ∃ ad, A = some ad ∧ ad.block < B ∧ ∀ (j x : Nat), ms[j]? = some x → w.cell? (ad.add j) = some (.int .u32 (x : Int))
/-- The same, in a block of limbs. -/
def Mem (w : World) (B : Nat) (A : Option Addr) (ms : List Nat) : Prop :=
  0 < ms.length → ∃ ad, A = some ad ∧ ad.block < B ∧ (∃ cs fr, w.heap[ad.block]? = some (.cells cs 38 fr)) ∧ ∀ (j x : Nat), ms[j]? = some x → w.cell? (ad.add j) = some (.int .u32 (x : Int))

section
variable {w w' : World} {B B' : Nat} {A : Option Addr} {ms : List Nat}
theorem Mem.raw (h : Mem w B A ms) : RawMem w B A ms := fun hn => by
  obtain ⟨ad, e, hb, _, hc⟩ := h hn
  exact ⟨ad, e, hb, hc⟩
theorem RawMem.at_ {k : Nat} (h : RawMem w B A ms) (hk : k < ms.length) : ∃ ad, A = some ad ∧ ad.block < B ∧ w.cell? (ad.add k) = some (.int .u32 (ms[k] : Nat)) := by
  obtain ⟨ad, e, hb, hc⟩ := h (by omega)
  exact ⟨ad, e, hb, hc k _ (List.getElem?_eq_getElem hk)⟩
theorem RawMem.below (h : RawMem w B A ms) (hk : Below B w w') : RawMem w' B A ms := fun hn => by
  obtain ⟨ad, e, hb, hc⟩ := h hn
  exact ⟨ad, e, hb, fun j u hu => (hk.cell (by rw [block_of_add']; exact hb)).trans (hc j u hu)⟩
theorem RawMem.take (h : RawMem w B A ms) (k : Nat) : RawMem w B A (ms.take k) := fun hn => by
  obtain ⟨ad, e, hb, hc⟩ := h (by rw [List.length_take] at hn; omega)
  refine ⟨ad, e, hb, fun j u hu => hc j u ?_⟩
  rw [List.getElem?_take] at hu
  split at hu
  · exact hu
  · cases hu
theorem Mem.nil_ : Mem w B A [] := fun h => absurd h (by simp)
theorem Mem.at_ {k : Nat} (h : Mem w B A ms) (hk : k < ms.length) : ∃ ad, A = some ad ∧ ad.block < B ∧ w.cell? (ad.add k) = some (.int .u32 (ms[k] : Nat)) := h.raw.at_ hk
theorem Mem.more (h : Mem w B A ms) (hB : B ≤ B') : Mem w B' A ms := fun hn => by
  obtain ⟨ad, e, hb, ht, hc⟩ := h hn
  exact ⟨ad, e, by omega, ht, hc⟩
theorem Mem.below (h : Mem w B A ms) (hk : Below B w w') : Mem w' B A ms := fun hn => by
  obtain ⟨ad, e, hb, ⟨cs, fr, ht⟩, hc⟩ := h hn
  exact ⟨ad, e, hb, ⟨cs, fr, (hk.block _ hb).trans ht⟩, fun j u hu => (hk.cell (by rw [block_of_add']; exact hb)).trans (hc j u hu)⟩
/-- the form used at calls: read in the old world, below its heap; it reads in the new one -/
theorem Mem.into (h : Mem w w.heap.size A ms) (hb : Below w.heap.size w w') : Mem w' w'.heap.size A ms := (h.below hb).more hb.size
theorem Mem.drewN (h : Mem w B A ms) (k : Nat) : Mem (w.drewN k) B A ms := h
/-- a store into a block that holds no limbs -/
theorem Mem.far (h : Mem w B A ms) {g : Nat} {cs : Array Value} {T : TypeId} {fr : Nat × Nat} (hg : w.heap[g]? = some (.cells cs T fr)) (hT : T ≠ 38) (i : Nat) (v : Value) : Mem (w.setCell ⟨g, i, none⟩ v) B A ms := fun hn => by
  obtain ⟨ad, e, hb, ⟨cs', fr', ht⟩, hc⟩ := h hn
  have hne : ad.block ≠ g := by
    intro e
    rw [e, hg] at ht
    injection ht with ht
    injection ht with _ h2 _
    exact hT h2
  refine ⟨ad, e, hb, ⟨cs', fr', (Below.heap_setCell w _ _ _ hne).trans ht⟩, fun j u hu => ?_⟩
  rw [World.cell?_setCell_other _ _ _ _ (fun e => hne (by have := congrArg Addr.block e; simpa [block_of_add'] using this.symm))]
  exact hc j u hu
theorem Mem.take (h : Mem w B A ms) (k : Nat) : Mem w B A (ms.take k) := fun hn => by
  obtain ⟨ad, e, hb, ht, hc⟩ := h (by rw [List.length_take] at hn; omega)
  refine ⟨ad, e, hb, ht, fun j u hu => hc j u ?_⟩
  rw [List.getElem?_take] at hu
  split at hu
  · exact hu
  · cases hu
end

end Go.Proofs.YtjajmonhcnmidaaDoor
/- Natural numbers as lists of limbs to the base 2^32: plain mathematics, no walk. -/
namespace Go.Proofs.YtjajmonhcnmidaaDoor

/-- The value of a list of limbs, the least significant one first. -/
def val : List Nat → Nat
  | [] => 0
  | x :: r => x + 4294967296 * val r

/-- All elements are limbs. -/
def L32 (ms : List Nat) : Prop := ∀ x ∈ ms, x < 4294967296

/-- The limbs of a number, without zeros at the end. -/
def limbs (n : Nat) : List Nat := if h : n = 0 then [] else n % 4294967296 :: limbs (n / 4294967296)
termination_by n
decreasing_by omega

/-- The number of limbs. -/
def len (n : Nat) : Nat := (limbs n).length

theorem limbs_zero : limbs 0 = [] := by unfold limbs; rfl
theorem limbs_pos {n : Nat} (h : 0 < n) : limbs n = n % 4294967296 :: limbs (n / 4294967296) := by
  rw [limbs]; rw [dif_neg (by omega)]
theorem len_zero : len 0 = 0 := by simp [len, limbs_zero]
theorem len_pos {n : Nat} (h : 0 < n) : len n = len (n / 4294967296) + 1 := by simp [len, limbs_pos h]
theorem val_limbs (n : Nat) : val (limbs n) = n := by
  induction n using Nat.strongRecOn with
  | _ n ih =>
    rcases Nat.eq_zero_or_pos n with h | h
    · subst h; rw [limbs_zero]; rfl
    · rw [limbs_pos h, val, ih _ (by omega)]; omega
theorem limbs_32 (n : Nat) : L32 (limbs n) := by
  induction n using Nat.strongRecOn with
  | _ n ih =>
    rcases Nat.eq_zero_or_pos n with h | h
    · subst h; rw [limbs_zero]; intro x hx; cases hx
    · rw [limbs_pos h]
      intro x hx
      rcases List.mem_cons.1 hx with rfl | hx
      · omega
      · exact ih _ (by omega) x hx
theorem limbs_cons {x n : Nat} (hx : x < 4294967296) (h : 0 < x + 4294967296 * n) : limbs (x + 4294967296 * n) = x :: limbs n := by
  rw [limbs_pos h]
  have h1 : (x + 4294967296 * n) % 4294967296 = x := by omega
  have h2 : (x + 4294967296 * n) / 4294967296 = n := by omega
  rw [h1, h2]
theorem L32.cons {x : Nat} {r : List Nat} (h : L32 (x :: r)) : x < 4294967296 ∧ L32 r := ⟨h x (by simp), fun y hy => h y (by simp [hy])⟩
theorem L32.mk {x : Nat} {r : List Nat} (hx : x < 4294967296) (h : L32 r) : L32 (x :: r) := fun y hy => by
  rcases List.mem_cons.1 hy with rfl | hy
  · exact hx
  · exact h y hy
theorem L32.nil_ : L32 [] := fun x hx => by cases hx
theorem L32.at_ {ms : List Nat} (h : L32 ms) (i : Nat) : ms.getD i 0 < 4294967296 := by
  rcases Nat.lt_or_ge i ms.length with hl | hl
  · simp only [List.getD, List.getElem?_eq_getElem hl, Option.getD_some]; exact h _ (List.getElem_mem hl)
  · simp [List.getD, List.getElem?_eq_none hl]
theorem L32.get {ms : List Nat} (h : L32 ms) {i : Nat} (hl : i < ms.length) : ms[i] < 4294967296 := h _ (List.getElem_mem hl)
theorem L32.append {a b : List Nat} (ha : L32 a) (hb : L32 b) : L32 (a ++ b) := fun x hx => (List.mem_append.1 hx).elim (ha x) (hb x)
theorem L32.take {a : List Nat} (ha : L32 a) (k : Nat) : L32 (a.take k) := fun x hx => ha x (List.mem_of_mem_take hx)
theorem L32.drop {a : List Nat} (ha : L32 a) (k : Nat) : L32 (a.drop k) := fun x hx => ha x (List.mem_of_mem_drop hx)

theorem val_append (a b : List Nat) : val (a ++ b) = val a + 4294967296 ^ a.length * val b := by
  induction a with
  | nil => simp [val]
  | cons x r ih => simp only [List.cons_append, val, ih, List.length_cons, Nat.pow_succ]; rw [Nat.mul_add, Nat.mul_comm (4294967296 ^ r.length) 4294967296, Nat.mul_assoc]; omega
theorem val_lt {ms : List Nat} (h : L32 ms) : val ms < 4294967296 ^ ms.length := by
  induction ms with
  | nil => simp [val]
  | cons x r ih =>
    have h1 := ih h.cons.2
    have h2 := h.cons.1
    simp only [val, List.length_cons, Nat.pow_succ]
    omega
/-- The limbs of the value: a beginning of the list; behind it there are zeros. -/
theorem limbs_val {ms : List Nat} (h : L32 ms) : limbs (val ms) = ms.take (len (val ms)) ∧ len (val ms) ≤ ms.length ∧ ∀ i, len (val ms) ≤ i → ms.getD i 0 = 0 := by
  induction ms with
  | nil => simp [val, limbs_zero, len_zero]
  | cons x r ih =>
    obtain ⟨i1, i2, i3⟩ := ih h.cons.2
    have hx := h.cons.1
    rcases Nat.eq_zero_or_pos (x + 4294967296 * val r) with h0 | h0
    · have hv : val (x :: r) = 0 := by simp only [val]; exact h0
      have hx0 : x = 0 := by omega
      have hr0 : val r = 0 := by omega
      rw [hr0, len_zero] at i3
      rw [hv, limbs_zero, len_zero]
      refine ⟨by simp, by omega, fun i _ => ?_⟩
      match i with
      | 0 => simp [hx0]
      | j + 1 => simpa using i3 j (by omega)
    · have e : limbs (val (x :: r)) = x :: limbs (val r) := by simp only [val]; exact limbs_cons hx h0
      have el : len (val (x :: r)) = len (val r) + 1 := by simp [len, e]
      refine ⟨by rw [el, e, List.take_succ_cons, ← i1], by simp [el, i2], fun i hi => ?_⟩
      match i with
      | 0 => omega
      | j + 1 => simpa using i3 j (by omega)
/-- The last limb is not zero. -/
theorem limbs_last {n : Nat} (h : 0 < n) : (limbs n).getD (len n - 1) 0 ≠ 0 := by
  induction n using Nat.strongRecOn with
  | _ n ih =>
    rw [limbs_pos h, len_pos h]
    rcases Nat.eq_zero_or_pos (n / 4294967296) with h0 | h0
    · rw [h0, len_zero, limbs_zero]; simp; omega
    · have := ih _ (by omega) h0
      have hl : len (n / 4294967296) = len (n / 4294967296 / 4294967296) + 1 := len_pos h0
      rw [hl] at this ⊢
      simpa using this
theorem len_limbs (n : Nat) : (limbs n).length = len n := rfl
theorem lt_pow_len (n : Nat) : n < 4294967296 ^ len n := by have := val_lt (limbs_32 n); rwa [val_limbs] at this
theorem len_le {n k : Nat} (h : n < 4294967296 ^ k) : len n ≤ k := by
  induction k generalizing n with
  | zero => have : n = 0 := by simpa using h
            subst this; simp [len_zero]
  | succ k ih =>
    rcases Nat.eq_zero_or_pos n with h0 | h0
    · subst h0; simp [len_zero]
    · rw [len_pos h0]
      have : n / 4294967296 < 4294967296 ^ k := by rw [Nat.pow_succ] at h; omega
      have := ih this
      omega
theorem pow_le_of_len {n k : Nat} (h : k < len n) : 4294967296 ^ k ≤ n := by
  rcases Nat.lt_or_ge n (4294967296 ^ k) with h1 | h1
  · have := len_le h1; omega
  · exact h1
theorem len_mono {a b : Nat} (h : a ≤ b) : len a ≤ len b := len_le (Nat.lt_of_le_of_lt h (lt_pow_len b))
theorem len_add (a b : Nat) : len (a + b) ≤ max (len a) (len b) + 1 := by
  apply len_le
  have ha := lt_pow_len a
  have hb := lt_pow_len b
  have h1 : 4294967296 ^ len a ≤ 4294967296 ^ max (len a) (len b) := Nat.pow_le_pow_right (by omega) (by omega)
  have h2 : 4294967296 ^ len b ≤ 4294967296 ^ max (len a) (len b) := Nat.pow_le_pow_right (by omega) (by omega)
  rw [Nat.pow_succ]
  omega
theorem len_mul (a b : Nat) : len (a * b) ≤ len a + len b := by
  apply len_le
  rcases Nat.eq_zero_or_pos a with h | h
  · subst h; rw [Nat.zero_mul]; exact Nat.pow_pos (by decide)
  · rw [Nat.pow_add]; exact Nat.mul_lt_mul_of_lt_of_le (lt_pow_len a) (Nat.le_of_lt (lt_pow_len b)) (Nat.pow_pos (by omega))
theorem len_lt_lt {a b : Nat} (h : len a < len b) : a < b := by
  have h1 := lt_pow_len a
  have h2 := pow_le_of_len h
  omega
theorem len_le_one {n : Nat} (h : n < 4294967296) : len n ≤ 1 := len_le (by simpa using h)
theorem len_le_two {n : Nat} (h : n < 18446744073709551616) : len n ≤ 2 := len_le (by simpa using h)
theorem len_eq_zero {n : Nat} : len n = 0 ↔ n = 0 := by
  constructor
  · intro h
    rcases Nat.eq_zero_or_pos n with h0 | h0
    · exact h0
    · rw [len_pos h0] at h; omega
  · rintro rfl; exact len_zero
theorem limbs_inj {a b : Nat} (h : limbs a = limbs b) : a = b := by rw [← val_limbs a, ← val_limbs b, h]
theorem limbs_of_val {ms : List Nat} (h : L32 ms) (hl : ms = [] ∨ ms.getD (ms.length - 1) 0 ≠ 0) : limbs (val ms) = ms := by
  obtain ⟨h1, h2, h3⟩ := limbs_val h
  rw [h1]
  rcases hl with rfl | hl
  · simp
  · apply List.take_of_length_le
    rcases Nat.lt_or_ge (len (val ms)) ms.length with h4 | h4
    · exact absurd (h3 (ms.length - 1) (by omega)) hl
    · exact h4
end Go.Proofs.YtjajmonhcnmidaaDoor
/- How numbers lie in memory: natural numbers as slices of limbs, integers as structs; rows of limbs that a call itself makes. No walk. -/
namespace Go.Proofs.YtjajmonhcnmidaaDoor
open Go.RowKit

/-- v is a slice of the limbs of n. -/
def NatAt (w : World) (v : Value) (n : Nat) : Prop := ∃ A c, v = .slice A (len n) c ∧ len n ≤ c ∧ Mem w w.heap.size A (limbs n)
/-- v is the valid api.Int with the value z. -/
def IntAt (w : World) (v : Value) (z : Int) : Prop := ∃ s, v = .agg #[.bool (decide (z < 0)), s] ∧ NatAt w s z.natAbs

theorem NatAt.into {w w' : World} {v : Value} {n : Nat} (h : NatAt w v n) (hb : Below w.heap.size w w') : NatAt w' v n := by
  obtain ⟨A, c, e, hc, hm⟩ := h
  exact ⟨A, c, e, hc, hm.into hb⟩
theorem IntAt.into {w w' : World} {v : Value} {z : Int} (h : IntAt w v z) (hb : Below w.heap.size w w') : IntAt w' v z := by
  obtain ⟨s, e, hs⟩ := h
  exact ⟨s, e, hs.into hb⟩
theorem NatAt.zero (w : World) (A : Option Addr) (c : Nat) : NatAt w (.slice A 0 c) 0 := ⟨A, c, by rw [len_zero], by rw [len_zero]; omega, by rw [limbs_zero]; exact Mem.nil_⟩
theorem IntAt.zero (w : World) (A : Option Addr) (c : Nat) : IntAt w (.agg #[.bool false, .slice A 0 c]) 0 := ⟨_, rfl, NatAt.zero w A c⟩
theorem IntAt.mk {w : World} {s : Value} {n : Nat} {b : Bool} (h : NatAt w s n) (h0 : n = 0 → b = false) : IntAt w (.agg #[.bool b, s]) (if b then -(n : Int) else n) := by
  refine ⟨s, ?_, ?_⟩
  · cases b
    · simp
    · have : n ≠ 0 := fun h => by simpa using h0 h
      simp; omega
  · cases b
    · simpa using h
    · simpa using h

/-- An integer opened to its parts, which are variables: the fact itself is hidden from the walk. -/
theorem IntAt.open_ {w : World} {v : Value} {z : Int} (h : IntAt w v z) : ∃ (b : Bool) (A : Option Addr) (k c : Nat), v = .agg #[.bool b, .slice A k c] ∧ Hid (IntAt w (.agg #[.bool b, .slice A k c]) z) := by
  obtain ⟨s, rfl, A, c, rfl, hc, hm⟩ := h
  exact ⟨_, A, _, c, rfl, ⟨_, rfl, A, c, rfl, hc, hm⟩⟩
theorem NatAt.open_ {w : World} {v : Value} {n : Nat} (h : NatAt w v n) : ∃ (A : Option Addr) (c : Nat), v = .slice A (len n) c ∧ Hid (NatAt w (.slice A (len n) c) n) := by
  obtain ⟨A, c, rfl, hc, hm⟩ := h
  exact ⟨A, c, rfl, ⟨A, c, rfl, hc, hm⟩⟩
theorem NatAt.mem {w : World} {A : Option Addr} {k c n : Nat} (h : NatAt w (.slice A k c) n) : k = len n ∧ len n ≤ c ∧ Mem w w.heap.size A (limbs n) := by
  obtain ⟨A', c', e, hc, hm⟩ := h
  injection e with e1 e2 e3
  subst e1 e2 e3
  exact ⟨rfl, hc, hm⟩
theorem step_below {w w1 w2 : World} (h : Below w.heap.size w w1) (h2 : Below w1.heap.size w1 w2) : Below w.heap.size w w2 := h.trans (h2.mono h.size)
theorem below_alloc (w : World) (o : Obj) : Below w.heap.size w (w.alloc o) := (Below.refl _ _).alloc (Nat.le_refl _) _
theorem below_drewN (w : World) (n : Nat) : Below w.heap.size w (w.drewN n) := ⟨rfl, rfl, rfl, Nat.le_refl _, fun _ _ => rfl⟩
theorem frozen_of_row {w : World} {g : Nat} {cs : Array Value} {T : TypeId} (h : w.heap[g]? = some (.cells cs T (0, 0))) (i : Nat) : w.frozen? ⟨g, i, none⟩ = false := by simp [World.frozen?, h]
/-- A struct of two cells that the function itself has boxed, later on. -/
theorem box2 {w w1 : World} {x y : Value} {T : TypeId} (hb : Below (w.alloc (.cells #[x, y] T)).heap.size (w.alloc (.cells #[x, y] T)) w1) :
    w1.cell? ⟨w.heap.size, 0, none⟩ = some x ∧ w1.cell? ⟨w.heap.size, 1, none⟩ = some y ∧ w1.frozen? ⟨w.heap.size, 0, none⟩ = false ∧ w1.frozen? ⟨w.heap.size, 1, none⟩ = false ∧ w.heap.size < w1.heap.size := by
  have hs : w.heap.size < (w.alloc (.cells #[x, y] T)).heap.size := by simp
  have hc : ∀ i, (w.alloc (.cells #[x, y] T)).cell? ⟨w.heap.size, i, none⟩ = #[x, y][i]? := fun i => cell_of_row _ _ i _ _ (0, 0) (heap_alloc_new w _)
  have hf : ∀ i, (w.alloc (.cells #[x, y] T)).frozen? ⟨w.heap.size, i, none⟩ = false := fun i => by
    exact frozen_of_row (heap_alloc_new w (.cells #[x, y] T)) i
  refine ⟨(hb.cell (p := ⟨w.heap.size, 0, none⟩) hs).trans (hc 0), (hb.cell (p := ⟨w.heap.size, 1, none⟩) hs).trans (hc 1), (hb.frozen (p := ⟨w.heap.size, 0, none⟩) hs).trans (hf 0), (hb.frozen (p := ⟨w.heap.size, 1, none⟩) hs).trans (hf 1), Nat.lt_of_lt_of_le hs hb.size⟩

theorem NatAt.far {w : World} {v : Value} {n : Nat} (h : NatAt w v n) {g : Nat} {cs : Array Value} {T : TypeId} {fr : Nat × Nat} (hg : w.heap[g]? = some (.cells cs T fr)) (hT : T ≠ 38) (i : Nat) (u : Value) : NatAt (w.setCell ⟨g, i, none⟩ u) v n := by
  obtain ⟨A, c, e, hc, hm⟩ := h
  refine ⟨A, c, e, hc, ?_⟩
  have := hm.far hg hT i u
  simpa [World.setCell] using this
theorem IntAt.far {w : World} {v : Value} {z : Int} (h : IntAt w v z) {g : Nat} {cs : Array Value} {T : TypeId} {fr : Nat × Nat} (hg : w.heap[g]? = some (.cells cs T fr)) (hT : T ≠ 38) (i : Nat) (u : Value) : IntAt (w.setCell ⟨g, i, none⟩ u) v z := by
  obtain ⟨s, e, hs⟩ := h
  exact ⟨s, e, hs.far hg hT i u⟩
theorem block_setCell {w : World} {g : Nat} {cs : Array Value} {T : TypeId} {fr : Nat × Nat} (h : w.heap[g]? = some (.cells cs T fr)) (i : Nat) (u : Value) : (w.setCell ⟨g, i, none⟩ u).heap[g]? = some (.cells (cs.setIfInBounds i u) T fr) := by
  simp [World.setCell, Array.getElem?_modify, h]
/-- The end of a function whose result lies in a box of its own. -/
theorem box2_end {w w1 : World} {x y x' y' v : Value} {z : Int} (hb : Below (w.alloc (.cells #[x, y] 27)).heap.size (w.alloc (.cells #[x, y] 27)) w1) (h : IntAt w1 v z) :
    IntAt ((w1.setCell ⟨w.heap.size, 0, none⟩ x').setCell ⟨w.heap.size, 1, none⟩ y') v z ∧ Below w.heap.size w ((w1.setCell ⟨w.heap.size, 0, none⟩ x').setCell ⟨w.heap.size, 1, none⟩ y') := by
  have hg : w1.heap[w.heap.size]? = some (.cells #[x, y] 27 (0, 0)) := (hb.block _ (by simp)).trans (heap_alloc_new w _)
  have hne : (27 : TypeId) ≠ 38 := by decide
  refine ⟨(h.far hg hne 0 x').far (block_setCell hg 0 x') hne 1 y', ?_⟩
  have h0 : Below w.heap.size w w1 := (below_alloc w _).trans (hb.mono (by simp))
  exact (h0.setCell (by simp) _).setCell (by simp) _

/-- What a function on limbs gives: the limbs of n, in a world in which all that was there is unchanged. -/
def GivesNat (n : Nat) (w : World) (e : Ending) (w' : World) : Prop := ∃ v, e = .returned v ∧ NatAt w' v n ∧ Below w.heap.size w w'
def GivesInt (z : Int) (w : World) (e : Ending) (w' : World) : Prop := ∃ v, e = .returned v ∧ IntAt w' v z ∧ Below w.heap.size w w'

/-- A new block of limbs. -/
def rowObj (ms : List Nat) : Obj := .cells (ms.map (fun (x : Nat) => Value.int .u32 (x : Int))).toArray 38
/-- Block g is the row of limbs ms. -/
def Row (w : World) (g : Nat) (ms : List Nat) : Prop := w.heap[g]? = some (rowObj ms)

section
variable {w w' : World} {g : Nat} {ms : List Nat}
theorem Row.lt (h : Row w g ms) : g < w.heap.size := by
  rcases Nat.lt_or_ge g w.heap.size with hlt | hge
  · exact hlt
  · unfold Row at h; rw [Array.getElem?_eq_none hge] at h; cases h
theorem Row.cell (h : Row w g ms) {i : Nat} (hi : i < ms.length) : w.cell? ⟨g, i, none⟩ = some (.int .u32 (ms[i] : Nat)) := by
  rw [cell_of_row w g i _ _ (0, 0) h]
  simp [hi]
theorem Row.frozen (h : Row w g ms) (i : Nat) : w.frozen? ⟨g, i, none⟩ = false := by
  unfold Row rowObj at h
  simp [World.frozen?, h]
theorem Row.new (w : World) (ms : List Nat) : Row (w.alloc (rowObj ms)) w.heap.size ms := heap_alloc_new w _
theorem Row.drewN (h : Row w g ms) (k : Nat) : Row (w.drewN k) g ms := h
theorem Row.alloc (h : Row w g ms) (o : Obj) : Row (w.alloc o) g ms := (Below.heap_alloc w o g h.lt).trans h
theorem Row.set_ (h : Row w g ms) (i x : Nat) : Row (w.setCell ⟨g, i, none⟩ (.int .u32 (x : Int))) g (ms.set i x) := by
  unfold Row rowObj at h ⊢
  simp [World.setCell, Array.getElem?_modify, h, List.map_set]
theorem Row.far (h : Row w g ms) {p : Addr} (hp : g ≠ p.block) (u : Value) : Row (w.setCell p u) g ms := (Below.heap_setCell w p u g hp).trans h
theorem Row.below {B : Nat} (h : Row w g ms) (hb : Below B w w') (hg : g < B) : Row w' g ms := (hb.block g hg).trans h
theorem Row.mem (h : Row w g ms) {B : Nat} (hB : g < B) : Mem w B (some ⟨g, 0, none⟩) ms := fun _ => ⟨_, rfl, hB, ⟨_, _, h⟩, fun j x hx => by
  have hj : j < ms.length := (List.getElem?_eq_some_iff.1 hx).1
  have hx' : ms[j] = x := (List.getElem?_eq_some_iff.1 hx).2
  have e : (⟨g, 0, none⟩ : Addr).add j = ⟨g, j, none⟩ := by
    unfold Addr.add
    split
    · next h0 => rw [h0]
    · simp
  rw [e, h.cell hj, hx']⟩
theorem Row.nat (h : Row w g ms) (h32 : L32 ms) {c : Nat} (hc : ms.length ≤ c) : NatAt w (.slice (some ⟨g, 0, none⟩) (len (val ms)) c) (val ms) := by
  obtain ⟨e1, e2, _⟩ := limbs_val h32
  refine ⟨_, c, rfl, by omega, ?_⟩
  rw [e1]
  exact (h.mem h.lt).take _
end

theorem info32 : (Tryd.prog.info? 38).map (fun i => (i.zero, i.size, i.bytes)) = some (some (.int .u32 0), 1, 4) := by kernel_rfl
theorem mk32 (l : Int) (h0 : 0 ≤ l) (h : l ≤ 17592186044416) (w : World) :
    (Instr.makeSlice 22 (.int .i64 l) (.int .i64 l)).run Tryd.prog w = .ok (.slice (some ⟨w.heap.size, 0, none⟩) l.toNat l.toNat) (w.alloc (rowObj (List.replicate l.toNat 0))) := by
  obtain ⟨i, hi, hz, hs, hb⟩ := info_parts info32
  have hr := run_make (P := Tryd.prog) w 22 38 i (.int .u32 0) Tryd.underlying22 hi hz .i64 .i64 l l h0 (Int.le_refl _) (by rw [hb]; omega) (by omega)
  have e : madeCells (Value.int .u32 0).cells (l.toNat * i.size) = ((List.replicate l.toNat 0).map (fun (x : Nat) => Value.int .u32 (x : Int))).toArray := by
    rw [hs, Nat.mul_one]
    apply Array.ext_getElem?
    intro j
    by_cases hj : j < l.toNat
    · simp [madeCells, Value.cells, hj, Nat.mod_one]
    · simp [madeCells, Value.cells, hj]
  rw [hr, e]
  rfl

theorem val_replicate (n : Nat) : val (List.replicate n 0) = 0 := by
  induction n with
  | zero => rfl
  | succ n ih => rw [List.replicate_succ, val, ih]
theorem L32.replicate (n : Nat) : L32 (List.replicate n 0) := fun x hx => by
  rw [List.eq_of_mem_replicate hx]; omega
theorem L32.set {ms : List Nat} (h : L32 ms) {i x : Nat} (hx : x < 4294967296) : L32 (ms.set i x) := fun y hy => by
  rcases List.mem_or_eq_of_mem_set hy with h1 | h1
  · exact h y h1
  · rw [h1]; exact hx
/-- The value of a prefix grows by one limb. -/
theorem val_take_succ (ms : List Nat) (k : Nat) : val (ms.take (k + 1)) = val (ms.take k) + 4294967296 ^ k * ms.getD k 0 := by
  rcases Nat.lt_or_ge k ms.length with h | h
  · rw [List.take_succ_eq_append_getElem h, val_append]
    simp [List.getD, List.getElem?_eq_getElem h, val, List.length_take, Nat.min_eq_left (Nat.le_of_lt h)]
  · rw [List.take_of_length_le (by omega), List.take_of_length_le h]
    simp [List.getD, List.getElem?_eq_none h]
end Go.Proofs.YtjajmonhcnmidaaDoor
/- Boxes of a call's own: structs of two cells, later on. No walk. -/
namespace Go.Proofs.YtjajmonhcnmidaaDoor
open Go.RowKit

theorem size_alloc' (w : World) (o : Obj) : (w.alloc o).heap.size = w.heap.size + 1 := by simp
theorem heap1 (w : World) (o1 : Obj) : (w.alloc o1).heap[w.heap.size]? = some o1 := heap_alloc_new w o1
theorem heap2 (w : World) (o1 o2 : Obj) : ((w.alloc o1).alloc o2).heap[w.heap.size]? = some o1 ∧ ((w.alloc o1).alloc o2).heap[w.heap.size + 1]? = some o2 :=
  ⟨(Below.heap_alloc _ _ _ (by simp)).trans (heap1 w o1), by have := heap1 (w.alloc o1) o2; rwa [size_alloc'] at this⟩
theorem heap3 (w : World) (o1 o2 o3 : Obj) : (((w.alloc o1).alloc o2).alloc o3).heap[w.heap.size]? = some o1 ∧ (((w.alloc o1).alloc o2).alloc o3).heap[w.heap.size + 1]? = some o2 ∧ (((w.alloc o1).alloc o2).alloc o3).heap[w.heap.size + 2]? = some o3 :=
  ⟨(Below.heap_alloc _ _ _ (by simp; omega)).trans (heap2 w o1 o2).1, (Below.heap_alloc _ _ _ (by simp)).trans (heap2 w o1 o2).2, by have := heap1 ((w.alloc o1).alloc o2) o3; rwa [size_alloc', size_alloc'] at this⟩
theorem below2 (w : World) (o1 o2 : Obj) : Below w.heap.size w ((w.alloc o1).alloc o2) := (below_alloc w o1).alloc (by simp) o2
theorem below3 (w : World) (o1 o2 o3 : Obj) : Below w.heap.size w (((w.alloc o1).alloc o2).alloc o3) := (below2 w o1 o2).alloc (by simp; omega) o3

/-- A box of two cells in a later world. -/
theorem box_in {W w1 : World} {g : Nat} {x y : Value} {T : TypeId} (hg : W.heap[g]? = some (.cells #[x, y] T (0, 0))) (hb : Below W.heap.size W w1) :
    w1.cell? ⟨g, 0, none⟩ = some x ∧ w1.cell? ⟨g, 1, none⟩ = some y ∧ w1.frozen? ⟨g, 0, none⟩ = false ∧ w1.frozen? ⟨g, 1, none⟩ = false ∧ g < w1.heap.size := by
  have hs : g < W.heap.size := by
    rcases Nat.lt_or_ge g W.heap.size with hlt | hge
    · exact hlt
    · rw [Array.getElem?_eq_none hge] at hg; cases hg
  have h1 : w1.heap[g]? = some (.cells #[x, y] T (0, 0)) := (hb.block g hs).trans hg
  exact ⟨cell_of_row w1 g 0 _ _ (0, 0) h1, cell_of_row w1 g 1 _ _ (0, 0) h1, frozen_of_row h1 0, frozen_of_row h1 1, Nat.lt_of_lt_of_le hs hb.size⟩
/-- The end of a function whose integer lies in a box of its own. -/
theorem box_end {w W w1 : World} {g : Nat} {x y x' y' v : Value} {z : Int} (hg : W.heap[g]? = some (.cells #[x, y] 27 (0, 0))) (hb : Below W.heap.size W w1) (h : IntAt w1 v z) (hw : Below w.heap.size w W) (hgw : w.heap.size ≤ g) :
    IntAt ((w1.setCell ⟨g, 0, none⟩ x').setCell ⟨g, 1, none⟩ y') v z ∧ Below w.heap.size w ((w1.setCell ⟨g, 0, none⟩ x').setCell ⟨g, 1, none⟩ y') := by
  have hs : g < W.heap.size := by
    rcases Nat.lt_or_ge g W.heap.size with hlt | hge
    · exact hlt
    · rw [Array.getElem?_eq_none hge] at hg; cases hg
  have h1 : w1.heap[g]? = some (.cells #[x, y] 27 (0, 0)) := (hb.block g hs).trans hg
  have hne : (27 : TypeId) ≠ 38 := by decide
  refine ⟨(h.far h1 hne 0 x').far (block_setCell h1 0 x') hne 1 y', ?_⟩
  exact ((step_below hw hb).setCell (by simpa using hgw) _).setCell (by simpa using hgw) _

def sgn (neg : Bool) (n : Nat) : Int := if neg then -(n : Int) else n
theorem sgn_abs (neg : Bool) (n : Nat) : (sgn neg n).natAbs = n := by cases neg <;> simp [sgn]
theorem sgn_of (z : Int) : sgn (decide (z < 0)) z.natAbs = z := by
  by_cases h : z < 0
  · simp [sgn, h]; omega
  · simp [sgn, h]; omega
theorem sgn_zero (b : Bool) : sgn b 0 = 0 := by cases b <;> rfl
/-- An integer opened: the sign and the number of limbs under names of their own. -/
theorem IntAt.parts_ {w : World} {v : Value} {z : Int} (h : IntAt w v z) {n : Nat} {b : Bool} (hn : z.natAbs = n) (hb : decide (z < 0) = b) : ∃ (A : Option Addr) (c : Nat), v = .agg #[.bool b, .slice A (len n) c] ∧ Hid (NatAt w (.slice A (len n) c) n) := by
  subst hn hb
  obtain ⟨s, rfl, A, c, rfl, hc, hm⟩ := h
  exact ⟨A, c, rfl, ⟨A, c, rfl, hc, hm⟩⟩
theorem IntAt.back {w : World} {z : Int} {n : Nat} {b : Bool} {A : Option Addr} {c : Nat} (h : NatAt w (.slice A (len n) c) n) (hn : z.natAbs = n) (hb : decide (z < 0) = b) : IntAt w (.agg #[.bool b, .slice A (len n) c]) z := by
  subst hn hb
  exact ⟨_, rfl, h⟩
end Go.Proofs.YtjajmonhcnmidaaDoor
/- Walks: strconv.FormatUint at base 10. -/
namespace Go.Proofs.YtjajmonhcnmidaaDoor
open Go.RowKit Go.Sort Go.Lib

abbrev P10 (w : World) : Prop := Lib.TabIs Tryd.prog w "internal/strconv.uint64pow10" .u64 Lib.pow10Tab
theorem tab_below {w w' : World} (h : P10 w) (hb : Below w.heap.size w w') : P10 w' := by
  unfold P10 TabIs World.var? at *
  cases hg : Tryd.prog.globalNamed "internal/strconv.uint64pow10" with
  | none => simp [hg] at h
  | some g =>
    simp only [hg, Option.bind_some] at h ⊢
    have hlt : g < w.heap.size := by
      rcases Nat.lt_or_ge g w.heap.size with h' | h'
      · exact h'
      · rw [Array.getElem?_eq_none h'] at h; simp at h
    rw [hb.block g hlt]
    exact h
theorem holds24 (w : World) (T : TypeId) (nd : Nat) (hs : nd ≤ 24) : Holds (fun (b : UInt8) => Value.int .u8 (b.toNat : Int)) (w.alloc (.cells zeros24 T)) w.heap.size 0 (Array.replicate nd (0 : UInt8)) := fun j hj => by
  have hj' : j < nd := by simpa using hj
  refine ⟨?_, World.frozen?_alloc_new _ _ _ _⟩
  rw [World.cell?_alloc_new, zeros24_at _ (by omega), getElem!_pos _ j hj]
  simp
theorem below_putRow {w w1 : World} (h : Below w.heap.size w w1) (o : Nat) (dk : Array UInt8) (k : Nat) : Below w.heap.size w ((putRow (fun (b : UInt8) => Value.int .u8 (b.toNat : Int)) w1 w.heap.size o dk).drewN k) := by
  refine ⟨h.os, h.tape, h.output, ?_, fun i hi => ?_⟩
  · have := h.size
    simpa [putRow, mapBlock] using this
  · refine Eq.trans ?_ (h.block i hi)
    simp [putRow, mapBlock, Array.getElem?_modify, Nat.ne_of_gt hi]

set_option maxHeartbeats 3200000 in
set_option maxRecDepth 100000 in
theorem IFormatUint_any (u : Nat) (hu : u < 4294967296) (w : World) (htab : P10 w) :
    Calls Tryd.prog 77 #[.int .u64 u, .int .i64 10] w fun e w' => e = .returned (.string ⟨(Lib.decDigits u).toArray⟩) ∧ Below w.heap.size w w' := by
  by_cases hs : u < 100
  · have hd : decide ((u : Int) < 100) = true := by simp; omega
    go_enter Tryd.func77, Tryd.ntmps77
    go_wp2_with (go_at_call 89; refine (Tryd.internal_strconv_small u hs _).mono ?_; rintro e w' ⟨rfl, rfl⟩)
    go_ret
    exact ⟨rfl, Below.refl _ _⟩
  · have hd : decide ((u : Int) < 100) = false := by simp; omega
    have hu1 : 1 ≤ u := by omega
    have hu64 : u < 18446744073709551616 := by omega
    have hnd20 : Lib.nDigits u ≤ 20 := by have := Lib.numDigits_eq u hu1 hu64; split at this <;> omega
    have hal : Tryd.prog.arrayLen 101 = 24 := by kernel_rfl
    have hsl1 : ∀ W, (Instr.sliceAt 101 (.pointer (some ⟨w.heap.size, 0, none⟩)) none (some (.int .i64 (Lib.nDigits u : Int))) none).run Tryd.prog W = .ok (.slice (some ⟨w.heap.size, 0, none⟩) (Lib.nDigits u) 24) W := fun W => by
      rw [run_sliceAt_array_h W 101 ⟨w.heap.size, 0, none⟩ (by simp [Program.arrayLen, Program.elem, Tryd.underlying101]) .i64 (Lib.nDigits u : Int) (by omega) (by rw [hal]; omega), hal]
      have he : (sizeOf (Tryd.prog.elem 101)).run Tryd.prog W = .ok 1 W := by kernel_rfl
      rw [he]
      simp [Result.andThen, slicedAt, Lib.add_plain]
    have hH0 := holds24 w 101 (Lib.nDigits u) (by omega)
    have hfmt := Tryd.internal_strconv_formatBase10 w.heap.size 0 24 u (Array.replicate (Lib.nDigits u) 0) (w.alloc (.cells Lib.zeros24 101)) hH0 (by rw [Array.size_replicate]; exact Lib.lt_pow_nDigits u) hu64 (by rw [Array.size_replicate]; omega)
    rw [Array.size_replicate] at hfmt
    have HH0 := Lib.hid hH0
    have HFMT := Lib.hid hfmt
    clear hH0 hal hfmt
    go_enter Tryd.func77, Tryd.ntmps77
    go_wp2_with (go_at_call 90; refine (Tryd.internal_strconv_numDigits u hu1 hu64 _ (Lib.tabIs_alloc htab _)).mono ?_; rintro e w' ⟨rfl, rfl⟩)
    go_at_call 91
    refine HFMT.out.mono ?_
    rintro e w' ⟨rfl, k, v', dk, rfl, hF⟩
    have hcv : (convert 69 9 (.slice (some ⟨w.heap.size, 0, none⟩) (Lib.nDigits u) 24)).run Tryd.prog ((putRow (fun (b : UInt8) => Value.int .u8 (b.toNat : Int)) (w.alloc (.cells Lib.zeros24 101)) w.heap.size 0 dk).drewN k) = .ok (.string ⟨(Lib.decDigits u).toArray⟩) ((putRow (fun (b : UInt8) => Value.int .u8 (b.toNat : Int)) (w.alloc (.cells Lib.zeros24 101)) w.heap.size 0 dk).drewN k) := by
      have h := run_convert_bytes_back (P := Tryd.prog) ((putRow (fun (b : UInt8) => Value.int .u8 (b.toNat : Int)) (w.alloc (.cells Lib.zeros24 101)) w.heap.size 0 dk).drewN k) 69 9 5 ⟨w.heap.size, 0, none⟩ 24 (Lib.decDigits u) Tryd.underlying69 Tryd.underlying5 Tryd.underlying9 (fun j hj => by
        rw [Lib.row_is_numeral hF j hj, Lib.add_plain, World.cell?_drewN]
        exact cell?_putRow (fun (b : UInt8) => Value.int .u8 (b.toNat : Int)) _ w.heap.size 0 _ dk HH0.out (by rw [hF.size, Array.size_replicate]) j (by rw [hF.size]; rw [Lib.decDigits_length] at hj; exact hj))
      rw [Lib.decDigits_length] at h
      exact h
    go_wp2
    go_ret
    exact ⟨rfl, below_putRow (below_alloc w _) 0 dk k⟩

theorem FormatUint_any (u : Nat) (hu : u < 4294967296) (w : World) (htab : P10 w) :
    Calls Tryd.prog 60 #[.int .u64 u, .int .i64 10] w fun e w' => e = .returned (.string ⟨(Lib.decDigits u).toArray⟩) ∧ Below w.heap.size w w' := by
  go_enter Tryd.func60, Tryd.ntmps60
  go_wp2_with fail
  refine (IFormatUint_any u hu w htab).mono ?_
  rintro e w' ⟨rfl, hb⟩
  go_wp2
  go_ret
  exact ⟨rfl, hb⟩
end Go.Proofs.YtjajmonhcnmidaaDoor
/- What a row's conditions give a walk: the table of powers of ten, raw arguments as limbs, a start that fits, and the row's last step. -/
namespace Go.Proofs.YtjajmonhcnmidaaDoor
open Go.ChangeShapes Go.WideShapes Go.ChangeAt Go.RowKit Go.Joins

theorem ownN : ownKnob Tryd.prog.godebug = none := by kernel_rfl
theorem laidOutN : laidOutB Tryd.prog = true := by kernel_rfl
theorem gPow : Tryd.prog.globalNamed "internal/strconv.uint64pow10" = some 1 := by kernel_rfl
theorem gPowType : (Tryd.prog.globals[1]?).map (·.type) = some 106 := by kernel_rfl
theorem cellsU64 : Tryd.prog.cellsOf 49 = 1 := by kernel_rfl
theorem cellsPow : Tryd.prog.cellsOf 106 = 20 := by kernel_rfl
theorem cellsU32 : Tryd.prog.cellsOf 38 = 1 := by kernel_rfl
theorem bytesU32 : Tryd.prog.bytesOf 38 = 4 := by kernel_rfl
theorem cellsRaw : Tryd.prog.cellsOf 24 = 2 := by kernel_rfl

/-- The third of the listed variables is the table. -/
theorem p10_of_laid {W : World} (h : laidMet Tryd.prog Rows.integerValidRow.laid W) : P10 W := by
  obtain ⟨ps, ⟨_, _, _, _, _, q1, _, _, _, _, ⟨_, _, _, _, _, q2, _, _, _, _, ⟨g', t', cs, fuel, p, q3, hg', ht', hvar, hd, _, _⟩, _⟩, _⟩, _⟩ := h
  obtain rfl := Option.some.inj (gPow.symm.trans hg')
  obtain rfl := Option.some.inj (gPowType.symm.trans ht')
  have hd' : DataW.trod (fun _ => ()) Tryd.prog W 0 (fun _ => true) false fuel 106 cs.toList = some (Lib.tabData .u64 Lib.pow10Tab, p) := hd
  show W.var? Tryd.prog "internal/strconv.uint64pow10" = _
  rw [hvar, ← Lib.cells_of_tab Tryd.underlying106 Tryd.underlying49 cellsU64 cellsPow hd']

/-- The cells of a listed table. -/
def datumCells : DataW Unit → Array Value
  | .agg l => (l.map fun
    | .lit (.int k n) => Value.int k n
    | _ => Value.bool false).toArray
  | _ => #[]
/-- The settled world with the three tables laid. -/
noncomputable def laidWorld (os : Os) : World :=
  let w0 := World.holding Tryd.prog os ⟨#[], #[], []⟩
  let put (h : Array Obj) (g : Nat) (cs : Array Value) : Array Obj := h.modify g fun
    | .cells _ t frozen => .cells cs t frozen
    | o => o
  { w0 with heap := put (put (put w0.heap 2 (datumCells Rows.laid_math_bits_deBruijn32tab)) 3 (datumCells Rows.laid_math_bits_deBruijn64tab)) 1 (datumCells Rows.laid_internal_strconv_uint64pow10) }
theorem laid_met (os : Os) (args : Array Value) : laidMet Tryd.prog Rows.integerValidRow.laid ((laidWorld os).forCall (fun _ _ => 0) ⟨#[], args, []⟩).memory :=
  laidMet_of_run3 10 (by kernel_rfl) (by kernel_rfl) (by kernel_rfl)

set_option maxRecDepth 100000 in
/-- A raw argument: a slice of limbs and a sign. -/
theorem raw_open {H : Type} {enc : TypeId × Value → H} {W : World} {base : Nat} {v : Value} {d : DataW H} {p : List MemPlace}
    (hval : Value.okWide Tryd.prog W .any base 24 v) (h : DataW.Trod enc Tryd.prog W 0 (fun _ => true) true 24 v d p) (hw : ∀ n ∈ d.weights Tryd.prog 24, n ≤ reachBytes) :
    ∃ (A : Option Addr) (k c : Nat) (b : Bool) (ms : List Nat), v = .agg #[.slice A k c, .bool b] ∧ ms.length = k ∧ k ≤ 2305843009213693952 ∧ k ≤ c ∧ L32 ms ∧ RawMem W W.heap.size A ms ∧ (A = none → c = 0) := by
  obtain ⟨c0, c1, y0, y1, m, rfl, rfl, rfl, hy0, hy1⟩ := open_agg2 Tryd.underlying24 (by kernel_rfl) cellsRaw hval h
  obtain ⟨b, h1, _⟩ := DataW.trod_bool Tryd.underlying4 hy1
  simp only [List.cons.injEq, and_true] at h1
  subst h1
  rcases open_ints Tryd.underlying22 Tryd.underlying38 cellsU32 hy0 with ⟨hcs, _⟩ | ⟨a, len, cap, zs, hcs, _, hl, hm, hz, hx0, hcell, hwz⟩
  · simp only [List.cons.injEq, and_true] at hcs
    subst hcs
    exact ⟨none, 0, 0, b, [], rfl, rfl, Nat.zero_le _, Nat.le_refl _, L32.nil_, fun h => absurd h (by simp), fun _ => rfl⟩
  · simp only [List.cons.injEq, and_true] at hcs
    subst hcs
    have hlz : len ≤ zs.length := by rw [hz]; split <;> omega
    have hlm : len ≤ 2305843009213693952 := by
      have := hw (zs.length * 4) (by
        rw [hx0]
        simp [DataW.weights, DataW.weightsEach, Tryd.underlying24, Tryd.underlying22, bytesU32, lits, ← Nat.add_mul]
        left
        omega)
      have e : reachBytes = 140737488351232 := by kernel_rfl
      omega
    have hwf : ∀ n ∈ zs, 0 ≤ n ∧ n < 4294967296 := fun n hn => by
      have := hwz n hn
      simp [Lit.wf, IntKind.min, IntKind.max, IntKind.signed, IntKind.bits, go_sem] at this
      omega
    refine ⟨some a, len, cap, b, (zs.take len).map Int.toNat, rfl, by simp; omega, by omega, hl, fun x hx => ?_, fun hn => ?_, fun h => by cases h⟩
    · obtain ⟨n, hn, rfl⟩ := List.mem_map.1 hx
      have := hwf n (List.mem_of_mem_take hn)
      omega
    · have h0 : 0 < zs.length := by simp at hn; omega
      have hc0 := hcell 0 h0
      have hb := World.block_lt_of_cell? _ _ hc0
      rw [block_of_add'] at hb
      refine ⟨a, rfl, hb, fun j x hx => ?_⟩
      rw [List.getElem?_map, List.getElem?_take] at hx
      split at hx
      · rename_i hj
        have hj2 : j < zs.length := by omega
        rw [hcell j hj2]
        rw [List.getElem?_eq_getElem hj2] at hx
        simp only [Option.map_some, Option.some.injEq] at hx
        have hw := hwf _ (List.getElem_mem hj2)
        have e : zs.getD j 0 = zs[j] := by simp [List.getD, hj2]
        rw [e, ← hx, Int.toNat_of_nonneg hw.1]
      · simp at hx

/-- THE LAST STEP: the law has answered true and left all that was there as it was. -/
theorem law_post {H : Type} {enc : TypeId × Value → H} {f : Func} {s : ChangeSpec} {W W' : World} {args : Array Value} {v : Value} {ds gs : List (DataW H)} {before : List MemPlace}
    (hW : DataW.Whole enc Tryd.prog f.params.toList s.vars false W args.toList ds gs before) (hb : Below W.heap.size W W')
    (hres : DataW.TrodAll enc Tryd.prog W' W.heap.size (fun _ => false) false f.resultTypes.toList (v.resultList f.resultTypes.size) (s.fn H (ds ++ gs)).results [])
    (hargs : DataW.TrodAll enc Tryd.prog W' 0 (fun b => decide (b < W.heap.size)) true f.params.toList args.toList (s.fn H (ds ++ gs)).args before)
    (hvars : DataW.TrodVars enc Tryd.prog W' (fun b => decide (b < W.heap.size)) s.vars (s.fn H (ds ++ gs)).vars []) : s.post enc Tryd.prog f false true false false W args v W' :=
  ⟨ds, gs, before, [], before, [], hW, hres, hargs, hvars, World.keptBut_mono (fun p hp => ⟨hp, .inr (.inl hp)⟩) (hb.frame (· ∈ before)), fun h => by cases h⟩
end Go.Proofs.YtjajmonhcnmidaaDoor
/- Walks of the smallest functions on limbs. -/
namespace Go.Proofs.YtjajmonhcnmidaaDoor
open Go.RowKit

theorem order_any (b : Bool) (w : World) : Calls Tryd.prog 66 #[.bool b] w fun e w' => e = .returned (.int .i64 (if b then -1 else 1)) ∧ w = w' := by
  cases b
  all_goals
    go_enter Tryd.func66, Tryd.ntmps66
    go_wp2
    go_ret
    exact ⟨rfl, rfl⟩

set_option maxHeartbeats 400000 in
theorem limb_any (A : Option Addr) (c : Nat) (ms : List Nat) (i : Nat) (w : World) (hm : Mem w w.heap.size A ms) (hl : ms.length ≤ 4398046511104) (hi : i ≤ 4398046511104) :
    Calls Tryd.prog 65 #[.slice A ms.length c, .int .i64 i] w fun e w' => e = .returned (.int .u32 ((ms.getD i 0 : Nat) : Int)) ∧ w = w' := by
  by_cases hlt : i < ms.length
  · obtain ⟨ad, rfl, _, hc⟩ := hm.at_ hlt
    have hg : ms.getD i 0 = ms[i] := by simp [List.getD, List.getElem?_eq_getElem hlt]
    have HG := Lib.hid hg
    clear hg
    go_enter Tryd.func65, Tryd.ntmps65
    go_wp2
    go_ret
    rw [HG.out]
    exact ⟨rfl, rfl⟩
  · have hg : ms.getD i 0 = 0 := by simp [List.getD, List.getElem?_eq_none (by omega : ms.length ≤ i)]
    have HG := Lib.hid hg
    clear hg
    go_enter Tryd.func65, Tryd.ntmps65
    go_wp2
    go_ret
    rw [HG.out]
    exact ⟨rfl, rfl⟩
theorem limb_is (A : Option Addr) (n c : Nat) (ms : List Nat) (i : Int) (x : Nat) (w : World) (hn : ms.length = n) (hm : Mem w w.heap.size A ms) (hl : n ≤ 4398046511104) (h0 : 0 ≤ i) (hi : i ≤ 4398046511104) (hx : ms.getD i.toNat 0 = x) :
    Calls Tryd.prog 65 #[.slice A n c, .int .i64 i] w fun e w' => e = .returned (.int .u32 (x : Int)) ∧ w = w' := by
  subst hn hx
  obtain ⟨k, rfl⟩ := Int.eq_ofNat_of_zero_le h0
  exact limb_any A c ms k w hm hl (by omega)
end Go.Proofs.YtjajmonhcnmidaaDoor
namespace Go.Proofs.YtjajmonhcnmidaaDoor
open Go.RowKit

theorem len_val_eq {ms : List Nat} (h : L32 ms) {k : Nat} (hk : k ≤ ms.length) (h0 : ∀ i, k ≤ i → ms.getD i 0 = 0) (h1 : k = 0 ∨ ms.getD (k - 1) 0 ≠ 0) : len (val ms) = k := by
  obtain ⟨e1, e2, e3⟩ := limbs_val h
  rcases Nat.lt_trichotomy (len (val ms)) k with h2 | h2 | h2
  · rcases h1 with h1 | h1
    · omega
    · exact absurd (e3 (k - 1) (by omega)) h1
  · exact h2
  · have hp : 0 < val ms := by
      rcases Nat.eq_zero_or_pos (val ms) with h | h
      · rw [h, len_zero] at h2; omega
      · exact h
    have := limbs_last hp
    rw [e1] at this
    rw [List.getD, List.getElem?_take, if_pos (by omega)] at this
    exact absurd (h0 (len (val ms) - 1) (by omega)) this

set_option maxHeartbeats 400000 in
theorem trim_any (A : Option Addr) (c : Nat) (ms : List Nat) (w : World) (hm : Mem w w.heap.size A ms) (hl : ms.length ≤ 4398046511104) (hc : ms.length ≤ c) (h32 : L32 ms) :
    Calls Tryd.prog 62 #[.slice A ms.length c] w fun e w' => e = .returned (.slice A (len (val ms)) c) ∧ w = w' := by
  go_enter Tryd.func62, Tryd.ntmps62
  go_wp2
  go_step3
  go_wp2
  go_step3
  go_wp2
  go_loop [3] (fun n => ∃ k : Nat, k ≤ ms.length ∧ n = .int .i64 k ∧ ∀ i, k ≤ i → ms.getD i 0 = 0) (fun n => (intOf n).toNat)
  case atStart => exact ⟨ms.length, Nat.le_refl _, rfl, fun i hi => by simp [List.getD, List.getElem?_eq_none hi]⟩
  case round =>
    obtain ⟨k, hk, rfl, h0⟩ := hrel
    by_cases hk0 : 0 < k
    · obtain ⟨ad, rfl, _, hcell⟩ := hm.at_ (show k - 1 < ms.length by omega)
      have hcast : ((k - 1 : Nat) : Int) = (k : Int) - 1 := by omega
      have H0 := Lib.hid h0
      have HC := Lib.hid hcast
      clear h0 hcast
      have hg : ms.getD (k - 1) 0 = ms[k-1] := by simp [List.getD, List.getElem?_eq_getElem (show k - 1 < ms.length by omega)]
      have HG := Lib.hid hg
      clear hg
      by_cases hz : ms[k-1] = 0
      · go_wp2
        go_round
        case rel =>
          refine ⟨k - 1, by omega, by rw [HC.out], fun i hi => ?_⟩
          rcases Nat.lt_or_ge i k with h | h
          · have : i = k - 1 := by omega
            rw [this, HG.out, hz]
          · exact H0.out i h
        case measure => simp [intOf]; omega
      · go_wp2
        go_ret
        have hk' : len (val ms) = k := len_val_eq h32 hk H0.out (.inr (by rw [HG.out]; exact hz))
        rw [hk']
        exact ⟨rfl, rfl⟩
    · have hk' : k = 0 := by omega
      subst hk'
      have hv := len_val_eq h32 hk h0 (.inl rfl)
      have HV := Lib.hid hv
      clear hv
      go_wp2
      go_ret
      rw [HV.out]
      exact ⟨rfl, rfl⟩
end Go.Proofs.YtjajmonhcnmidaaDoor
namespace Go.Proofs.YtjajmonhcnmidaaDoor
open Go.RowKit

theorem trim_k (A : Option Addr) (n c : Nat) (ms : List Nat) (w : World) (hn : ms.length = n) (hm : Mem w w.heap.size A ms) (hl : n ≤ 4398046511104) (hc : n ≤ c) (h32 : L32 ms) :
    Calls Tryd.prog 62 #[.slice A n c] w fun e w' => e = .returned (.slice A (len (val ms)) c) ∧ w = w' := by
  subst hn; exact trim_any A c ms w hm hl hc h32
/-- trim on a slice that is already without zeros at its end -/
theorem trim_nat (A : Option Addr) (c n : Nat) (w : World) (hm : Mem w w.heap.size A (limbs n)) (hl : len n ≤ 4398046511104) (hc : len n ≤ c) :
    Calls Tryd.prog 62 #[.slice A (len n) c] w fun e w' => e = .returned (.slice A (len n) c) ∧ w = w' := by
  have := trim_k A (len n) c (limbs n) w rfl hm hl hc (limbs_32 n)
  rwa [val_limbs] at this

theorem two_mem (n : Nat) (w : World) : Mem (w.alloc (.cells #[.int .u32 ((n : Int) % 4294967296), .int .u32 ((n : Int) / 4294967296)] 38)) (w.heap.size + 1) (some ⟨w.heap.size, 0, none⟩) [n % 4294967296, n / 4294967296] := by
  have h := (Row.new w [n % 4294967296, n / 4294967296]).mem (B := w.heap.size + 1) (by omega)
  exact h

set_option maxHeartbeats 400000 in
theorem fromWord_any (n : Nat) (w : World) (hn : n < 18446744073709551616) :
    Calls Tryd.prog 53 #[.int .u64 n] w (GivesNat n w) := by
  have hm := two_mem n w
  have h32 : L32 [n % 4294967296, n / 4294967296] := L32.mk (by omega) (L32.mk (by omega) L32.nil_)
  have hv : val [n % 4294967296, n / 4294967296] = n := by simp only [val]; omega
  obtain ⟨l1, l2, _⟩ := limbs_val h32
  rw [hv] at l1 l2
  have HV := Lib.hid hv
  have HL := Lib.hid l1
  clear hv l1
  go_enter Tryd.func53, Tryd.ntmps53
  go_wp2_with fail
  refine (trim_k _ 2 2 [n % 4294967296, n / 4294967296] _ rfl (by simpa using hm) (by omega) (by omega) h32).mono ?_
  rintro e w' ⟨rfl, rfl⟩
  rw [HV.out]
  go_wp2
  go_ret
  refine ⟨_, rfl, ⟨_, _, rfl, l2, ?_⟩, (Below.refl _ _).alloc (Nat.le_refl _) _⟩
  have := hm.take (len n)
  rw [← HL.out] at this
  simpa using this

theorem val_split (ms : List Nat) (k : Nat) (hk : k ≤ ms.length) : val ms = val (ms.take k) + 4294967296 ^ k * val (ms.drop k) := by
  have := val_append (ms.take k) (ms.drop k)
  rw [List.take_append_drop, List.length_take, Nat.min_eq_left hk] at this
  exact this
theorem drop_eq_of {xs ys : List Nat} (hl : xs.length = ys.length) (k : Nat) (h : ∀ i, k ≤ i → xs.getD i 0 = ys.getD i 0) : xs.drop k = ys.drop k := by
  apply List.ext_getElem
  · simp [hl]
  · intro i h1 h2
    have := h (k + i) (by omega)
    rw [List.length_drop] at h1 h2
    simpa [List.getD, List.getElem?_eq_getElem (show k + i < xs.length by omega), List.getElem?_eq_getElem (show k + i < ys.length by omega)] using this
theorem val_lt_of {xs ys : List Nat} (ha : L32 xs) (hb : L32 ys) (hl : xs.length = ys.length) (k : Nat) (hk : k < xs.length) (h : ∀ i, k + 1 ≤ i → xs.getD i 0 = ys.getD i 0)
    (hlt : xs.getD k 0 < ys.getD k 0) : val xs < val ys := by
  rw [val_split xs (k + 1) (by omega), val_split ys (k + 1) (by omega), drop_eq_of hl (k + 1) h, val_take_succ, val_take_succ]
  have h1 := val_lt (ha.take k)
  rw [List.length_take, Nat.min_eq_left (by omega)] at h1
  have h2 : 4294967296 ^ k * xs.getD k 0 + 4294967296 ^ k ≤ 4294967296 ^ k * ys.getD k 0 := by
    rw [← Nat.mul_succ]; exact Nat.mul_le_mul_left _ hlt
  omega
theorem order_q (b : Bool) (w : World) : Calls Tryd.prog 66 #[.bool b] w fun e w' => e = .returned (.int .i64 (if b then -1 else 1)) ∧ ∃ m, w' = w.drewN m := (order_any b w).mono fun _ _ ⟨he, hw⟩ => ⟨he, 0, hw ▸ rfl⟩
theorem getD_of_lt {ms : List Nat} {k : Nat} (h : k < ms.length) : ms.getD k 0 = ms[k] := by simp [List.getD, List.getElem?_eq_getElem h]

def cmpN (x y : Nat) : Int := if x < y then -1 else if x = y then 0 else 1
theorem cmpN_lt {x y : Nat} (h : x < y) : cmpN x y = -1 := by simp [cmpN, h]
theorem cmpN_eq {x y : Nat} (h : x = y) : cmpN x y = 0 := by simp [cmpN, h]
theorem cmpN_gt {x y : Nat} (h : y < x) : cmpN x y = 1 := by unfold cmpN; rw [if_neg (by omega), if_neg (by omega)]

set_option maxHeartbeats 800000 in
theorem compare_any (A B : Option Addr) (c d x y : Nat) (w : World) (ha : Mem w w.heap.size A (limbs x)) (hb : Mem w w.heap.size B (limbs y)) (hx : len x ≤ 1099511627776) (hy : len y ≤ 1099511627776) :
    Calls Tryd.prog 47 #[.slice A (len x) c, .slice B (len y) d] w fun e w' => e = .returned (.int .i64 (cmpN x y)) ∧ ∃ k, w.drewN k = w' := by
  by_cases hl : len x = len y
  · go_enter Tryd.func47, Tryd.ntmps47
    have hne : ((len x : Int) != (len y : Int)) = false := by simp [hl]
    have HL := Lib.hid hl
    clear hl
    go_wp2_with fail
    go_loopw [5] (fun i wr => ∃ k : Nat, k ≤ len x ∧ i = .int .i64 ((k : Int) - 1) ∧ (∀ j, k ≤ j → (limbs x).getD j 0 = (limbs y).getD j 0) ∧ ∃ n, w.drewN n = wr) (fun i _ => (intOf i + 1).toNat)
    case atStart => exact ⟨len x, Nat.le_refl _, rfl, fun j hj => by simp [List.getD, List.getElem?_eq_none (show (limbs x).length ≤ j from hj), List.getElem?_eq_none (show (limbs y).length ≤ j from by rw [len_limbs, ← HL.out]; exact hj)], 0, rfl⟩
    case round =>
      obtain ⟨k, hk, rfl, heq, n, rfl⟩ := hrel
      by_cases hk0 : 0 < k
      · obtain ⟨ad, rfl, _, hca⟩ := ha.at_ (show k - 1 < (limbs x).length by rw [len_limbs]; omega)
        obtain ⟨bd, rfl, _, hcb⟩ := hb.at_ (show k - 1 < (limbs y).length by rw [len_limbs, ← HL.out]; omega)
        have h1 : (0 : Int) ≤ (k : Int) - 1 := by omega
        have h2 : (k : Int) - 1 < (len x : Int) := by omega
        have h3 : (k : Int) - 1 < (len y : Int) := by rw [← HL.out]; omega
        have hcast : (k : Int) - 1 - 1 = ((k - 1 : Nat) : Int) - 1 := by omega
        have HC := Lib.hid hcast
        have HEQ := Lib.hid heq
        have hgx := getD_of_lt (show k - 1 < (limbs x).length by rw [len_limbs]; omega)
        have hgy := getD_of_lt (show k - 1 < (limbs y).length by rw [len_limbs, ← HL.out]; omega)
        generalize (limbs x)[k - 1]'(by rw [len_limbs]; omega) = p at *
        generalize (limbs y)[k - 1]'(by rw [len_limbs, ← HL.out]; omega) = q at *
        have HX := Lib.hid hgx
        have HY := Lib.hid hgy
        clear hcast heq hgx hgy
        rcases Nat.lt_trichotomy p q with hpq | hpq | hpq
        · have ht : ((p : Int) != (q : Int)) = true := by simp; omega
          have ht2 : decide (p < q) = true := by simp; omega
          go_wp2_with fail
          go_quiet (fail)
          generalize hw1 : (w.drewN n).drewN nq = w1
          have hca1 : w1.cell? (ad.add (k - 1)) = some (Value.int IntKind.u32 (p : Int)) := by rw [← hw1]; exact hca
          have hcb1 : w1.cell? (bd.add (k - 1)) = some (Value.int IntKind.u32 (q : Int)) := by rw [← hw1]; exact hcb
          have HW := Lib.hid hw1
          clear hw1 hca hcb
          go_wp2_with fail
          go_quiet ((go_at_call 66; exact Calls.quiet_of (order_q _ _)))
          go_wp2
          go_ret
          have hv := val_lt_of (limbs_32 x) (limbs_32 y) HL.out (k - 1) (by rw [len_limbs]; omega) (fun i hi => HEQ.out i (by omega)) (by rw [HX.out, HY.out]; exact hpq)
          rw [val_limbs, val_limbs] at hv
          rw [cmpN_lt hv, ← HW.out]
          simp [hpq, World.drewN_drewN]
        · subst hpq
          have ht : ((p : Int) != (p : Int)) = false := by simp
          go_wp2_with fail
          go_quiet (fail)
          go_wp2
          go_roundw
          case rel =>
            refine ⟨k - 1, by omega, by rw [HC.out], fun j hj => ?_, n + nq, rfl⟩
            rcases Nat.lt_or_ge j k with h | h
            · have : j = k - 1 := by omega
              rw [this, HX.out, HY.out]
            · exact HEQ.out j h
          case measure => simp [intOf]; omega
        · have ht : ((p : Int) != (q : Int)) = true := by simp; omega
          have ht2 : decide (p < q) = false := by simp; omega
          go_wp2_with fail
          go_quiet (fail)
          generalize hw1 : (w.drewN n).drewN nq = w1
          have hca1 : w1.cell? (ad.add (k - 1)) = some (Value.int IntKind.u32 (p : Int)) := by rw [← hw1]; exact hca
          have hcb1 : w1.cell? (bd.add (k - 1)) = some (Value.int IntKind.u32 (q : Int)) := by rw [← hw1]; exact hcb
          have HW := Lib.hid hw1
          clear hw1 hca hcb
          go_wp2_with fail
          go_quiet ((go_at_call 66; exact Calls.quiet_of (order_q _ _)))
          go_wp2
          go_ret
          have hv := val_lt_of (limbs_32 y) (limbs_32 x) HL.out.symm (k - 1) (by rw [len_limbs, ← HL.out]; omega) (fun i hi => (HEQ.out i (by omega)).symm) (by rw [HX.out, HY.out]; exact hpq)
          rw [val_limbs, val_limbs] at hv
          rw [cmpN_gt hv, ← HW.out]
          simp [Nat.not_lt_of_gt hpq, World.drewN_drewN]
      · have hk' : k = 0 := by omega
        subst hk'
        have HEQ := Lib.hid heq
        clear heq
        go_wp2
        go_ret
        have e : limbs x = limbs y := by
          have := drop_eq_of (show (limbs x).length = (limbs y).length from HL.out) 0 HEQ.out
          simpa using this
        rw [cmpN_eq (limbs_inj e)]
        exact ⟨rfl, n, rfl⟩
  · rcases Nat.lt_or_gt_of_ne hl with h | h
    · have hne : ((len x : Int) != (len y : Int)) = true := by simp; omega
      have hlt : decide (len x < len y) = true := by simp; omega
      have hv := cmpN_lt (len_lt_lt h)
      have HV := Lib.hid hv
      clear hv hl
      go_enter Tryd.func47, Tryd.ntmps47
      go_wp2_with (go_at_call 66; refine (order_any _ _).mono ?_; rintro e w' ⟨rfl, rfl⟩)
      go_ret
      rw [HV.out]
      exact ⟨rfl, 0, rfl⟩
    · have hne : ((len x : Int) != (len y : Int)) = true := by simp; omega
      have hlt : decide (len x < len y) = false := by simp; omega
      have hv := cmpN_gt (len_lt_lt h)
      have HV := Lib.hid hv
      clear hv hl
      go_enter Tryd.func47, Tryd.ntmps47
      go_wp2_with (go_at_call 66; refine (order_any _ _).mono ?_; rintro e w' ⟨rfl, rfl⟩)
      go_ret
      rw [HV.out]
      exact ⟨rfl, 0, rfl⟩
end Go.Proofs.YtjajmonhcnmidaaDoor
/- Walks: build, parts, toWord, and the small functions on integers. -/
namespace Go.Proofs.YtjajmonhcnmidaaDoor
open Go.RowKit

set_option maxHeartbeats 400000 in
theorem build_raw (neg : Bool) (A : Option Addr) (n c : Nat) (ms : List Nat) (w : World) (hn : ms.length = n) (hm : Mem w w.heap.size A ms) (hl : n ≤ 4398046511104) (hc : n ≤ c) (h32 : L32 ms) :
    Calls Tryd.prog 45 #[.bool neg, .slice A n c] w (GivesInt (sgn neg (val ms)) w) := by
  obtain ⟨l1, l2, _⟩ := limbs_val h32
  have HN := Lib.hid hn
  have HL := Lib.hid l1
  clear hn l1
  by_cases h0 : val ms = 0
  · have e0 : len (val ms) = 0 := by rw [h0, len_zero]
    have HE := Lib.hid e0
    have H0 := Lib.hid h0
    clear e0 h0
    go_enter Tryd.func45, Tryd.ntmps45
    go_wp2_with fail
    refine (trim_k A n c ms _ HN.out (hm.into (below_alloc _ _)) hl hc h32).mono ?_
    rintro e w' ⟨rfl, rfl⟩
    rw [HE.out]
    go_wp2
    refine bodyPost_ret (v := .agg #[.bool false, .slice none 0 0]) (by simp [results, Tryd.results45, go_sem]) rfl ⟨_, rfl, ?_, ?_⟩
    · rw [H0.out, sgn_zero]; exact IntAt.zero _ _ _
    · first | exact below_alloc _ _ | exact (below_alloc _ _).setCell (by simp) _
  · have e0 : ((len (val ms) : Int) == 0) = false := by
      have : len (val ms) ≠ 0 := fun h => h0 (len_eq_zero.1 h)
      simp; omega
    go_enter Tryd.func45, Tryd.ntmps45
    go_wp2_with fail
    refine (trim_k A n c ms _ HN.out (hm.into (below_alloc _ _)) hl hc h32).mono ?_
    rintro e w' ⟨rfl, rfl⟩
    go_wp2
    refine bodyPost_ret (v := .agg #[.bool neg, .slice A (len (val ms)) c]) (by simp [results, Tryd.results45, go_sem]) rfl ⟨_, rfl, ?_, ?_⟩
    · refine IntAt.mk ⟨A, c, rfl, by have := HN.out; omega, ?_⟩ (fun h => absurd h h0)
      rw [HL.out]
      exact (hm.into (below_alloc _ _)).take _
    · first | exact below_alloc _ _ | exact (below_alloc _ _).setCell (by simp) _

theorem build_any (neg : Bool) (v : Value) (x : Nat) (w : World) (h : NatAt w v x) (hl : len x ≤ 4398046511104) :
    Calls Tryd.prog 45 #[.bool neg, v] w (GivesInt (sgn neg x) w) := by
  obtain ⟨A, c, rfl, hc, hm⟩ := h
  have := build_raw neg A (len x) c (limbs x) w rfl hm hl hc (limbs_32 x)
  rwa [val_limbs] at this

/-- What parts gives of a valid integer. -/
def GivesParts (z : Int) (w : World) (e : Ending) (w' : World) : Prop := ∃ A c, e = .returned (.tuple #[.bool (decide (z < 0)), .slice A (len z.natAbs) c]) ∧ len z.natAbs ≤ c ∧ Mem w' w'.heap.size A (limbs z.natAbs) ∧ Below w.heap.size w w'

set_option maxHeartbeats 400000 in
theorem parts_any (v : Value) (z : Int) (w : World) (h : IntAt w v z) (hl : len z.natAbs ≤ 4398046511104) :
    Calls Tryd.prog 43 #[v] w (GivesParts z w) := by
  obtain ⟨s, rfl, A, c, rfl, hc, hm⟩ := h
  by_cases hz : z < 0
  · have hd : decide (z < 0) = true := by simpa using hz
    have hp : decide (0 < len z.natAbs) = true := by
      have : len z.natAbs ≠ 0 := fun h => by have := len_eq_zero.1 h; omega
      simp; omega
    have HD := Lib.hid hd
    clear hd
    rw [HD.out]
    go_enter Tryd.func43, Tryd.ntmps43
    go_wp2_with fail
    refine (trim_nat A c _ _ (hm.into (below_alloc _ _)) hl hc).mono ?_
    rintro e w' ⟨rfl, rfl⟩
    go_wp2
    go_ret2
    refine ⟨A, c, by rw [HD.out]; rfl, hc, hm.into (below_alloc _ _), below_alloc _ _⟩
  · have hd : decide (z < 0) = false := by simpa using hz
    have HD := Lib.hid hd
    clear hd
    rw [HD.out]
    go_enter Tryd.func43, Tryd.ntmps43
    go_wp2_with fail
    refine (trim_nat A c _ _ (hm.into (below_alloc _ _)) hl hc).mono ?_
    rintro e w' ⟨rfl, rfl⟩
    go_wp2
    go_ret2
    refine ⟨A, c, by rw [HD.out]; rfl, hc, hm.into (below_alloc _ _), below_alloc _ _⟩
theorem parts_is (v : Value) (z : Int) (n : Nat) (b : Bool) (w : World) (h : IntAt w v z) (hn : z.natAbs = n) (hb : decide (z < 0) = b) (hl : len n ≤ 4398046511104) :
    Calls Tryd.prog 43 #[v] w fun e w' => ∃ A c, e = .returned (.tuple #[.bool b, .slice A (len n) c]) ∧ Hid (NatAt w' (.slice A (len n) c) n) ∧ Below w.heap.size w w' := by
  subst hn hb
  exact (parts_any v z w h hl).mono fun e w' ⟨A, c, he, hc, hm, hb⟩ => ⟨A, c, he, ⟨A, c, rfl, hc, hm⟩, hb⟩
end Go.Proofs.YtjajmonhcnmidaaDoor
/- Walks: the small functions on integers. -/
namespace Go.Proofs.YtjajmonhcnmidaaDoor
open Go.RowKit

theorem val2 (ms : List Nat) (h : ms.length ≤ 2) : val ms = ms.getD 0 0 + 4294967296 * ms.getD 1 0 := by
  match ms, h with
  | [], _ => rfl
  | [a], _ => simp [val]
  | [a, b], _ => simp [val]

theorem shl_or (a b : Nat) (hb : b < 4294967296) : (a * 4294967296) ||| b = a * 4294967296 + b := by
  have := Nat.two_pow_add_eq_or_of_lt (i := 32) (b := b) (by simpa using hb) a
  have e : (2 : Nat) ^ 32 = 4294967296 := by decide
  rw [e] at this
  rw [Nat.mul_comm, ← this]
theorem ofInt_u64 (a : Nat) (ha : a < 18446744073709551616) : (BitVec.ofInt 64 (a : Int)).toNat = a := by
  rw [BitVec.ofInt_natCast, BitVec.toNat_ofNat]; exact Nat.mod_eq_of_lt (by omega)
theorem u64_or_nat (a b : Nat) (ha : a < 18446744073709551616) (hb : b < 18446744073709551616) : bits .or .u64 (a : Int) (b : Int) = ((a ||| b : Nat) : Int) := by
  have hx : a ||| b < 2 ^ 64 := Nat.or_lt_two_pow (by omega) (by omega)
  show IntKind.u64.wrap ((BitVec.ofInt 64 (a : Int) ||| BitVec.ofInt 64 (b : Int)).toNat : Int) = _
  rw [BitVec.toNat_or, ofInt_u64 a ha, ofInt_u64 b hb, IntKind.wrap_u64]
  omega
theorem wrap_u64_nat (a : Nat) (h : a < 18446744073709551616) : IntKind.u64.wrap (a : Int) = (a : Int) := by rw [IntKind.wrap_u64]; omega
/-- high<<32 | low -/
theorem word_of (p q : Nat) (hp : p < 4294967296) (hq : q < 4294967296) : bits .or .u64 (IntKind.u64.wrap (IntKind.u64.wrap (p : Int) * 4294967296)) (IntKind.u64.wrap (q : Int)) = ((q + 4294967296 * p : Nat) : Int) := by
  rw [wrap_u64_nat p (by omega), wrap_u64_nat q (by omega)]
  have e : (p : Int) * 4294967296 = ((p * 4294967296 : Nat) : Int) := by omega
  rw [e, wrap_u64_nat _ (by omega), u64_or_nat _ _ (by omega) (by omega), shl_or _ _ hq]
  omega

set_option maxHeartbeats 400000 in
theorem toWord_any (A : Option Addr) (c x : Nat) (w : World) (hm : Mem w w.heap.size A (limbs x)) (hx : x < 18446744073709551616) :
    Calls Tryd.prog 44 #[.slice A (len x) c] w fun e w' => e = .returned (.int .u64 x) ∧ w = w' := by
  have hl : len x ≤ 2 := len_le_two hx
  have hv := val2 (limbs x) hl
  rw [val_limbs] at hv
  have b0 := (limbs_32 x).at_ 0
  have b1 := (limbs_32 x).at_ 1
  obtain ⟨p, hp⟩ : ∃ p, (limbs x).getD 0 0 = p := ⟨_, rfl⟩
  obtain ⟨q, hq⟩ : ∃ p, (limbs x).getD 1 0 = p := ⟨_, rfl⟩
  rw [hp] at b0 hv
  rw [hq] at b1 hv
  have HV := Lib.hid hv
  have HP := Lib.hid hp
  have HQ := Lib.hid hq
  have hw := Lib.hid (word_of q p b1 b0)
  clear hv hp hq
  go_enter Tryd.func44, Tryd.ntmps44
  go_wp2_with fail
  refine (limb_is A (len x) c (limbs x) 1 q w rfl hm (by omega) (by omega) (by omega) HQ.out).mono ?_
  rintro e w' ⟨rfl, rfl⟩
  go_wp2_with fail
  refine (limb_is A (len x) c (limbs x) 0 p w rfl hm (by omega) (by omega) (by omega) HP.out).mono ?_
  rintro e w' ⟨rfl, rfl⟩
  go_wp2
  go_ret
  have := hw.out
  rw [wrap_u64_nat p (by omega), wrap_u64_nat q (by omega), show (q : Int) * 4294967296 = ((q * 4294967296 : Nat) : Int) from by omega, wrap_u64_nat _ (by omega)] at this
  simp only [Int.natCast_mul] at this
  rw [HV.out, ← this]
  exact ⟨rfl, rfl⟩

set_option maxHeartbeats 400000 in
theorem Of_nonneg (n : Nat) (w : World) (hn : n < 9223372036854775808) :
    Calls Tryd.prog 30 #[.int .i64 n] w (GivesInt n w) := by
  have h0 : decide ((n : Int) < 0) = false := by simp
  have hl : len n ≤ 2 := len_le_two (by omega)
  go_enter Tryd.func30, Tryd.ntmps30
  go_wp2_with fail
  refine (fromWord_any n _ (by omega)).mono ?_
  rintro e w1 ⟨v, rfl, hv, hb⟩
  go_wp2_with fail
  refine (build_any false v n _ hv (by omega)).mono ?_
  rintro e w2 ⟨v2, rfl, hv2, hb2⟩
  obtain ⟨b, A, k, c, rfl, H⟩ := hv2.open_
  have hB := step_below hb hb2
  obtain ⟨hc0, hc1, hf0, hf1, hs⟩ := box2 hB
  have HE := Lib.hid (box2_end (x' := .bool b) (y' := .slice A k c) hB H.out)
  clear hB
  go_wp2
  refine bodyPost_ret (v := .agg #[.bool b, .slice A k c]) (by simp [results, Tryd.results30, go_sem, hs, hc0, hc1]) rfl ⟨_, rfl, HE.out.1, HE.out.2⟩

end Go.Proofs.YtjajmonhcnmidaaDoor
/- What the loops of 'sum' keep: plain lemmas. -/
namespace Go.Proofs.YtjajmonhcnmidaaDoor
open Go.RowKit

/-- After k rounds of an addition with the carry c. -/
def SumRel (w : World) (g n : Nat) (X Y : List Nat) (wr : World) (k c : Nat) : Prop :=
  ∃ ds : List Nat, ds.length = n + 1 ∧ L32 ds ∧ Row wr g ds ∧ val (ds.take k) + 4294967296 ^ k * c = val (X.take k) + val (Y.take k) ∧ Below w.heap.size w wr

theorem take_set_succ (ds : List Nat) (k r : Nat) (hk : k < ds.length) : val ((ds.set k r).take (k + 1)) = val (ds.take k) + 4294967296 ^ k * r := by
  rw [val_take_succ, List.take_set_of_le (by omega)]
  congr 2
  simp [List.getD, List.getElem?_set, hk]

theorem SumRel.step {w wr : World} {g n : Nat} {X Y : List Nat} {k c p q : Nat} (h : SumRel w g n X Y wr k c) (hk : k < n + 1) (hg : w.heap.size ≤ g) (hp : X.getD k 0 = p) (hq : Y.getD k 0 = q) :
    SumRel w g n X Y (wr.setCell ⟨g, k, none⟩ (.int .u32 (((c + (p + q)) % 4294967296 : Nat) : Int))) (k + 1) ((c + (p + q)) / 4294967296) := by
  obtain ⟨ds, hl, h32, hr, he, hb⟩ := h
  refine ⟨ds.set k ((c + (p + q)) % 4294967296), by simpa using hl, h32.set (by omega), hr.set_ k _, ?_, hb.setCell (by simpa using hg) _⟩
  rw [take_set_succ _ _ _ (by omega), val_take_succ X, val_take_succ Y, hp, hq, Nat.pow_succ]
  have e : c + (p + q) = 4294967296 * ((c + (p + q)) / 4294967296) + (c + (p + q)) % 4294967296 := by omega
  generalize (c + (p + q)) / 4294967296 = d at *
  generalize (c + (p + q)) % 4294967296 = r at *
  generalize 4294967296 ^ k = P at *
  have e2 : P * (c + (p + q)) = P * (4294967296 * d + r) := by rw [e]
  rw [Nat.mul_add, Nat.mul_add, Nat.mul_add, ← Nat.mul_assoc] at e2
  omega
theorem SumRel.step' {w wr : World} {g n : Nat} {X Y : List Nat} {k c p q : Nat} (h : SumRel w g n X Y wr k c) (hk : k < n + 1) (hg : w.heap.size ≤ g) (hp : X.getD k 0 = p) (hq : Y.getD k 0 = q) (v : Int) (hv : v = ((c : Int) + ((p : Int) + (q : Int))) % 4294967296) :
    SumRel w g n X Y (wr.setCell ⟨g, k, none⟩ (.int .u32 v)) (k + 1) ((c + (p + q)) / 4294967296) := by
  have e : v = (((c + (p + q)) % 4294967296 : Nat) : Int) := by omega
  rw [e]
  exact h.step hk hg hp hq
theorem SumRel.cell {w wr : World} {g n : Nat} {X Y : List Nat} {k c : Nat} (h : SumRel w g n X Y wr k c) {i : Nat} (hi : i < n + 1) : ∃ x : Nat, wr.cell? ⟨g, i, none⟩ = some (.int .u32 (x : Int)) ∧ wr.frozen? ⟨g, i, none⟩ = false := by
  obtain ⟨ds, hl, h32, hr, he, hb⟩ := h
  exact ⟨_, hr.cell (by omega), hr.frozen i⟩
theorem SumRel.start (w : World) (n : Nat) (X Y : List Nat) : SumRel w w.heap.size n X Y (w.alloc (rowObj (List.replicate (n + 1) 0))) 0 0 :=
  ⟨_, by simp, L32.replicate _, Row.new _ _, by simp [val], below_alloc _ _⟩
/-- The last store, and the result's limbs. -/
theorem SumRel.finish {w wr : World} {g n : Nat} {X Y : List Nat} {c : Nat} (h : SumRel w g n X Y wr n c) (hg : w.heap.size ≤ g) (hc : c < 4294967296) (hX : X.length ≤ n) (hY : Y.length ≤ n) :
    ∃ ds : List Nat, ds.length = n + 1 ∧ L32 ds ∧ Row (wr.setCell ⟨g, n, none⟩ (.int .u32 (c : Int))) g ds ∧ val ds = val X + val Y ∧ Below w.heap.size w (wr.setCell ⟨g, n, none⟩ (.int .u32 (c : Int))) := by
  obtain ⟨ds, hl, h32, hr, he, hb⟩ := h
  refine ⟨ds.set n c, by simpa using hl, h32.set hc, hr.set_ n c, ?_, hb.setCell (by simpa using hg) _⟩
  have h1 := take_set_succ ds n c (by omega)
  rw [List.take_of_length_le (by simp [hl])] at h1
  rw [h1, he, List.take_of_length_le hX, List.take_of_length_le hY]
end Go.Proofs.YtjajmonhcnmidaaDoor
/- The walk of 'sum': the sum of two absolute values. -/
namespace Go.Proofs.YtjajmonhcnmidaaDoor
open Go.RowKit

set_option maxHeartbeats 1000000 in
theorem sum_ge (A B : Option Addr) (c d x y : Nat) (w : World) (ha : Mem w w.heap.size A (limbs x)) (hb : Mem w w.heap.size B (limbs y)) (hx : len x ≤ 1099511627776) (hle : len y ≤ len x) (hy0 : 0 < len y) :
    Calls Tryd.prog 46 #[.slice A (len x) c, .slice B (len y) d] w (GivesNat (x + y) w) := by
  have ht : decide (len x < len y) = false := by simp; omega
  have ht2 : ((len y : Int) == 0) = false := by simp; omega
  have hmk := fun W => mk32 ((len x : Int) + 1) (by omega) (by omega) W
  have e1 : ((len x : Int) + 1).toNat = len x + 1 := by omega
  rw [e1] at hmk
  clear e1
  obtain ⟨ad, rfl, _, hca⟩ := ha.at_ (show 0 < (limbs x).length by rw [len_limbs]; omega)
  obtain ⟨bd, rfl, _, hcb⟩ := hb.at_ (show 0 < (limbs y).length by rw [len_limbs]; omega)
  clear hca hcb
  go_enter Tryd.func46, Tryd.ntmps46
  go_wp2_with fail
  go_loopw [6, 27] (fun cr i wr => ∃ k c : Nat, k ≤ len y ∧ i = .int .i64 k ∧ cr = .int .u64 c ∧ c ≤ 1 ∧ SumRel w w.heap.size (len x) (limbs x) (limbs y) wr k c) (fun _ i _ => len y - (intOf i).toNat)
  case atStart => exact ⟨0, 0, by omega, rfl, rfl, by omega, SumRel.start _ _ _ _⟩
  case round =>
    obtain ⟨k, c, hk, rfl, rfl, hc1, hrel⟩ := hrel
    have HR := Lib.hid hrel
    clear hrel
    by_cases hlt : k < len y
    · obtain ⟨ad', e, _, hca⟩ := ha.at_ (show k < (limbs x).length by rw [len_limbs]; omega)
      injection e with e
      subst e
      obtain ⟨bd', e, _, hcb⟩ := hb.at_ (show k < (limbs y).length by rw [len_limbs]; omega)
      injection e with e
      subst e
      have hp := (limbs_32 x).get (show k < (limbs x).length by rw [len_limbs]; omega)
      have hq := (limbs_32 y).get (show k < (limbs y).length by rw [len_limbs]; omega)
      have gp := getD_of_lt (show k < (limbs x).length by rw [len_limbs]; omega)
      have gq := getD_of_lt (show k < (limbs y).length by rw [len_limbs]; omega)
      generalize (limbs x)[k]'(by rw [len_limbs]; omega) = p at *
      generalize (limbs y)[k]'(by rw [len_limbs]; omega) = q at *
      have GP := Lib.hid gp
      have GQ := Lib.hid gq
      clear gp gq
      obtain ⟨ds, hl, h32, hr, he, hbel⟩ := HR.out
      have hca' := (hbel.cell (p := ad.add k) (by rw [block_of_add']; omega)).trans hca
      have hcb' := (hbel.cell (p := bd.add k) (by rw [block_of_add']; omega)).trans hcb
      obtain ⟨ox, ho, hf⟩ := HR.out.cell (show k < len x + 1 by omega)
      clear hl h32 hr he hbel hca hcb
      go_wp2
      go_roundw
      case rel => exact ⟨k + 1, _, by omega, by go_num, by go_num, by omega, HR.out.step' (by omega) (Nat.le_refl _) GP.out GQ.out _ rfl⟩
      case measure => simp [intOf]; omega
    · have hk' : k = len y := by omega
      subst hk'
      go_wp2_with fail
      go_loopw [6, 9] (fun cr i wr => ∃ k c : Nat, len y ≤ k ∧ k ≤ len x ∧ i = .int .i64 k ∧ cr = .int .u64 c ∧ c ≤ 1 ∧ SumRel w w.heap.size (len x) (limbs x) (limbs y) wr k c) (fun _ i _ => len x - (intOf i).toNat)
      case atStart => exact ⟨_, c, Nat.le_refl _, by omega, rfl, rfl, hc1, HR.out⟩
      case round =>
        clear HR hc1
        obtain ⟨k, c, hk1, hk2, rfl, rfl, hc1, hrel⟩ := hrel
        have HR := Lib.hid hrel
        clear hrel
        by_cases hlt2 : k < len x
        · obtain ⟨ad', e, _, hca⟩ := ha.at_ (show k < (limbs x).length by rw [len_limbs]; omega)
          injection e with e
          subst e
          have hp := (limbs_32 x).get (show k < (limbs x).length by rw [len_limbs]; omega)
          have gp := getD_of_lt (show k < (limbs x).length by rw [len_limbs]; omega)
          have gq : (limbs y).getD k 0 = 0 := by simp [List.getD, List.getElem?_eq_none (show (limbs y).length ≤ k from hk1)]
          generalize (limbs x)[k]'(by rw [len_limbs]; omega) = p at *
          have GP := Lib.hid gp
          have GQ := Lib.hid gq
          clear gp gq
          obtain ⟨ds, hl, h32, hr, he, hbel⟩ := HR.out
          have hca' := (hbel.cell (p := ad.add k) (by rw [block_of_add']; omega)).trans hca
          obtain ⟨ox, ho, hf⟩ := HR.out.cell (show k < len x + 1 by omega)
          clear hl h32 hr he hbel hca
          go_wp2
          go_roundw
          case rel => exact ⟨k + 1, _, by omega, by omega, by go_num, by go_num, by omega, HR.out.step' (by omega) (Nat.le_refl _) GP.out GQ.out _ (by omega)⟩
          case measure => simp [intOf]; omega
        · have hk' : k = len x := by omega
          subst hk'
          obtain ⟨ox, ho, hf⟩ := HR.out.cell (show len x < len x + 1 by omega)
          obtain ⟨ds, hl, h32, hr, he, hbel⟩ := HR.out.finish (Nat.le_refl _) (by omega) (Nat.le_refl _) (by rw [len_limbs]; omega)
          have HE := Lib.hid he
          clear he
          go_wp2_with fail
          refine (trim_k _ _ _ ds _ hl (hr.mem hr.lt) (by omega) (by omega) h32).mono ?_
          rintro e w1 ⟨rfl, rfl⟩
          go_wp2
          go_ret
          refine ⟨_, rfl, ?_, hbel⟩
          have := hr.nat h32 (c := len x + 1) (by omega)
          have he' := HE.out
          rw [val_limbs, val_limbs] at he'
          rw [show x + y = val ds from by omega]
          exact this

set_option maxHeartbeats 1000000 in
theorem sum_lt (A B : Option Addr) (c d x y : Nat) (w : World) (ha : Mem w w.heap.size A (limbs x)) (hb : Mem w w.heap.size B (limbs y)) (hx : len y ≤ 1099511627776) (hle : len x < len y) (hy0 : 0 < len x) :
    Calls Tryd.prog 46 #[.slice A (len x) c, .slice B (len y) d] w (GivesNat (x + y) w) := by
  have ht : decide (len x < len y) = true := by simp; omega
  have ht2 : ((len x : Int) == 0) = false := by simp; omega
  have hmk := fun W => mk32 ((len y : Int) + 1) (by omega) (by omega) W
  have e1 : ((len y : Int) + 1).toNat = len y + 1 := by omega
  rw [e1] at hmk
  clear e1
  obtain ⟨ad, rfl, _, hca⟩ := ha.at_ (show 0 < (limbs x).length by rw [len_limbs]; omega)
  obtain ⟨bd, rfl, _, hcb⟩ := hb.at_ (show 0 < (limbs y).length by rw [len_limbs]; omega)
  clear hca hcb
  go_enter Tryd.func46, Tryd.ntmps46
  go_wp2_with fail
  go_loopw [6, 27] (fun cr i wr => ∃ k c : Nat, k ≤ len x ∧ i = .int .i64 k ∧ cr = .int .u64 c ∧ c ≤ 1 ∧ SumRel w w.heap.size (len y) (limbs y) (limbs x) wr k c) (fun _ i _ => len x - (intOf i).toNat)
  case atStart => exact ⟨0, 0, by omega, rfl, rfl, by omega, SumRel.start _ _ _ _⟩
  case round =>
    obtain ⟨k, c, hk, rfl, rfl, hc1, hrel⟩ := hrel
    have HR := Lib.hid hrel
    clear hrel
    by_cases hlt : k < len x
    · obtain ⟨ad', e, _, hca⟩ := ha.at_ (show k < (limbs x).length by rw [len_limbs]; omega)
      injection e with e
      subst e
      obtain ⟨bd', e, _, hcb⟩ := hb.at_ (show k < (limbs y).length by rw [len_limbs]; omega)
      injection e with e
      subst e
      have hp := (limbs_32 x).get (show k < (limbs x).length by rw [len_limbs]; omega)
      have hq := (limbs_32 y).get (show k < (limbs y).length by rw [len_limbs]; omega)
      have gp := getD_of_lt (show k < (limbs x).length by rw [len_limbs]; omega)
      have gq := getD_of_lt (show k < (limbs y).length by rw [len_limbs]; omega)
      generalize (limbs x)[k]'(by rw [len_limbs]; omega) = p at *
      generalize (limbs y)[k]'(by rw [len_limbs]; omega) = q at *
      have GP := Lib.hid gp
      have GQ := Lib.hid gq
      clear gp gq
      obtain ⟨ds, hl, h32, hr, he, hbel⟩ := HR.out
      have hca' := (hbel.cell (p := ad.add k) (by rw [block_of_add']; omega)).trans hca
      have hcb' := (hbel.cell (p := bd.add k) (by rw [block_of_add']; omega)).trans hcb
      obtain ⟨ox, ho, hf⟩ := HR.out.cell (show k < len y + 1 by omega)
      clear hl h32 hr he hbel hca hcb
      go_wp2
      go_roundw
      case rel => exact ⟨k + 1, _, by omega, by go_num, by go_num, by omega, HR.out.step' (by omega) (Nat.le_refl _) GQ.out GP.out _ rfl⟩
      case measure => simp [intOf]; omega
    · have hk' : k = len x := by omega
      subst hk'
      go_wp2_with fail
      go_loopw [6, 9] (fun cr i wr => ∃ k c : Nat, len x ≤ k ∧ k ≤ len y ∧ i = .int .i64 k ∧ cr = .int .u64 c ∧ c ≤ 1 ∧ SumRel w w.heap.size (len y) (limbs y) (limbs x) wr k c) (fun _ i _ => len y - (intOf i).toNat)
      case atStart => exact ⟨_, c, Nat.le_refl _, by omega, rfl, rfl, hc1, HR.out⟩
      case round =>
        clear HR hc1
        obtain ⟨k, c, hk1, hk2, rfl, rfl, hc1, hrel⟩ := hrel
        have HR := Lib.hid hrel
        clear hrel
        by_cases hlt2 : k < len y
        · obtain ⟨ad', e, _, hca⟩ := hb.at_ (show k < (limbs y).length by rw [len_limbs]; omega)
          injection e with e
          subst e
          have hp := (limbs_32 y).get (show k < (limbs y).length by rw [len_limbs]; omega)
          have gp := getD_of_lt (show k < (limbs y).length by rw [len_limbs]; omega)
          have gq : (limbs x).getD k 0 = 0 := by simp [List.getD, List.getElem?_eq_none (show (limbs x).length ≤ k from hk1)]
          generalize (limbs y)[k]'(by rw [len_limbs]; omega) = p at *
          have GP := Lib.hid gp
          have GQ := Lib.hid gq
          clear gp gq
          obtain ⟨ds, hl, h32, hr, he, hbel⟩ := HR.out
          have hca' := (hbel.cell (p := bd.add k) (by rw [block_of_add']; omega)).trans hca
          obtain ⟨ox, ho, hf⟩ := HR.out.cell (show k < len y + 1 by omega)
          clear hl h32 hr he hbel hca
          go_wp2
          go_roundw
          case rel => exact ⟨k + 1, _, by omega, by omega, by go_num, by go_num, by omega, HR.out.step' (by omega) (Nat.le_refl _) GP.out GQ.out _ (by omega)⟩
          case measure => simp [intOf]; omega
        · have hk' : k = len y := by omega
          subst hk'
          obtain ⟨ox, ho, hf⟩ := HR.out.cell (show len y < len y + 1 by omega)
          obtain ⟨ds, hl, h32, hr, he, hbel⟩ := HR.out.finish (Nat.le_refl _) (by omega) (Nat.le_refl _) (by rw [len_limbs]; omega)
          have HE := Lib.hid he
          clear he
          go_wp2_with fail
          refine (trim_k _ _ _ ds _ hl (hr.mem hr.lt) (by omega) (by omega) h32).mono ?_
          rintro e w1 ⟨rfl, rfl⟩
          go_wp2
          go_ret
          refine ⟨_, rfl, ?_, hbel⟩
          have := hr.nat h32 (c := len y + 1) (by omega)
          have he' := HE.out
          rw [val_limbs, val_limbs] at he'
          rw [show x + y = val ds from by omega]
          exact this

set_option maxHeartbeats 400000 in
theorem sum_any (va vb : Value) (x y : Nat) (w : World) (ha : NatAt w va x) (hb : NatAt w vb y) (hx : len x ≤ 1099511627776) (hy : len y ≤ 1099511627776) :
    Calls Tryd.prog 46 #[va, vb] w (GivesNat (x + y) w) := by
  obtain ⟨A, c, rfl, hc, hma⟩ := ha
  obtain ⟨B, d, rfl, hd, hmb⟩ := hb
  rcases Nat.lt_or_ge (len x) (len y) with hlt | hge
  · rcases Nat.eq_zero_or_pos (len x) with h0 | h0
    · have hx0 : x = 0 := len_eq_zero.1 h0
      subst hx0
      have HB : Hid (NatAt w (.slice B (len y) d) y) := ⟨B, d, rfl, hd, hmb⟩
      rw [Nat.zero_add]
      rw [len_zero] at *
      have ht : decide (0 < len y) = true := by simp; omega
      go_enter Tryd.func46, Tryd.ntmps46
      go_wp2
      go_ret
      exact ⟨_, rfl, HB.out, Below.refl _ _⟩
    · exact sum_lt A B c d x y w hma hmb hy hlt h0
  · rcases Nat.eq_zero_or_pos (len y) with h0 | h0
    · have hy0 : y = 0 := len_eq_zero.1 h0
      subst hy0
      have HB : Hid (NatAt w (.slice A (len x) c) x) := ⟨A, c, rfl, hc, hma⟩
      rw [Nat.add_zero]
      rw [len_zero] at *
      have ht : decide (len x < 0) = false := by simp
      go_enter Tryd.func46, Tryd.ntmps46
      go_wp2
      go_ret
      exact ⟨_, rfl, HB.out, Below.refl _ _⟩
    · exact sum_ge A B c d x y w hma hmb hx hge h0
end Go.Proofs.YtjajmonhcnmidaaDoor
/- What the loops of 'difference' keep: plain lemmas. -/
namespace Go.Proofs.YtjajmonhcnmidaaDoor
open Go.RowKit

def DifRel (w : World) (g n : Nat) (X Y : List Nat) (wr : World) (k c : Nat) : Prop :=
  ∃ ds : List Nat, ds.length = n ∧ L32 ds ∧ Row wr g ds ∧ val (ds.take k) + val (Y.take k) = val (X.take k) + 4294967296 ^ k * c ∧ Below w.heap.size w wr

/-- p - q - c in 64 bits. -/
def dig (p q c : Nat) : Nat := (p + 18446744073709551616 - q - c) % 18446744073709551616
theorem dig_lt (p q c : Nat) : dig p q c < 18446744073709551616 := by unfold dig; omega
theorem dig_top {p q c : Nat} (hp : p < 4294967296) (hq : q < 4294967296) (hc : c ≤ 1) : dig p q c / 9223372036854775808 ≤ 1 := by unfold dig; omega
theorem wrap_dig {p q c : Nat} (hp : p < 4294967296) (hq : q < 4294967296) (hc : c ≤ 1) : IntKind.u64.wrap (IntKind.u64.wrap ((p : Int) - (q : Int)) - (c : Int)) = (dig p q c : Int) := by
  unfold dig; rw [IntKind.wrap_u64, IntKind.wrap_u64]; omega
theorem wrap_dig0 {p c : Nat} (hp : p < 4294967296) (hc : c ≤ 1) : IntKind.u64.wrap ((p : Int) - (c : Int)) = (dig p 0 c : Int) := by
  unfold dig; rw [IntKind.wrap_u64]; omega
theorem DifRel.step {w wr : World} {g n : Nat} {X Y : List Nat} {k c p q : Nat} (h : DifRel w g n X Y wr k c) (hk : k < n) (hg : w.heap.size ≤ g) (hp : X.getD k 0 = p) (hq : Y.getD k 0 = q) (hp' : p < 4294967296) (hq' : q < 4294967296) (hc : c ≤ 1)
    (v : Int) (hv : v = (dig p q c : Int) % 4294967296) : DifRel w g n X Y (wr.setCell ⟨g, k, none⟩ (.int .u32 v)) (k + 1) (dig p q c / 9223372036854775808) := by
  obtain ⟨ds, hl, h32, hr, he, hb⟩ := h
  have e : v = ((dig p q c % 4294967296 : Nat) : Int) := by omega
  rw [e]
  refine ⟨ds.set k (dig p q c % 4294967296), by simpa using hl, h32.set (by omega), hr.set_ k _, ?_, hb.setCell (by simpa using hg) _⟩
  rw [take_set_succ _ _ _ (by omega), val_take_succ X, val_take_succ Y, hp, hq, Nat.pow_succ]
  have e1 : dig p q c % 4294967296 + q + c = p + 4294967296 * (dig p q c / 9223372036854775808) := by unfold dig; omega
  generalize dig p q c / 9223372036854775808 = d at *
  generalize dig p q c % 4294967296 = r at *
  generalize 4294967296 ^ k = P at *
  have e2 : P * (r + q + c) = P * (p + 4294967296 * d) := by rw [e1]
  rw [Nat.mul_add, Nat.mul_add, Nat.mul_add, ← Nat.mul_assoc] at e2
  omega
theorem DifRel.cell {w wr : World} {g n : Nat} {X Y : List Nat} {k c : Nat} (h : DifRel w g n X Y wr k c) {i : Nat} (hi : i < n) : ∃ x : Nat, wr.cell? ⟨g, i, none⟩ = some (.int .u32 (x : Int)) ∧ wr.frozen? ⟨g, i, none⟩ = false := by
  obtain ⟨ds, hl, h32, hr, he, hb⟩ := h
  exact ⟨_, hr.cell (by omega), hr.frozen i⟩
theorem DifRel.start (w : World) (n : Nat) (X Y : List Nat) : DifRel w w.heap.size n X Y (w.alloc (rowObj (List.replicate n 0))) 0 0 :=
  ⟨_, by simp, L32.replicate _, Row.new _ _, by simp [val], below_alloc _ _⟩
theorem DifRel.finish {w wr : World} {g n : Nat} {X Y : List Nat} {c : Nat} (h : DifRel w g n X Y wr n c) (hX : X.length ≤ n) (hY : Y.length ≤ n) (hxy : val Y ≤ val X) :
    ∃ ds : List Nat, ds.length = n ∧ L32 ds ∧ Row wr g ds ∧ val ds = val X - val Y ∧ Below w.heap.size w wr := by
  obtain ⟨ds, hl, h32, hr, he, hb⟩ := h
  refine ⟨ds, hl, h32, hr, ?_, hb⟩
  rw [List.take_of_length_le (by omega), List.take_of_length_le hX, List.take_of_length_le hY] at he
  have h1 := val_lt h32
  rw [hl] at h1
  rcases Nat.eq_zero_or_pos c with h0 | h0
  · rw [h0] at he; omega
  · have : 4294967296 ^ n * 1 ≤ 4294967296 ^ n * c := Nat.mul_le_mul_left _ h0
    omega
end Go.Proofs.YtjajmonhcnmidaaDoor
/- The walk of 'difference'. -/
namespace Go.Proofs.YtjajmonhcnmidaaDoor
open Go.RowKit

set_option maxHeartbeats 1000000 in
theorem difference_pos (A B : Option Addr) (c d x y : Nat) (w : World) (ha : Mem w w.heap.size A (limbs x)) (hb : Mem w w.heap.size B (limbs y)) (hx : len x ≤ 1099511627776) (hxy : y ≤ x) (hy0 : 0 < len y) :
    Calls Tryd.prog 48 #[.slice A (len x) c, .slice B (len y) d] w (GivesNat (x - y) w) := by
  have hle : len y ≤ len x := len_mono hxy
  have ht2 : ((len y : Int) == 0) = false := by simp; omega
  have hmk := fun W => mk32 ((len x : Int)) (by omega) (by omega) W
  rw [Int.toNat_natCast] at hmk
  obtain ⟨ad, rfl, _, hca⟩ := ha.at_ (show 0 < (limbs x).length by rw [len_limbs]; omega)
  obtain ⟨bd, rfl, _, hcb⟩ := hb.at_ (show 0 < (limbs y).length by rw [len_limbs]; omega)
  clear hca hcb
  go_enter Tryd.func48, Tryd.ntmps48
  go_wp2_with fail
  go_loopw [6, 21] (fun cr i wr => ∃ k c : Nat, k ≤ len y ∧ i = .int .i64 k ∧ cr = .int .u64 c ∧ c ≤ 1 ∧ DifRel w w.heap.size (len x) (limbs x) (limbs y) wr k c) (fun _ i _ => len y - (intOf i).toNat)
  case atStart => exact ⟨0, 0, by omega, rfl, rfl, by omega, DifRel.start _ _ _ _⟩
  case round =>
    obtain ⟨k, c, hk, rfl, rfl, hc1, hrel⟩ := hrel
    have HR := Lib.hid hrel
    clear hrel
    by_cases hlt : k < len y
    · obtain ⟨ad', e, _, hca⟩ := ha.at_ (show k < (limbs x).length by rw [len_limbs]; omega)
      injection e with e
      subst e
      obtain ⟨bd', e, _, hcb⟩ := hb.at_ (show k < (limbs y).length by rw [len_limbs]; omega)
      injection e with e
      subst e
      have hp := (limbs_32 x).get (show k < (limbs x).length by rw [len_limbs]; omega)
      have hq := (limbs_32 y).get (show k < (limbs y).length by rw [len_limbs]; omega)
      have gp := getD_of_lt (show k < (limbs x).length by rw [len_limbs]; omega)
      have gq := getD_of_lt (show k < (limbs y).length by rw [len_limbs]; omega)
      generalize (limbs x)[k]'(by rw [len_limbs]; omega) = p at *
      generalize (limbs y)[k]'(by rw [len_limbs]; omega) = q at *
      have GP := Lib.hid gp
      have GQ := Lib.hid gq
      clear gp gq
      obtain ⟨ds, hl, h32, hr, he, hbel⟩ := HR.out
      have hca' := (hbel.cell (p := ad.add k) (by rw [block_of_add']; omega)).trans hca
      have hcb' := (hbel.cell (p := bd.add k) (by rw [block_of_add']; omega)).trans hcb
      obtain ⟨ox, ho, hf⟩ := HR.out.cell (show k < len x by omega)
      clear hl h32 hr he hbel hca hcb
      have hw := wrap_dig hp hq hc1
      have hd := dig_lt p q c
      have ht := dig_top hp hq hc1
      have hst := Lib.hid (HR.out.step (by omega) (Nat.le_refl _) GP.out GQ.out hp hq hc1 _ rfl)
      generalize dig p q c = D at *
      clear HR
      go_wp2
      go_roundw
      case rel => exact ⟨k + 1, D / 9223372036854775808, by omega, by go_num, by go_num, by omega, hst.out⟩
      case measure => simp [intOf]; omega
    · have hk' : k = len y := by omega
      subst hk'
      go_wp2_with fail
      go_loopw [6, 10] (fun cr i wr => ∃ k c : Nat, len y ≤ k ∧ k ≤ len x ∧ i = .int .i64 k ∧ cr = .int .u64 c ∧ c ≤ 1 ∧ DifRel w w.heap.size (len x) (limbs x) (limbs y) wr k c) (fun _ i _ => len x - (intOf i).toNat)
      case atStart => exact ⟨_, c, Nat.le_refl _, by omega, rfl, rfl, hc1, HR.out⟩
      case round =>
        clear HR hc1
        obtain ⟨k, c, hk1, hk2, rfl, rfl, hc1, hrel⟩ := hrel
        have HR := Lib.hid hrel
        clear hrel
        by_cases hlt2 : k < len x
        · obtain ⟨ad', e, _, hca⟩ := ha.at_ (show k < (limbs x).length by rw [len_limbs]; omega)
          injection e with e
          subst e
          have hp := (limbs_32 x).get (show k < (limbs x).length by rw [len_limbs]; omega)
          have gp := getD_of_lt (show k < (limbs x).length by rw [len_limbs]; omega)
          have gq : (limbs y).getD k 0 = 0 := by simp [List.getD, List.getElem?_eq_none (show (limbs y).length ≤ k from hk1)]
          generalize (limbs x)[k]'(by rw [len_limbs]; omega) = p at *
          have GP := Lib.hid gp
          have GQ := Lib.hid gq
          clear gp gq
          obtain ⟨ds, hl, h32, hr, he, hbel⟩ := HR.out
          have hca' := (hbel.cell (p := ad.add k) (by rw [block_of_add']; omega)).trans hca
          obtain ⟨ox, ho, hf⟩ := HR.out.cell (show k < len x by omega)
          clear hl h32 hr he hbel hca
          have hw := wrap_dig0 hp hc1
          have hd := dig_lt p 0 c
          have ht := dig_top (q := 0) hp (by omega) hc1
          have hst := Lib.hid (HR.out.step (by omega) (Nat.le_refl _) GP.out GQ.out hp (by omega) hc1 _ rfl)
          generalize dig p 0 c = D at *
          clear HR
          go_wp2
          go_roundw
          case rel => exact ⟨k + 1, D / 9223372036854775808, by omega, by omega, by go_num, by go_num, by omega, hst.out⟩
          case measure => simp [intOf]; omega
        · have hk' : k = len x := by omega
          subst hk'
          obtain ⟨ds, hl, h32, hr, he, hbel⟩ := HR.out.finish (Nat.le_refl _) (by rw [len_limbs]; omega) (by rw [val_limbs, val_limbs]; exact hxy)
          have HE := Lib.hid he
          clear he
          go_wp2_with fail
          refine (trim_k _ _ _ ds _ hl (hr.mem hr.lt) (by omega) (by omega) h32).mono ?_
          rintro e w1 ⟨rfl, rfl⟩
          go_wp2
          go_ret
          refine ⟨_, rfl, ?_, hbel⟩
          have := hr.nat h32 (c := len x) (by omega)
          have he' := HE.out
          rw [val_limbs, val_limbs] at he'
          rw [show x - y = val ds from by omega]
          exact this

set_option maxHeartbeats 400000 in
theorem difference_any (va vb : Value) (x y : Nat) (w : World) (ha : NatAt w va x) (hb : NatAt w vb y) (hx : len x ≤ 1099511627776) (hxy : y ≤ x) :
    Calls Tryd.prog 48 #[va, vb] w (GivesNat (x - y) w) := by
  obtain ⟨A, c, rfl, hc, hma⟩ := ha
  obtain ⟨B, d, rfl, hd, hmb⟩ := hb
  rcases Nat.eq_zero_or_pos (len y) with h0 | h0
  · have hy0 : y = 0 := len_eq_zero.1 h0
    subst hy0
    have HB : Hid (NatAt w (.slice A (len x) c) x) := ⟨A, c, rfl, hc, hma⟩
    rw [Nat.sub_zero]
    rw [len_zero] at *
    go_enter Tryd.func48, Tryd.ntmps48
    go_wp2
    go_ret
    exact ⟨_, rfl, HB.out, Below.refl _ _⟩
  · exact difference_pos A B c d x y w hma hmb hx hxy h0
end Go.Proofs.YtjajmonhcnmidaaDoor
/- What the loops of 'product' keep: plain lemmas. -/
namespace Go.Proofs.YtjajmonhcnmidaaDoor
open Go.RowKit

theorem mul_bd {p q : Nat} (hp : p < 4294967296) (hq : q < 4294967296) : p * q ≤ 18446744065119617025 := by
  have := Nat.mul_le_mul (show p ≤ 4294967295 by omega) (show q ≤ 4294967295 by omega)
  omega
theorem val_nil : val [] = 0 := rfl
theorem val_set (ds : List Nat) (t r : Nat) (ht : t < ds.length) : val (ds.set t r) + 4294967296 ^ t * ds.getD t 0 = val ds + 4294967296 ^ t * r := by
  induction ds generalizing t with
  | nil => simp at ht
  | cons x l ih =>
    match t with
    | 0 => simp [val]; omega
    | t + 1 =>
      have := ih t (by simpa using ht)
      simp only [List.set_cons_succ, val, List.getD_cons_succ, Nat.pow_succ]
      generalize 4294967296 ^ t = P at *
      rw [Nat.mul_assoc, Nat.mul_comm 4294967296 (l.getD t 0), ← Nat.mul_assoc, Nat.mul_assoc P 4294967296 r, Nat.mul_comm 4294967296 r, ← Nat.mul_assoc]
      generalize P * l.getD t 0 = u at *
      generalize P * r = v at *
      omega

/-- After the rows below i, and j limbs of row i (the factor p), with the carry c; the rest is zero. -/
def MulRel (w : World) (g n m : Nat) (X Y : List Nat) (wr : World) (i j p c : Nat) : Prop :=
  ∃ ds : List Nat, ds.length = n ∧ L32 ds ∧ Row wr g ds ∧ val ds + 4294967296 ^ (i + j) * c = val (X.take i) * val Y + 4294967296 ^ i * (p * val (Y.take j)) ∧ (∀ t, i + m ≤ t → ds.getD t 0 = 0) ∧ Below w.heap.size w wr

theorem MulRel.cell {w wr : World} {g n m : Nat} {X Y : List Nat} {i j p c : Nat} (h : MulRel w g n m X Y wr i j p c) {t : Nat} (ht : t < n) : ∃ x : Nat, x < 4294967296 ∧ wr.cell? ⟨g, t, none⟩ = some (.int .u32 (x : Int)) ∧ wr.frozen? ⟨g, t, none⟩ = false ∧
    (j < m → ∀ q c' : Nat, Y.getD j 0 = q → t = i + j → w.heap.size ≤ g → c' = (c + (p * q + x)) / 4294967296 → ∀ v : Int, v = ((c : Int) + ((p : Int) * (q : Int) + (x : Int))) % 4294967296 → MulRel w g n m X Y (wr.setCell ⟨g, t, none⟩ (.int .u32 v)) i (j + 1) p c') := by
  obtain ⟨ds, hl, h32, hr, he, hz, hb⟩ := h
  refine ⟨_, h32.get (show t < ds.length by omega), hr.cell (by omega), hr.frozen t, ?_⟩
  intro hj q c' hq htij hg hc' v hv
  have gx := getD_of_lt (show t < ds.length by omega)
  generalize ds[t]'(by omega) = x at *
  have e : v = (((c + (p * q + x)) % 4294967296 : Nat) : Int) := by
    rw [← Int.natCast_mul] at hv
    generalize p * q = pq at *
    omega
  rw [e]
  subst hc'
  refine ⟨ds.set t ((c + (p * q + x)) % 4294967296), by simpa using hl, h32.set (by omega), hr.set_ t _, ?_, fun t' ht' => ?_, hb.setCell (by simpa using hg) _⟩
  · have hs := val_set ds t ((c + (p * q + x)) % 4294967296) (by omega)
    rw [gx] at hs
    rw [val_take_succ Y, hq, show i + (j + 1) = t + 1 from by omega, Nat.pow_succ]
    rw [← htij] at he
    have e1 : 4294967296 ^ t = 4294967296 ^ i * 4294967296 ^ j := by rw [htij, Nat.pow_add]
    have e2 : c + (p * q + x) = 4294967296 * ((c + (p * q + x)) / 4294967296) + (c + (p * q + x)) % 4294967296 := by omega
    generalize (c + (p * q + x)) / 4294967296 = d at *
    generalize (c + (p * q + x)) % 4294967296 = r at *
    have e3 : 4294967296 ^ i * (p * (val (Y.take j) + 4294967296 ^ j * q)) = 4294967296 ^ i * (p * val (Y.take j)) + 4294967296 ^ t * (p * q) := by
      rw [e1, Nat.mul_add, Nat.mul_add, Nat.mul_assoc]
      congr 2
      rw [Nat.mul_left_comm]
    rw [e3]
    generalize 4294967296 ^ i * (p * val (Y.take j)) = a at *
    generalize val (X.take i) * val Y = b at *
    generalize 4294967296 ^ t = P at *
    have e4 : P * (c + (p * q + x)) = P * (4294967296 * d + r) := by rw [e2]
    rw [Nat.mul_add, Nat.mul_add, Nat.mul_add, ← Nat.mul_assoc P 4294967296 d] at e4
    omega
  · rw [List.getD_eq_getElem?_getD, List.getElem?_set_ne (by omega), ← List.getD_eq_getElem?_getD]
    exact hz t' ht'

theorem MulRel.start {w : World} {n m : Nat} {X Y : List Nat} (p : Nat) : MulRel w w.heap.size n m X Y (w.alloc (rowObj (List.replicate n 0))) 0 0 p 0 :=
  ⟨_, by simp, L32.replicate _, Row.new _ _, by simp [val, val_replicate], fun t _ => by simp [List.getD, List.getElem?_replicate]; split <;> rfl, below_alloc _ _⟩
/-- Between the rows: the factor does not matter yet. -/
theorem MulRel.row {w wr : World} {g n m : Nat} {X Y : List Nat} {i p p' : Nat} (h : MulRel w g n m X Y wr i 0 p 0) : MulRel w g n m X Y wr i 0 p' 0 := by
  obtain ⟨ds, hl, h32, hr, he, hz, hb⟩ := h
  exact ⟨ds, hl, h32, hr, by rw [List.take_zero, val_nil, Nat.mul_zero, Nat.mul_zero] at he ⊢; exact he, hz, hb⟩
/-- The end of a row: the carry is stored. -/
theorem MulRel.next {w wr : World} {g n m : Nat} {X Y : List Nat} {i p c : Nat} (h : MulRel w g n m X Y wr i m p c) (hg : w.heap.size ≤ g) (hi : i + m < n) (hc : c < 4294967296) (hp : X.getD i 0 = p) (hY : Y.length ≤ m) (p' : Nat) :
    MulRel w g n m X Y (wr.setCell ⟨g, i + m, none⟩ (.int .u32 (c : Int))) (i + 1) 0 p' 0 := by
  obtain ⟨ds, hl, h32, hr, he, hz, hb⟩ := h
  refine ⟨ds.set (i + m) c, by simpa using hl, h32.set hc, hr.set_ _ c, ?_, fun t' ht' => ?_, hb.setCell (by simpa using hg) _⟩
  · have hs := val_set ds (i + m) c (by omega)
    rw [hz _ (Nat.le_refl _), Nat.mul_zero, Nat.add_zero] at hs
    rw [List.take_of_length_le hY] at he
    rw [Nat.mul_zero, Nat.add_zero, hs, he, val_take_succ, hp, List.take_zero, val_nil, Nat.mul_zero, Nat.mul_zero, Nat.add_zero, Nat.add_mul, Nat.mul_assoc]
  · rw [List.getD_eq_getElem?_getD, List.getElem?_set_ne (by omega), ← List.getD_eq_getElem?_getD]
    exact hz t' (by omega)
theorem MulRel.drewN {w wr : World} {g n m : Nat} {X Y : List Nat} {i j p c : Nat} (h : MulRel w g n m X Y wr i j p c) (k : Nat) : MulRel w g n m X Y (wr.drewN k) i j p c := by
  obtain ⟨ds, hl, h32, hr, he, hz, hb⟩ := h
  exact ⟨ds, hl, h32, hr, he, hz, ⟨hb.os, hb.tape, hb.output, hb.size, hb.block⟩⟩
theorem MulRel.finish {w wr : World} {g n m : Nat} {X Y : List Nat} {i p : Nat} (h : MulRel w g n m X Y wr i 0 p 0) (hX : X.length ≤ i) :
    ∃ ds : List Nat, ds.length = n ∧ L32 ds ∧ Row wr g ds ∧ val ds = val X * val Y ∧ Below w.heap.size w wr := by
  obtain ⟨ds, hl, h32, hr, he, hz, hb⟩ := h
  refine ⟨ds, hl, h32, hr, ?_, hb⟩
  rw [List.take_of_length_le hX] at he
  rw [List.take_zero, val_nil, Nat.mul_zero, Nat.mul_zero, Nat.mul_zero, Nat.add_zero, Nat.add_zero] at he
  exact he
end Go.Proofs.YtjajmonhcnmidaaDoor
/- The walk of 'product'. -/
namespace Go.Proofs.YtjajmonhcnmidaaDoor
open Go.RowKit

set_option maxHeartbeats 2000000 in
theorem product_le (A B : Option Addr) (c d x y : Nat) (w : World) (ha : Mem w w.heap.size A (limbs x)) (hb : Mem w w.heap.size B (limbs y)) (hx : len x ≤ 1099511627776) (hy : len y ≤ 1099511627776) (hle : len x ≤ len y) (hx0 : 0 < len x) (hy0 : 0 < len y) :
    Calls Tryd.prog 49 #[.slice A (len x) c, .slice B (len y) d] w (GivesNat (x * y) w) := by
  have ht : decide (len y < len x) = false := by simp; omega
  have ht2 : ((len x : Int) == 0) = false := by simp; omega
  have ht3 : ((len y : Int) == 0) = false := by simp; omega
  have hmk := fun W => mk32 ((len x : Int) + (len y : Int)) (by omega) (by omega) W
  have e1 : ((len x : Int) + (len y : Int)).toNat = len x + len y := by omega
  rw [e1] at hmk
  clear e1
  obtain ⟨ad, rfl, _, hca⟩ := ha.at_ (show 0 < (limbs x).length by rw [len_limbs]; omega)
  obtain ⟨bd, rfl, _, hcb⟩ := hb.at_ (show 0 < (limbs y).length by rw [len_limbs]; omega)
  clear hca hcb
  go_enter Tryd.func49, Tryd.ntmps49
  go_wp2_with fail
  go_loopw [35] (fun i wr => ∃ k : Nat, k ≤ len x ∧ i = .int .i64 k ∧ MulRel w w.heap.size (len x + len y) (len y) (limbs x) (limbs y) wr k 0 0 0) (fun i _ => len x - (intOf i).toNat)
  case atStart => exact ⟨0, by omega, rfl, MulRel.start 0⟩
  case round =>
    obtain ⟨k, hk, rfl, hR0⟩ := hrel
    by_cases hlt : k < len x
    · obtain ⟨ad', e, _, hca⟩ := ha.at_ (show k < (limbs x).length by rw [len_limbs]; omega)
      injection e with e
      subst e
      have hp := (limbs_32 x).get (show k < (limbs x).length by rw [len_limbs]; omega)
      have gp := getD_of_lt (show k < (limbs x).length by rw [len_limbs]; omega)
      generalize (limbs x)[k]'(by rw [len_limbs]; omega) = p at *
      have GP := Lib.hid gp
      clear gp
      obtain ⟨ds, hl, h32, hr, he, hz, hbel⟩ := hR0
      have hca' := (hbel.cell (p := ad.add k) (by rw [block_of_add']; omega)).trans hca
      have HR : Hid (MulRel w w.heap.size (len x + len y) (len y) (limbs x) (limbs y) wr k 0 p 0) := MulRel.row ⟨ds, hl, h32, hr, he, hz, hbel⟩
      clear hl h32 hr he hz hbel hca
      have b1 : (0 : Int) ≤ (k : Int) := by omega
      have b2 : (k : Int) < (len x : Int) := by omega
      go_wp2_with fail
      go_quiet (fail)
      have HR1 := Lib.hid (HR.out.drewN nq)
      clear HR
      generalize wr.drewN nq = wo at *
      go_wp2_with fail
      go_loopw [9, 53] (fun cr i wr2 => ∃ j cc : Nat, j ≤ len y ∧ i = .int .i64 j ∧ cr = .int .u64 cc ∧ cc < 4294967296 ∧ MulRel w w.heap.size (len x + len y) (len y) (limbs x) (limbs y) wr2 k j p cc) (fun _ i _ => len y - (intOf i).toNat)
      case atStart => exact ⟨0, 0, by omega, rfl, rfl, by omega, HR1.out⟩
      case round =>
        obtain ⟨j, cc, hj, rfl, rfl, hcc, hrel⟩ := hrel
        have HR2 := Lib.hid hrel
        clear hrel HR1
        by_cases hlj : j < len y
        · obtain ⟨bd', e, _, hcb⟩ := hb.at_ (show j < (limbs y).length by rw [len_limbs]; omega)
          injection e with e
          subst e
          have hq := (limbs_32 y).get (show j < (limbs y).length by rw [len_limbs]; omega)
          have gq := getD_of_lt (show j < (limbs y).length by rw [len_limbs]; omega)
          generalize (limbs y)[j]'(by rw [len_limbs]; omega) = q at *
          have GQ := Lib.hid gq
          clear gq
          obtain ⟨ds, hl, h32, hr, he, hz, hbel⟩ := HR2.out
          have hcb' := (hbel.cell (p := bd.add j) (by rw [block_of_add']; omega)).trans hcb
          clear hl h32 hr he hz hbel hcb
          obtain ⟨r, hr, hcell, hfz, hstep⟩ := HR2.out.cell (t := k + j) (by omega)
          have HS := Lib.hid (hstep hlj q _ GQ.out rfl (Nat.le_refl _) rfl _ rfl)
          have hm := mul_bd hp hq
          have hm0 : (0 : Int) ≤ (p : Int) * (q : Int) := by rw [← Int.natCast_mul]; omega
          have hm1 : (p : Int) * (q : Int) ≤ 18446744065119617025 := by rw [← Int.natCast_mul]; omega
          clear hstep HR2 hm
          go_wp2
          go_roundw
          case rel => exact ⟨j + 1, (cc + (p * q + r)) / 4294967296, by omega, by go_num, by congr 1, by have := mul_bd hp hq; generalize p * q = pq at *; omega, HS.out⟩
          case measure => simp [intOf]; omega
        · have hj' : j = len y := by omega
          subst hj'
          obtain ⟨r, hr, hcell, hfz, hstep⟩ := HR2.out.cell (t := k + len y) (by omega)
          clear hstep
          go_wp2
          go_roundw
          case rel => exact ⟨k + 1, by omega, by go_num, HR2.out.next (Nat.le_refl _) (by omega) hcc GP.out (Nat.le_refl _) 0⟩
          case measure => simp [intOf]; omega

    · have hk' : k = len x := by omega
      subst hk'
      obtain ⟨ds, hl, h32, hr, he, hbel⟩ := hR0.finish (Nat.le_refl _)
      have HE := Lib.hid he
      clear he
      go_wp2_with fail
      refine (trim_k _ _ _ ds _ hl (hr.mem hr.lt) (by omega) (by omega) h32).mono ?_
      rintro e w1 ⟨rfl, rfl⟩
      go_wp2
      go_ret
      refine ⟨_, rfl, ?_, hbel⟩
      have := hr.nat h32 (c := len x + len y) (by omega)
      have he' := HE.out
      rw [val_limbs, val_limbs] at he'
      rw [show x * y = val ds from by rw [he']]
      exact this

set_option maxHeartbeats 2000000 in
theorem product_gt (A B : Option Addr) (c d x y : Nat) (w : World) (ha : Mem w w.heap.size A (limbs x)) (hb : Mem w w.heap.size B (limbs y)) (hx : len x ≤ 1099511627776) (hy : len y ≤ 1099511627776) (hle : len y < len x) (hx0 : 0 < len x) (hy0 : 0 < len y) :
    Calls Tryd.prog 49 #[.slice A (len x) c, .slice B (len y) d] w (GivesNat (x * y) w) := by
  have ht : decide (len y < len x) = true := by simp; omega
  have ht2 : ((len x : Int) == 0) = false := by simp; omega
  have ht3 : ((len y : Int) == 0) = false := by simp; omega
  have hmk := fun W => mk32 ((len y : Int) + (len x : Int)) (by omega) (by omega) W
  have e1 : ((len y : Int) + (len x : Int)).toNat = len y + len x := by omega
  rw [e1] at hmk
  clear e1
  obtain ⟨ad, rfl, _, hca⟩ := ha.at_ (show 0 < (limbs x).length by rw [len_limbs]; omega)
  obtain ⟨bd, rfl, _, hcb⟩ := hb.at_ (show 0 < (limbs y).length by rw [len_limbs]; omega)
  clear hca hcb
  go_enter Tryd.func49, Tryd.ntmps49
  go_wp2_with fail
  go_loopw [35] (fun i wr => ∃ k : Nat, k ≤ len y ∧ i = .int .i64 k ∧ MulRel w w.heap.size (len y + len x) (len x) (limbs y) (limbs x) wr k 0 0 0) (fun i _ => len y - (intOf i).toNat)
  case atStart => exact ⟨0, by omega, rfl, MulRel.start 0⟩
  case round =>
    obtain ⟨k, hk, rfl, hR0⟩ := hrel
    by_cases hlt : k < len y
    · obtain ⟨bd', e, _, hca⟩ := hb.at_ (show k < (limbs y).length by rw [len_limbs]; omega)
      injection e with e
      subst e
      have hp := (limbs_32 y).get (show k < (limbs y).length by rw [len_limbs]; omega)
      have gp := getD_of_lt (show k < (limbs y).length by rw [len_limbs]; omega)
      generalize (limbs y)[k]'(by rw [len_limbs]; omega) = p at *
      have GP := Lib.hid gp
      clear gp
      obtain ⟨ds, hl, h32, hr, he, hz, hbel⟩ := hR0
      have hca' := (hbel.cell (p := bd.add k) (by rw [block_of_add']; omega)).trans hca
      have HR : Hid (MulRel w w.heap.size (len y + len x) (len x) (limbs y) (limbs x) wr k 0 p 0) := MulRel.row ⟨ds, hl, h32, hr, he, hz, hbel⟩
      clear hl h32 hr he hz hbel hca
      have b1 : (0 : Int) ≤ (k : Int) := by omega
      have b2 : (k : Int) < (len y : Int) := by omega
      go_wp2_with fail
      go_quiet (fail)
      have HR1 := Lib.hid (HR.out.drewN nq)
      clear HR
      generalize wr.drewN nq = wo at *
      go_wp2_with fail
      go_loopw [9, 53] (fun cr i wr2 => ∃ j cc : Nat, j ≤ len x ∧ i = .int .i64 j ∧ cr = .int .u64 cc ∧ cc < 4294967296 ∧ MulRel w w.heap.size (len y + len x) (len x) (limbs y) (limbs x) wr2 k j p cc) (fun _ i _ => len x - (intOf i).toNat)
      case atStart => exact ⟨0, 0, by omega, rfl, rfl, by omega, HR1.out⟩
      case round =>
        obtain ⟨j, cc, hj, rfl, rfl, hcc, hrel⟩ := hrel
        have HR2 := Lib.hid hrel
        clear hrel HR1
        by_cases hlj : j < len x
        · obtain ⟨ad', e, _, hcb⟩ := ha.at_ (show j < (limbs x).length by rw [len_limbs]; omega)
          injection e with e
          subst e
          have hq := (limbs_32 x).get (show j < (limbs x).length by rw [len_limbs]; omega)
          have gq := getD_of_lt (show j < (limbs x).length by rw [len_limbs]; omega)
          generalize (limbs x)[j]'(by rw [len_limbs]; omega) = q at *
          have GQ := Lib.hid gq
          clear gq
          obtain ⟨ds, hl, h32, hr, he, hz, hbel⟩ := HR2.out
          have hcb' := (hbel.cell (p := ad.add j) (by rw [block_of_add']; omega)).trans hcb
          clear hl h32 hr he hz hbel hcb
          obtain ⟨r, hr, hcell, hfz, hstep⟩ := HR2.out.cell (t := k + j) (by omega)
          have HS := Lib.hid (hstep hlj q _ GQ.out rfl (Nat.le_refl _) rfl _ rfl)
          have hm := mul_bd hp hq
          have hm0 : (0 : Int) ≤ (p : Int) * (q : Int) := by rw [← Int.natCast_mul]; omega
          have hm1 : (p : Int) * (q : Int) ≤ 18446744065119617025 := by rw [← Int.natCast_mul]; omega
          clear hstep HR2 hm
          go_wp2
          go_roundw
          case rel => exact ⟨j + 1, (cc + (p * q + r)) / 4294967296, by omega, by go_num, by congr 1, by have := mul_bd hp hq; generalize p * q = pq at *; omega, HS.out⟩
          case measure => simp [intOf]; omega
        · have hj' : j = len x := by omega
          subst hj'
          obtain ⟨r, hr, hcell, hfz, hstep⟩ := HR2.out.cell (t := k + len x) (by omega)
          clear hstep
          go_wp2
          go_roundw
          case rel => exact ⟨k + 1, by omega, by go_num, HR2.out.next (Nat.le_refl _) (by omega) hcc GP.out (Nat.le_refl _) 0⟩
          case measure => simp [intOf]; omega

    · have hk' : k = len y := by omega
      subst hk'
      obtain ⟨ds, hl, h32, hr, he, hbel⟩ := hR0.finish (Nat.le_refl _)
      have HE := Lib.hid he
      clear he
      go_wp2_with fail
      refine (trim_k _ _ _ ds _ hl (hr.mem hr.lt) (by omega) (by omega) h32).mono ?_
      rintro e w1 ⟨rfl, rfl⟩
      go_wp2
      go_ret
      refine ⟨_, rfl, ?_, hbel⟩
      have := hr.nat h32 (c := len y + len x) (by omega)
      have he' := HE.out
      rw [val_limbs, val_limbs] at he'
      rw [show x * y = val ds from by rw [he']; exact Nat.mul_comm _ _]
      exact this

set_option maxHeartbeats 400000 in
theorem product_any (va vb : Value) (x y : Nat) (w : World) (ha : NatAt w va x) (hb : NatAt w vb y) (hx : len x ≤ 1099511627776) (hy : len y ≤ 1099511627776) :
    Calls Tryd.prog 49 #[va, vb] w (GivesNat (x * y) w) := by
  obtain ⟨A, c, rfl, hc, hma⟩ := ha
  obtain ⟨B, d, rfl, hd, hmb⟩ := hb
  rcases Nat.eq_zero_or_pos (len x) with h0 | h0
  · have hx0 : x = 0 := len_eq_zero.1 h0
    subst hx0
    rw [Nat.zero_mul]
    rw [len_zero] at *
    go_enter Tryd.func49, Tryd.ntmps49
    go_wp2
    go_ret
    exact ⟨_, rfl, NatAt.zero _ _ _, Below.refl _ _⟩
  · rcases Nat.eq_zero_or_pos (len y) with h1 | h1
    · have hy0 : y = 0 := len_eq_zero.1 h1
      subst hy0
      have ht2 : ((len x : Int) == 0) = false := by simp; omega
      rw [Nat.mul_zero]
      rw [len_zero] at *
      go_enter Tryd.func49, Tryd.ntmps49
      go_wp2
      go_ret
      exact ⟨_, rfl, NatAt.zero _ _ _, Below.refl _ _⟩
    · rcases Nat.lt_or_ge (len y) (len x) with hlt | hge
      · exact product_gt A B c d x y w hma hmb hx hy hlt h0 h1
      · exact product_le A B c d x y w hma hmb hx hy hge h0 h1

end Go.Proofs.YtjajmonhcnmidaaDoor
/- Walks: Of, Sign, Neg, Mul on integers. -/
namespace Go.Proofs.YtjajmonhcnmidaaDoor
open Go.RowKit

theorem wrap_neg (n : Nat) (hn : n ≤ 9223372036854775808) (h1 : 0 < n) : IntKind.u64.wrap (-IntKind.u64.wrap (-(n : Int))) = (n : Int) := by
  rw [IntKind.wrap_u64, IntKind.wrap_u64]; omega

set_option maxHeartbeats 400000 in
theorem Of_neg (n : Nat) (w : World) (hn : n ≤ 9223372036854775808) (h1 : 0 < n) :
    Calls Tryd.prog 30 #[.int .i64 (-(n : Int))] w (GivesInt (sgn true n) w) := by
  have h0 : decide (-(n : Int) < 0) = true := by simp; omega
  have hl : len n ≤ 2 := len_le_two (by omega)
  go_enter Tryd.func30, Tryd.ntmps30
  go_wp2_with fail
  rw [wrap_neg n hn h1]
  refine (fromWord_any n _ (by omega)).mono ?_
  rintro e w1 ⟨v, rfl, hv, hb⟩
  go_wp2_with fail
  refine (build_any true v n _ hv (by omega)).mono ?_
  rintro e w2 ⟨v2, rfl, hv2, hb2⟩
  obtain ⟨b, A, k, c, rfl, H⟩ := hv2.open_
  have hB := step_below hb hb2
  obtain ⟨hc0, hc1, hf0, hf1, hs⟩ := box2 hB
  have HE := Lib.hid (box2_end (x' := .bool b) (y' := .slice A k c) hB H.out)
  clear hB
  go_wp2
  refine bodyPost_ret (v := .agg #[.bool b, .slice A k c]) (by simp [results, Tryd.results30, go_sem, hs, hc0, hc1]) rfl ⟨_, rfl, HE.out.1, HE.out.2⟩

theorem Of_any (z : Int) (w : World) (h0 : -9223372036854775808 ≤ z) (h1 : z ≤ 9223372036854775807) : Calls Tryd.prog 30 #[.int .i64 z] w (GivesInt z w) := by
  rcases Int.lt_or_le z 0 with h | h
  · obtain ⟨n, rfl⟩ : ∃ n : Nat, z = -(n : Int) := ⟨z.natAbs, by omega⟩
    exact Of_neg n w (by omega) (by omega)
  · obtain ⟨n, rfl⟩ := Int.eq_ofNat_of_zero_le h
    exact Of_nonneg n w (by omega)

set_option maxHeartbeats 400000 in
theorem Sign_any (v : Value) (z : Int) (w : World) (h : IntAt w v z) (hl : len z.natAbs ≤ 1099511627776) :
    Calls Tryd.prog 28 #[v] w fun e w' => e = .returned (.int .i64 z.sign) ∧ Below w.heap.size w w' := by
  obtain ⟨n, hn⟩ : ∃ n, z.natAbs = n := ⟨_, rfl⟩
  obtain ⟨b, hb⟩ : ∃ b, decide (z < 0) = b := ⟨_, rfl⟩
  obtain ⟨A, c, rfl, H⟩ := h.parts_ hn hb
  have HI := Lib.hid (IntAt.back H.out hn hb)
  rw [hn] at hl
  have HN := Lib.hid hn
  have HB := Lib.hid hb
  clear hn hb h
  cases b
  all_goals
    go_enter Tryd.func28, Tryd.ntmps28
    go_wp2_with fail
    refine (parts_is _ z n _ _ (HI.out.into (below_alloc _ _)) HN.out HB.out (by omega)).mono ?_
    rintro e w1 ⟨A1, c1, rfl, H1, hb1⟩
    have HD := Lib.hid (step_below (below_alloc _ _) hb1)
    clear hb1
  · rcases Nat.eq_zero_or_pos n with h0 | h0
    · have hz : z.sign = 0 := by have := HN.out; have : z = 0 := by omega
                                 rw [this]; rfl
      have HZ := Lib.hid hz
      clear hz
      subst h0
      rw [len_zero] at *
      go_wp2
      go_ret
      rw [HZ.out]
      exact ⟨rfl, HD.out⟩
    · have hz : z.sign = 1 := Int.sign_eq_one_of_pos (by have := HN.out; have := of_decide_eq_false HB.out; omega)
      have HZ := Lib.hid hz
      clear hz
      have hne : ((len n : Int) == 0) = false := by
        have : len n ≠ 0 := fun h => by have := len_eq_zero.1 h; omega
        simp; omega
      go_wp2
      go_ret
      rw [HZ.out]
      exact ⟨rfl, HD.out⟩
  · have hz : z.sign = -1 := Int.sign_eq_neg_one_of_neg (of_decide_eq_true HB.out)
    have HZ := Lib.hid hz
    clear hz
    go_wp2
    go_ret
    rw [HZ.out]
    exact ⟨rfl, HD.out⟩

set_option maxHeartbeats 400000 in
theorem Neg_any (v : Value) (z : Int) (w : World) (h : IntAt w v z) (hl : len z.natAbs ≤ 1099511627776) :
    Calls Tryd.prog 18 #[v] w (GivesInt (-z) w) := by
  obtain ⟨n, hn⟩ : ∃ n, z.natAbs = n := ⟨_, rfl⟩
  obtain ⟨b, hb⟩ : ∃ b, decide (z < 0) = b := ⟨_, rfl⟩
  obtain ⟨A, c, rfl, H⟩ := h.parts_ hn hb
  have hz : sgn (!b) n = -z := by
    subst hn hb
    by_cases h : z < 0
    · simp [sgn, h]; omega
    · simp [sgn, h]; omega
  have HZ := Lib.hid hz
  rw [hn] at hl
  clear hn hb h hz
  go_enter Tryd.func18, Tryd.ntmps18
  go_wp2_with fail
  refine (build_any (!b) _ n _ (H.out.into (below2 _ _ _)) (by omega)).mono ?_
  rintro e w2 ⟨v2, rfl, hv2, hb2⟩
  rw [HZ.out] at hv2
  obtain ⟨b', A', k', c', rfl, H'⟩ := hv2.open_
  have hg := (heap2 w (.cells #[.bool b, .slice A (len n) c] 27) (.cells #[.bool false, .slice none 0 0] 27)).2
  obtain ⟨hc0, hc1, hf0, hf1, hs⟩ := box_in hg hb2
  have HE := Lib.hid (box_end (x' := .bool b') (y' := .slice A' k' c') hg hb2 H'.out (below2 _ _ _) (by omega))
  clear hg hb2
  go_wp2
  refine bodyPost_ret (v := .agg #[.bool b', .slice A' k' c']) (by simp [results, Tryd.results18, go_sem, hs, hc0, hc1]) rfl ⟨_, rfl, HE.out.1, HE.out.2⟩

theorem sgn_mul (a b : Int) : sgn (decide (a < 0) != decide (b < 0)) (a.natAbs * b.natAbs) = a * b := by
  have h : ∀ (p q : Bool) (x y : Nat), sgn (p != q) (x * y) = sgn p x * sgn q y := by
    intro p q x y
    cases p <;> cases q <;> simp [sgn, Int.neg_mul, Int.mul_neg]
  rw [h, sgn_of, sgn_of]

set_option maxHeartbeats 800000 in
theorem Mul_any (va vb : Value) (a b : Int) (w : World) (ha : IntAt w va a) (hb : IntAt w vb b) (hla : len a.natAbs ≤ 1099511627776) (hlb : len b.natAbs ≤ 1099511627776) :
    Calls Tryd.prog 17 #[va, vb] w (GivesInt (a * b) w) := by
  obtain ⟨x, hx⟩ : ∃ n, a.natAbs = n := ⟨_, rfl⟩
  obtain ⟨y, hy⟩ : ∃ n, b.natAbs = n := ⟨_, rfl⟩
  obtain ⟨p, hp⟩ : ∃ s, decide (a < 0) = s := ⟨_, rfl⟩
  obtain ⟨q, hq⟩ : ∃ s, decide (b < 0) = s := ⟨_, rfl⟩
  have hz := sgn_mul a b
  rw [hx, hy, hp, hq] at hz
  rw [hx] at hla
  rw [hy] at hlb
  obtain ⟨A, c, rfl, HA⟩ := ha.parts_ hx hp
  obtain ⟨B, d, rfl, HB⟩ := hb.parts_ hy hq
  have HIA := Lib.hid (IntAt.back HA.out hx hp)
  have HIB := Lib.hid (IntAt.back HB.out hy hq)
  have HX := Lib.hid hx
  have HY := Lib.hid hy
  have HP := Lib.hid hp
  have HQ := Lib.hid hq
  have HZ := Lib.hid hz
  clear hx hy hp hq hz ha hb HA HB
  have HH := Lib.hid (heap3 w (.cells #[.bool p, .slice A (len x) c] 27) (.cells #[.bool q, .slice B (len y) d] 27) (.cells #[.bool false, .slice none 0 0] 27))
  have HW := Lib.hid (below3 w (.cells #[.bool p, .slice A (len x) c] 27) (.cells #[.bool q, .slice B (len y) d] 27) (.cells #[.bool false, .slice none 0 0] 27))
  go_enter Tryd.func17, Tryd.ntmps17
  go_wp2_with fail
  generalize ((w.alloc (.cells #[.bool p, .slice A (len x) c] 27)).alloc (.cells #[.bool q, .slice B (len y) d] 27)).alloc (.cells #[.bool false, .slice none 0 0] 27) = W at *
  refine (parts_is _ a x p _ (HIA.out.into HW.out) HX.out HP.out (by omega)).mono ?_
  rintro e w1 ⟨A1, c1, rfl, H1, hb1⟩
  have hB1 := Lib.hid hb1
  obtain ⟨hc0, hc1, hf0, hf1, hs⟩ := box_in HH.out.2.1 hb1
  clear hb1
  go_wp2_with fail
  refine (parts_is _ b y q _ (HIB.out.into (step_below HW.out hB1.out)) HY.out HQ.out (by omega)).mono ?_
  rintro e w2 ⟨B1, d1, rfl, H2, hb2⟩
  have hB2 := Lib.hid hb2
  clear hb2 hc0 hc1 hf0 hf1 hs
  go_wp2_with fail
  refine (product_any _ _ x y _ (H1.out.into hB2.out) H2.out hla hlb).mono ?_
  rintro e w3 ⟨v3, rfl, hv3, hb3⟩
  have hB3 := Lib.hid (step_below (step_below hB1.out hB2.out) hb3)
  clear hb3 hB1 hB2
  go_wp2_with fail
  refine (build_any (p != q) v3 (x * y) _ hv3 (by have := len_mul x y; omega)).mono ?_
  rintro e w4 ⟨v4, rfl, hv4, hb4⟩
  rw [HZ.out] at hv4
  obtain ⟨b', A', k', c', rfl, H'⟩ := hv4.open_
  have hb := step_below hB3.out hb4
  obtain ⟨hc0, hc1, hf0, hf1, hs⟩ := box_in HH.out.2.2 hb
  have HE := Lib.hid (box_end (x' := .bool b') (y' := .slice A' k' c') HH.out.2.2 hb H'.out HW.out (by omega))
  clear hb hb4
  go_wp2
  refine bodyPost_ret (v := .agg #[.bool b', .slice A' k' c']) (by simp [results, Tryd.results17, go_sem, hs, hc0, hc1]) rfl ⟨_, rfl, HE.out.1, HE.out.2⟩
end Go.Proofs.YtjajmonhcnmidaaDoor
/- Walks: Add, Cmp on integers. -/
namespace Go.Proofs.YtjajmonhcnmidaaDoor
open Go.RowKit

set_option maxHeartbeats 1600000 in
theorem Add_any (va vb : Value) (a b : Int) (w : World) (ha : IntAt w va a) (hb : IntAt w vb b) (hla : len a.natAbs ≤ 1099511627776) (hlb : len b.natAbs ≤ 1099511627776) :
    Calls Tryd.prog 15 #[va, vb] w (GivesInt (a + b) w) := by
  obtain ⟨x, hx⟩ : ∃ n, a.natAbs = n := ⟨_, rfl⟩
  obtain ⟨y, hy⟩ : ∃ n, b.natAbs = n := ⟨_, rfl⟩
  obtain ⟨p, hp⟩ : ∃ s, decide (a < 0) = s := ⟨_, rfl⟩
  obtain ⟨q, hq⟩ : ∃ s, decide (b < 0) = s := ⟨_, rfl⟩
  have sa := sgn_of a
  have sb := sgn_of b
  rw [hx, hp] at sa
  rw [hy, hq] at sb
  rw [hx] at hla
  rw [hy] at hlb
  obtain ⟨A, c, rfl, HA⟩ := ha.parts_ hx hp
  obtain ⟨B, d, rfl, HB⟩ := hb.parts_ hy hq
  have HIA := Lib.hid (IntAt.back HA.out hx hp)
  have HIB := Lib.hid (IntAt.back HB.out hy hq)
  have HX := Lib.hid hx
  have HY := Lib.hid hy
  have HP := Lib.hid hp
  have HQ := Lib.hid hq
  have SA := Lib.hid sa
  have SB := Lib.hid sb
  clear hx hy hp hq ha hb HA HB sa sb
  cases p <;> cases q
  · have HH := Lib.hid (heap3 w (.cells #[.bool false, .slice A (len x) c] 27) (.cells #[.bool false, .slice B (len y) d] 27) (.cells #[.bool false, .slice none 0 0] 27))
    have HW := Lib.hid (below3 w (.cells #[.bool false, .slice A (len x) c] 27) (.cells #[.bool false, .slice B (len y) d] 27) (.cells #[.bool false, .slice none 0 0] 27))
    go_enter Tryd.func15, Tryd.ntmps15
    go_wp2_with fail
    generalize ((w.alloc (.cells #[.bool false, .slice A (len x) c] 27)).alloc (.cells #[.bool false, .slice B (len y) d] 27)).alloc (.cells #[.bool false, .slice none 0 0] 27) = W at *
    refine (parts_is _ a x false _ (HIA.out.into HW.out) HX.out HP.out (by omega)).mono ?_
    rintro e w1 ⟨A1, c1, rfl, H1, hb1⟩
    have hB1 := Lib.hid hb1
    obtain ⟨hc0, hc1, hf0, hf1, hs⟩ := box_in HH.out.2.1 hb1
    clear hb1
    go_wp2_with fail
    refine (parts_is _ b y false _ (HIB.out.into (step_below HW.out hB1.out)) HY.out HQ.out (by omega)).mono ?_
    rintro e w2 ⟨B1, d1, rfl, H2, hb2⟩
    have hB2 := Lib.hid (step_below hB1.out hb2)
    have H1' := Lib.hid (H1.out.into hb2)
    clear hb2 hc0 hc1 hf0 hf1 hs hB1 H1
    go_wp2_with fail
    refine (sum_any _ _ x y _ H1'.out H2.out hla hlb).mono ?_
    rintro e w3 ⟨v3, rfl, hv3, hb3⟩
    have hB3 := Lib.hid (step_below hB2.out hb3)
    clear hb3 hB2
    go_wp2_with fail
    refine (build_any false v3 (x + y) _ hv3 (by have := len_add x y; omega)).mono ?_
    rintro e w4 ⟨v4, rfl, hv4, hb4⟩
    rw [show sgn false (x + y) = a + b from by have h1 := SA.out; have h2 := SB.out; simp only [sgn] at h1 h2 ⊢; simp at h1 h2 ⊢; omega] at hv4
    obtain ⟨b', A', k', c', rfl, H'⟩ := hv4.open_
    have hb := step_below hB3.out hb4
    obtain ⟨hc0, hc1, hf0, hf1, hs⟩ := box_in HH.out.2.2 hb
    have HE := Lib.hid (box_end (x' := .bool b') (y' := .slice A' k' c') HH.out.2.2 hb H'.out HW.out (by omega))
    clear hb hb4
    go_wp2
    refine bodyPost_ret (v := .agg #[.bool b', .slice A' k' c']) (by simp [results, Tryd.results15, go_sem, hs, hc0, hc1]) rfl ⟨_, rfl, HE.out.1, HE.out.2⟩
  · have HH := Lib.hid (heap3 w (.cells #[.bool false, .slice A (len x) c] 27) (.cells #[.bool true, .slice B (len y) d] 27) (.cells #[.bool false, .slice none 0 0] 27))
    have HW := Lib.hid (below3 w (.cells #[.bool false, .slice A (len x) c] 27) (.cells #[.bool true, .slice B (len y) d] 27) (.cells #[.bool false, .slice none 0 0] 27))
    go_enter Tryd.func15, Tryd.ntmps15
    go_wp2_with fail
    generalize ((w.alloc (.cells #[.bool false, .slice A (len x) c] 27)).alloc (.cells #[.bool true, .slice B (len y) d] 27)).alloc (.cells #[.bool false, .slice none 0 0] 27) = W at *
    refine (parts_is _ a x false _ (HIA.out.into HW.out) HX.out HP.out (by omega)).mono ?_
    rintro e w1 ⟨A1, c1, rfl, H1, hb1⟩
    have hB1 := Lib.hid hb1
    obtain ⟨hc0, hc1, hf0, hf1, hs⟩ := box_in HH.out.2.1 hb1
    clear hb1
    go_wp2_with fail
    refine (parts_is _ b y true _ (HIB.out.into (step_below HW.out hB1.out)) HY.out HQ.out (by omega)).mono ?_
    rintro e w2 ⟨B1, d1, rfl, H2, hb2⟩
    have hB2 := Lib.hid (step_below hB1.out hb2)
    have H1' := Lib.hid (H1.out.into hb2)
    clear hb2 hc0 hc1 hf0 hf1 hs hB1 H1
    go_wp2_with fail
    refine (compare_any _ _ _ _ x y _ H1'.out.mem.2.2 H2.out.mem.2.2 hla hlb).mono ?_
    rintro e w2' ⟨rfl, nd, rfl⟩
    have hbd := below_drewN w2 nd
    have hB2' := Lib.hid (step_below hB2.out hbd)
    have H1 := Lib.hid (H1'.out.into hbd)
    have H2' := Lib.hid (H2.out.into hbd)
    clear hbd hB2 H1' H2
    rcases Nat.lt_or_ge x y with hlt | hge
    · rw [cmpN_lt hlt]
      go_wp2_with fail
      refine (difference_any _ _ y x _ H2'.out H1.out hlb (by omega)).mono ?_
      rintro e w3 ⟨v3, rfl, hv3, hb3⟩
      have hB3 := Lib.hid (step_below hB2'.out hb3)
      clear hb3 hB2'
      go_wp2_with fail
      refine (build_any true v3 (y - x) _ hv3 (by have := len_mono (Nat.sub_le y x); omega)).mono ?_
      rintro e w4 ⟨v4, rfl, hv4, hb4⟩
      rw [show sgn true (y - x) = a + b from by have h1 := SA.out; have h2 := SB.out; simp only [sgn] at h1 h2 ⊢; simp at h1 h2 ⊢; omega] at hv4
      obtain ⟨b', A', k', c', rfl, H'⟩ := hv4.open_
      have hb := step_below hB3.out hb4
      obtain ⟨hc0, hc1, hf0, hf1, hs⟩ := box_in HH.out.2.2 hb
      have HE := Lib.hid (box_end (x' := .bool b') (y' := .slice A' k' c') HH.out.2.2 hb H'.out HW.out (by omega))
      clear hb hb4
      go_wp2
      refine bodyPost_ret (v := .agg #[.bool b', .slice A' k' c']) (by simp [results, Tryd.results15, go_sem, hs, hc0, hc1]) rfl ⟨_, rfl, HE.out.1, HE.out.2⟩
    · obtain ⟨v, hv, hv0⟩ : ∃ v : Int, cmpN x y = v ∧ 0 ≤ v := ⟨_, rfl, by rcases Nat.lt_or_ge y x with h | h; rw [cmpN_gt h]; omega; rw [cmpN_eq (by omega)]; omega⟩
      rw [hv]
      clear hv
      go_wp2_with fail
      refine (difference_any _ _ x y _ H1.out H2'.out hla hge).mono ?_
      rintro e w3 ⟨v3, rfl, hv3, hb3⟩
      have hB3 := Lib.hid (step_below hB2'.out hb3)
      clear hb3 hB2'
      go_wp2_with fail
      refine (build_any false v3 (x - y) _ hv3 (by have := len_mono (Nat.sub_le x y); omega)).mono ?_
      rintro e w4 ⟨v4, rfl, hv4, hb4⟩
      rw [show sgn false (x - y) = a + b from by have h1 := SA.out; have h2 := SB.out; simp only [sgn] at h1 h2 ⊢; simp at h1 h2 ⊢; omega] at hv4
      obtain ⟨b', A', k', c', rfl, H'⟩ := hv4.open_
      have hb := step_below hB3.out hb4
      obtain ⟨hc0, hc1, hf0, hf1, hs⟩ := box_in HH.out.2.2 hb
      have HE := Lib.hid (box_end (x' := .bool b') (y' := .slice A' k' c') HH.out.2.2 hb H'.out HW.out (by omega))
      clear hb hb4
      go_wp2
      refine bodyPost_ret (v := .agg #[.bool b', .slice A' k' c']) (by simp [results, Tryd.results15, go_sem, hs, hc0, hc1]) rfl ⟨_, rfl, HE.out.1, HE.out.2⟩
  · have HH := Lib.hid (heap3 w (.cells #[.bool true, .slice A (len x) c] 27) (.cells #[.bool false, .slice B (len y) d] 27) (.cells #[.bool false, .slice none 0 0] 27))
    have HW := Lib.hid (below3 w (.cells #[.bool true, .slice A (len x) c] 27) (.cells #[.bool false, .slice B (len y) d] 27) (.cells #[.bool false, .slice none 0 0] 27))
    go_enter Tryd.func15, Tryd.ntmps15
    go_wp2_with fail
    generalize ((w.alloc (.cells #[.bool true, .slice A (len x) c] 27)).alloc (.cells #[.bool false, .slice B (len y) d] 27)).alloc (.cells #[.bool false, .slice none 0 0] 27) = W at *
    refine (parts_is _ a x true _ (HIA.out.into HW.out) HX.out HP.out (by omega)).mono ?_
    rintro e w1 ⟨A1, c1, rfl, H1, hb1⟩
    have hB1 := Lib.hid hb1
    obtain ⟨hc0, hc1, hf0, hf1, hs⟩ := box_in HH.out.2.1 hb1
    clear hb1
    go_wp2_with fail
    refine (parts_is _ b y false _ (HIB.out.into (step_below HW.out hB1.out)) HY.out HQ.out (by omega)).mono ?_
    rintro e w2 ⟨B1, d1, rfl, H2, hb2⟩
    have hB2 := Lib.hid (step_below hB1.out hb2)
    have H1' := Lib.hid (H1.out.into hb2)
    clear hb2 hc0 hc1 hf0 hf1 hs hB1 H1
    go_wp2_with fail
    refine (compare_any _ _ _ _ x y _ H1'.out.mem.2.2 H2.out.mem.2.2 hla hlb).mono ?_
    rintro e w2' ⟨rfl, nd, rfl⟩
    have hbd := below_drewN w2 nd
    have hB2' := Lib.hid (step_below hB2.out hbd)
    have H1 := Lib.hid (H1'.out.into hbd)
    have H2' := Lib.hid (H2.out.into hbd)
    clear hbd hB2 H1' H2
    rcases Nat.lt_or_ge x y with hlt | hge
    · rw [cmpN_lt hlt]
      go_wp2_with fail
      refine (difference_any _ _ y x _ H2'.out H1.out hlb (by omega)).mono ?_
      rintro e w3 ⟨v3, rfl, hv3, hb3⟩
      have hB3 := Lib.hid (step_below hB2'.out hb3)
      clear hb3 hB2'
      go_wp2_with fail
      refine (build_any false v3 (y - x) _ hv3 (by have := len_mono (Nat.sub_le y x); omega)).mono ?_
      rintro e w4 ⟨v4, rfl, hv4, hb4⟩
      rw [show sgn false (y - x) = a + b from by have h1 := SA.out; have h2 := SB.out; simp only [sgn] at h1 h2 ⊢; simp at h1 h2 ⊢; omega] at hv4
      obtain ⟨b', A', k', c', rfl, H'⟩ := hv4.open_
      have hb := step_below hB3.out hb4
      obtain ⟨hc0, hc1, hf0, hf1, hs⟩ := box_in HH.out.2.2 hb
      have HE := Lib.hid (box_end (x' := .bool b') (y' := .slice A' k' c') HH.out.2.2 hb H'.out HW.out (by omega))
      clear hb hb4
      go_wp2
      refine bodyPost_ret (v := .agg #[.bool b', .slice A' k' c']) (by simp [results, Tryd.results15, go_sem, hs, hc0, hc1]) rfl ⟨_, rfl, HE.out.1, HE.out.2⟩
    · obtain ⟨v, hv, hv0⟩ : ∃ v : Int, cmpN x y = v ∧ 0 ≤ v := ⟨_, rfl, by rcases Nat.lt_or_ge y x with h | h; rw [cmpN_gt h]; omega; rw [cmpN_eq (by omega)]; omega⟩
      rw [hv]
      clear hv
      go_wp2_with fail
      refine (difference_any _ _ x y _ H1.out H2'.out hla hge).mono ?_
      rintro e w3 ⟨v3, rfl, hv3, hb3⟩
      have hB3 := Lib.hid (step_below hB2'.out hb3)
      clear hb3 hB2'
      go_wp2_with fail
      refine (build_any true v3 (x - y) _ hv3 (by have := len_mono (Nat.sub_le x y); omega)).mono ?_
      rintro e w4 ⟨v4, rfl, hv4, hb4⟩
      rw [show sgn true (x - y) = a + b from by have h1 := SA.out; have h2 := SB.out; simp only [sgn] at h1 h2 ⊢; simp at h1 h2 ⊢; omega] at hv4
      obtain ⟨b', A', k', c', rfl, H'⟩ := hv4.open_
      have hb := step_below hB3.out hb4
      obtain ⟨hc0, hc1, hf0, hf1, hs⟩ := box_in HH.out.2.2 hb
      have HE := Lib.hid (box_end (x' := .bool b') (y' := .slice A' k' c') HH.out.2.2 hb H'.out HW.out (by omega))
      clear hb hb4
      go_wp2
      refine bodyPost_ret (v := .agg #[.bool b', .slice A' k' c']) (by simp [results, Tryd.results15, go_sem, hs, hc0, hc1]) rfl ⟨_, rfl, HE.out.1, HE.out.2⟩
  · have HH := Lib.hid (heap3 w (.cells #[.bool true, .slice A (len x) c] 27) (.cells #[.bool true, .slice B (len y) d] 27) (.cells #[.bool false, .slice none 0 0] 27))
    have HW := Lib.hid (below3 w (.cells #[.bool true, .slice A (len x) c] 27) (.cells #[.bool true, .slice B (len y) d] 27) (.cells #[.bool false, .slice none 0 0] 27))
    go_enter Tryd.func15, Tryd.ntmps15
    go_wp2_with fail
    generalize ((w.alloc (.cells #[.bool true, .slice A (len x) c] 27)).alloc (.cells #[.bool true, .slice B (len y) d] 27)).alloc (.cells #[.bool false, .slice none 0 0] 27) = W at *
    refine (parts_is _ a x true _ (HIA.out.into HW.out) HX.out HP.out (by omega)).mono ?_
    rintro e w1 ⟨A1, c1, rfl, H1, hb1⟩
    have hB1 := Lib.hid hb1
    obtain ⟨hc0, hc1, hf0, hf1, hs⟩ := box_in HH.out.2.1 hb1
    clear hb1
    go_wp2_with fail
    refine (parts_is _ b y true _ (HIB.out.into (step_below HW.out hB1.out)) HY.out HQ.out (by omega)).mono ?_
    rintro e w2 ⟨B1, d1, rfl, H2, hb2⟩
    have hB2 := Lib.hid (step_below hB1.out hb2)
    have H1' := Lib.hid (H1.out.into hb2)
    clear hb2 hc0 hc1 hf0 hf1 hs hB1 H1
    go_wp2_with fail
    refine (sum_any _ _ x y _ H1'.out H2.out hla hlb).mono ?_
    rintro e w3 ⟨v3, rfl, hv3, hb3⟩
    have hB3 := Lib.hid (step_below hB2.out hb3)
    clear hb3 hB2
    go_wp2_with fail
    refine (build_any true v3 (x + y) _ hv3 (by have := len_add x y; omega)).mono ?_
    rintro e w4 ⟨v4, rfl, hv4, hb4⟩
    rw [show sgn true (x + y) = a + b from by have h1 := SA.out; have h2 := SB.out; simp only [sgn] at h1 h2 ⊢; simp at h1 h2 ⊢; omega] at hv4
    obtain ⟨b', A', k', c', rfl, H'⟩ := hv4.open_
    have hb := step_below hB3.out hb4
    obtain ⟨hc0, hc1, hf0, hf1, hs⟩ := box_in HH.out.2.2 hb
    have HE := Lib.hid (box_end (x' := .bool b') (y' := .slice A' k' c') HH.out.2.2 hb H'.out HW.out (by omega))
    clear hb hb4
    go_wp2
    refine bodyPost_ret (v := .agg #[.bool b', .slice A' k' c']) (by simp [results, Tryd.results15, go_sem, hs, hc0, hc1]) rfl ⟨_, rfl, HE.out.1, HE.out.2⟩

def cmpI (a b : Int) : Int := if a < b then -1 else if a = b then 0 else 1
theorem cmpI_lt {a b : Int} (h : a < b) : cmpI a b = -1 := by simp [cmpI, h]
theorem cmpI_eq {a b : Int} (h : a = b) : cmpI a b = 0 := by simp [cmpI, h]
theorem cmpI_gt {a b : Int} (h : b < a) : cmpI a b = 1 := by unfold cmpI; rw [if_neg (by omega), if_neg (by omega)]
theorem cmpI_nat (x y : Nat) : cmpI (x : Int) (y : Int) = cmpN x y := by
  rcases Nat.lt_trichotomy x y with h | h | h
  · rw [cmpN_lt h, cmpI_lt (by omega)]
  · rw [cmpN_eq h, cmpI_eq (by omega)]
  · rw [cmpN_gt h, cmpI_gt (by omega)]
theorem cmpI_neg (x y : Nat) : cmpI (-(x : Int)) (-(y : Int)) = cmpN y x := by
  rcases Nat.lt_trichotomy x y with h | h | h
  · rw [cmpN_gt h, cmpI_gt (by omega)]
  · rw [cmpN_eq h.symm, cmpI_eq (by omega)]
  · rw [cmpN_lt h, cmpI_lt (by omega)]

set_option maxHeartbeats 1600000 in
theorem Cmp_any (va vb : Value) (a b : Int) (w : World) (ha : IntAt w va a) (hb : IntAt w vb b) (hla : len a.natAbs ≤ 1099511627776) (hlb : len b.natAbs ≤ 1099511627776) :
    Calls Tryd.prog 26 #[va, vb] w fun e w' => e = .returned (.int .i64 (cmpI a b)) ∧ Below w.heap.size w w' := by
  obtain ⟨x, hx⟩ : ∃ n, a.natAbs = n := ⟨_, rfl⟩
  obtain ⟨y, hy⟩ : ∃ n, b.natAbs = n := ⟨_, rfl⟩
  obtain ⟨p, hp⟩ : ∃ s, decide (a < 0) = s := ⟨_, rfl⟩
  obtain ⟨q, hq⟩ : ∃ s, decide (b < 0) = s := ⟨_, rfl⟩
  have sa := sgn_of a
  have sb := sgn_of b
  rw [hx, hp] at sa
  rw [hy, hq] at sb
  rw [hx] at hla
  rw [hy] at hlb
  obtain ⟨A, c, rfl, HA⟩ := ha.parts_ hx hp
  obtain ⟨B, d, rfl, HB⟩ := hb.parts_ hy hq
  have HIA := Lib.hid (IntAt.back HA.out hx hp)
  have HIB := Lib.hid (IntAt.back HB.out hy hq)
  have HX := Lib.hid hx
  have HY := Lib.hid hy
  have HP := Lib.hid hp
  have HQ := Lib.hid hq
  have SA := Lib.hid sa
  have SB := Lib.hid sb
  clear hx hy hp hq ha hb HA HB sa sb
  cases p <;> cases q
  · have HH := Lib.hid (heap2 w (.cells #[.bool false, .slice A (len x) c] 27) (.cells #[.bool false, .slice B (len y) d] 27))
    have HW := Lib.hid (below2 w (.cells #[.bool false, .slice A (len x) c] 27) (.cells #[.bool false, .slice B (len y) d] 27))
    go_enter Tryd.func26, Tryd.ntmps26
    go_wp2_with fail
    generalize (w.alloc (.cells #[.bool false, .slice A (len x) c] 27)).alloc (.cells #[.bool false, .slice B (len y) d] 27) = W at *
    refine (parts_is _ a x false _ (HIA.out.into HW.out) HX.out HP.out (by omega)).mono ?_
    rintro e w1 ⟨A1, c1, rfl, H1, hb1⟩
    have hB1 := Lib.hid hb1
    obtain ⟨hc0, hc1, hf0, hf1, hs⟩ := box_in HH.out.2 hb1
    clear hb1
    go_wp2_with fail
    refine (parts_is _ b y false _ (HIB.out.into (step_below HW.out hB1.out)) HY.out HQ.out (by omega)).mono ?_
    rintro e w2 ⟨B1, d1, rfl, H2, hb2⟩
    have hB2 := Lib.hid (step_below hB1.out hb2)
    have H1' := Lib.hid (H1.out.into hb2)
    clear hb2 hc0 hc1 hf0 hf1 hs hB1 H1
    have HC : Hid (cmpI a b = cmpN x y) := by
      have h1 := SA.out
      have h2 := SB.out
      rw [← h1, ← h2]
      exact cmpI_nat x y
    go_wp2_with fail
    refine (compare_any _ _ _ _ x y _ H1'.out.mem.2.2 H2.out.mem.2.2 hla hlb).mono ?_
    rintro e w2' ⟨rfl, nd, rfl⟩
    have HD := Lib.hid (step_below HW.out (step_below hB2.out (below_drewN w2 nd)))
    rw [← HC.out]
    go_wp2
    go_ret
    exact ⟨rfl, HD.out⟩
  · have HH := Lib.hid (heap2 w (.cells #[.bool false, .slice A (len x) c] 27) (.cells #[.bool true, .slice B (len y) d] 27))
    have HW := Lib.hid (below2 w (.cells #[.bool false, .slice A (len x) c] 27) (.cells #[.bool true, .slice B (len y) d] 27))
    go_enter Tryd.func26, Tryd.ntmps26
    go_wp2_with fail
    generalize (w.alloc (.cells #[.bool false, .slice A (len x) c] 27)).alloc (.cells #[.bool true, .slice B (len y) d] 27) = W at *
    refine (parts_is _ a x false _ (HIA.out.into HW.out) HX.out HP.out (by omega)).mono ?_
    rintro e w1 ⟨A1, c1, rfl, H1, hb1⟩
    have hB1 := Lib.hid hb1
    obtain ⟨hc0, hc1, hf0, hf1, hs⟩ := box_in HH.out.2 hb1
    clear hb1
    go_wp2_with fail
    refine (parts_is _ b y true _ (HIB.out.into (step_below HW.out hB1.out)) HY.out HQ.out (by omega)).mono ?_
    rintro e w2 ⟨B1, d1, rfl, H2, hb2⟩
    have hB2 := Lib.hid (step_below hB1.out hb2)
    have H1' := Lib.hid (H1.out.into hb2)
    clear hb2 hc0 hc1 hf0 hf1 hs hB1 H1
    have HC : Hid (cmpI a b = 1) := cmpI_gt (by have := of_decide_eq_false HP.out; have := of_decide_eq_true HQ.out; omega)
    have HD := Lib.hid (step_below HW.out hB2.out)
    go_wp2
    go_ret
    rw [HC.out]
    exact ⟨rfl, HD.out⟩
  · have HH := Lib.hid (heap2 w (.cells #[.bool true, .slice A (len x) c] 27) (.cells #[.bool false, .slice B (len y) d] 27))
    have HW := Lib.hid (below2 w (.cells #[.bool true, .slice A (len x) c] 27) (.cells #[.bool false, .slice B (len y) d] 27))
    go_enter Tryd.func26, Tryd.ntmps26
    go_wp2_with fail
    generalize (w.alloc (.cells #[.bool true, .slice A (len x) c] 27)).alloc (.cells #[.bool false, .slice B (len y) d] 27) = W at *
    refine (parts_is _ a x true _ (HIA.out.into HW.out) HX.out HP.out (by omega)).mono ?_
    rintro e w1 ⟨A1, c1, rfl, H1, hb1⟩
    have hB1 := Lib.hid hb1
    obtain ⟨hc0, hc1, hf0, hf1, hs⟩ := box_in HH.out.2 hb1
    clear hb1
    go_wp2_with fail
    refine (parts_is _ b y false _ (HIB.out.into (step_below HW.out hB1.out)) HY.out HQ.out (by omega)).mono ?_
    rintro e w2 ⟨B1, d1, rfl, H2, hb2⟩
    have hB2 := Lib.hid (step_below hB1.out hb2)
    have H1' := Lib.hid (H1.out.into hb2)
    clear hb2 hc0 hc1 hf0 hf1 hs hB1 H1
    have HC : Hid (cmpI a b = -1) := cmpI_lt (by have := of_decide_eq_true HP.out; have := of_decide_eq_false HQ.out; omega)
    have HD := Lib.hid (step_below HW.out hB2.out)
    go_wp2
    go_ret
    rw [HC.out]
    exact ⟨rfl, HD.out⟩
  · have HH := Lib.hid (heap2 w (.cells #[.bool true, .slice A (len x) c] 27) (.cells #[.bool true, .slice B (len y) d] 27))
    have HW := Lib.hid (below2 w (.cells #[.bool true, .slice A (len x) c] 27) (.cells #[.bool true, .slice B (len y) d] 27))
    go_enter Tryd.func26, Tryd.ntmps26
    go_wp2_with fail
    generalize (w.alloc (.cells #[.bool true, .slice A (len x) c] 27)).alloc (.cells #[.bool true, .slice B (len y) d] 27) = W at *
    refine (parts_is _ a x true _ (HIA.out.into HW.out) HX.out HP.out (by omega)).mono ?_
    rintro e w1 ⟨A1, c1, rfl, H1, hb1⟩
    have hB1 := Lib.hid hb1
    obtain ⟨hc0, hc1, hf0, hf1, hs⟩ := box_in HH.out.2 hb1
    clear hb1
    go_wp2_with fail
    refine (parts_is _ b y true _ (HIB.out.into (step_below HW.out hB1.out)) HY.out HQ.out (by omega)).mono ?_
    rintro e w2 ⟨B1, d1, rfl, H2, hb2⟩
    have hB2 := Lib.hid (step_below hB1.out hb2)
    have H1' := Lib.hid (H1.out.into hb2)
    clear hb2 hc0 hc1 hf0 hf1 hs hB1 H1
    have HC : Hid (cmpI a b = cmpN y x) := by
      have h1 := SA.out
      have h2 := SB.out
      rw [← h1, ← h2]
      exact cmpI_neg x y
    go_wp2_with fail
    refine (compare_any _ _ _ _ y x _ H2.out.mem.2.2 H1'.out.mem.2.2 hlb hla).mono ?_
    rintro e w2' ⟨rfl, nd, rfl⟩
    have HD := Lib.hid (step_below HW.out (step_below hB2.out (below_drewN w2 nd)))
    rw [← HC.out]
    go_wp2
    go_ret
    exact ⟨rfl, HD.out⟩
end Go.Proofs.YtjajmonhcnmidaaDoor
/- append onto a row of limbs of the call's own. -/
namespace Go.Proofs.YtjajmonhcnmidaaDoor
open Go.RowKit

/-- v owns the limbs ms, in a block from base on. -/
def Owns (w : World) (base : Nat) (v : Value) (ms : List Nat) : Prop := w.ownsRow base 38 1 v ms.length (ms.map (fun (x : Nat) => Value.int .u32 (x : Int)))

theorem Owns.empty (w : World) {base : Nat} (hb : base ≤ w.heap.size) : Owns (w.alloc (.cells #[] 38)) base (.slice (some ⟨w.heap.size, 0, none⟩) 0 0) [] :=
  ⟨by simp, .inr ⟨w.heap.size, 0, #[], rfl, hb, heap_alloc_new w _, Nat.le_refl _, by unfold maxLen; omega, by simp, by simp⟩⟩
theorem Owns.shape {w : World} {base : Nat} {v : Value} {ms : List Nat} (h : Owns w base v ms) : ∃ A c, v = .slice A ms.length c ∧ ms.length ≤ c ∧ c ≤ maxLen ∧ Mem w w.heap.size A ms := by
  obtain ⟨h1, h2⟩ := h
  rcases h2 with ⟨rfl, h0⟩ | ⟨g, cap, cur, rfl, hb, hg, hn, hm, hs, ht⟩
  · refine ⟨none, 0, by rw [h0], by omega, by unfold maxLen; omega, fun hn => by omega⟩
  · refine ⟨_, cap, rfl, hn, hm, fun _ => ⟨_, rfl, ?_, ⟨_, _, hg⟩, fun j x hx => ?_⟩⟩
    · show g < w.heap.size
      rcases Nat.lt_or_ge g w.heap.size with h | h
      · exact h
      · rw [Array.getElem?_eq_none h] at hg; cases hg
    · have hc := World.ownsRow.cells (w := w) (base := base) (e := 38) (size := 1) (v := .slice (some ⟨g, 0, none⟩) ms.length cap) (n := ms.length) (xs := ms.map (fun (x : Nat) => Value.int .u32 (x : Int))) ⟨h1, .inr ⟨g, cap, cur, rfl, hb, hg, hn, hm, hs, ht⟩⟩ (g := g) rfl
      exact hc j _ (by rw [List.getElem?_map, hx]; rfl)
theorem Owns.shapeL {w : World} {base : Nat} {v : Value} {ms : List Nat} (h : Owns w base v ms) : ∃ A L c, v = .slice A L c ∧ Hid (L = ms.length) ∧ L ≤ c ∧ c ≤ maxLen ∧ Mem w w.heap.size A ms := by
  obtain ⟨A, c, rfl, h1, h2, h3⟩ := h.shape
  exact ⟨A, _, c, rfl, rfl, h1, h2, h3⟩
theorem Owns.kept {w w' : World} {base : Nat} {v : Value} {ms : List Nat} (h : Owns w base v ms) {row : Option Nat} (hg : w.grownBy w' row) (hne : v.ownBlock = none ∨ v.ownBlock ≠ row) : Owns w' base v ms := World.ownsRow.kept h hg hne
theorem Owns.alloc {w : World} {base : Nat} {v : Value} {ms : List Nat} (h : Owns w base v ms) (o : Obj) : Owns (w.alloc o) base v ms := World.ownsRow.alloc h o
theorem Owns.base_le {w : World} {base : Nat} {v : Value} {ms : List Nat} (h : Owns w base v ms) : ∀ k, v.ownBlock = some k → base ≤ k := fun k hk => (World.ownsRow.lt h k hk).1
theorem Owns.nat {w : World} {base : Nat} {v : Value} {ms : List Nat} (h : Owns w base v ms) (h32 : L32 ms) (hl : ms = [] ∨ ms.getD (ms.length - 1) 0 ≠ 0) : NatAt w v (val ms) := by
  obtain ⟨A, c, rfl, hc, _, hm⟩ := h.shape
  have e := limbs_of_val h32 hl
  exact ⟨A, c, by rw [← len_limbs, e], by rw [← len_limbs, e]; exact hc, by rw [e]; exact hm⟩

theorem run_append_nil_any {w : World} (base : Nat) (t ty e : TypeId) (i : TypeInfo) (size : Nat) (ht : Tryd.prog.underlying t = some (.slice e)) (hi : Tryd.prog.info? e = some i)
    (v : Value) (n : Nat) (xs : List Value) (hown : w.ownsRow base e size v n xs) (c : Nat) : (Builtin.append_ #[t, t] ty #[v, .slice none 0 c]).run Tryd.prog w = .ok v w := by
  rcases hown.2 with ⟨rfl, _⟩ | ⟨g, cap, cur, rfl, _, _, hnc, _⟩
  · simp [Builtin.append_, run_underlying ht, sizeOf, typeInfo, hi, Builtin.lenOf, Builtin.firstCells]
  · simp [Builtin.append_, run_underlying ht, sizeOf, typeInfo, hi, Builtin.lenOf, Builtin.firstCells, hnc, storeCells]
set_option maxRecDepth 100000 in
theorem wpList_append_limbs {w : World} {ops : Array Oper} {rest : List Oper} {o : Oper} {a : Act} {Q : Exit → Act → World → Prop} (hgd : o.guard = none) (s x : Operand)
    (ho : o.op = .call { callee := .builtin .append, args := #[s, x], argTypes := #[22, 22] })
    (base : Nat) (v : Value) (ms : List Nat) (hs : a.eval s = v) (hown : Owns w base v ms) (B : Nat) (A : Option Addr) (m c : Nat) (ns : List Nat) (hx : a.eval x = .slice A m c)
    (hr : RawMem w B A ns) (hm : ns.length = m) (hb : ms.length + m ≤ 17592186044416) (hbase : base ≤ w.heap.size)
    (h : ∀ v' w', Owns w' base v' (ms ++ ns) → w.grownBy w' v.ownBlock → (v'.ownBlock = v.ownBlock ∨ v'.ownBlock = some w.heap.size) → wpList Tryd.prog ops Q rest (a.put o.dst v') w') : wpList Tryd.prog ops Q (o :: rest) a w := by
  obtain ⟨i, hi, hz, hsz, hby⟩ := info_parts info32
  rcases A with _ | ad
  · have h0 : ns = [] := by
      rcases ns with _ | ⟨y, r⟩
      · rfl
      · obtain ⟨ad, e, _⟩ := hr (by simp)
        cases e
    subst h0
    have hm0 : m = 0 := by simpa using hm.symm
    subst hm0
    refine wpList_plain hgd fun K hK => ?_
    have hrun := run_append_nil_any (w := w) base 22 o.type 38 i 1 Tryd.underlying22 hi v _ _ hown c
    unfold Oper.wp
    simp [execOp, ho, resolve, invoke, builtin, hs, hx, hrun, Result.andThen]
    exact hK _ _ (h v w (by rw [List.append_nil]; exact hown) (World.grownBy.refl w _) (.inl rfl))
  · refine wpList_append_own_at w hgd s x _ ho base 38 i (.int .u32 0) 1 4 Tryd.underlying22 hi hz hsz hby rfl (by decide) v _ _ hs hown ad m c (ns.map (fun (x : Nat) => Value.int .u32 (x : Int))) hx (by rw [List.length_map, hm, Nat.mul_one]) ?_ ?_ (by unfold maxLen; omega) (by omega) hbase ?_
    · intro j u hu
      rw [List.getElem?_map] at hu
      cases hx2 : ns[j]? with
      | none => rw [hx2] at hu; cases hu
      | some y =>
        rw [hx2] at hu
        have hpos : 0 < ns.length := by have := (List.getElem?_eq_some_iff.1 hx2).1; omega
        obtain ⟨ad', e, _, hc⟩ := hr hpos
        injection e with e
        subst e
        rw [hc j y hx2]
        exact hu
    · intro u hu
      obtain ⟨y, _, rfl⟩ := List.mem_map.1 hu
      rfl
    · intro v' w' h1 h2 _ h4
      refine h v' w' ?_ h2 h4
      unfold Owns
      rw [List.length_append, hm, List.map_append]
      exact h1
end Go.Proofs.YtjajmonhcnmidaaDoor
