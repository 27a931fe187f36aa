/- Knuth's algorithm D: what its loops keep, and why a guess is right or one too large. Plain lemmas, no walk. -/
import Derived.Test.YtjajmonhcnmidaaDoorqShort
import Derived.Test.YtjajmonhcnmidaaDoorGc
import Derived.Test.YtjajmonhcnmidaaDoorShelf
namespace Go.Proofs.YtjajmonhcnmidaaDoor
open Go.RowKit

/-! ### Parts of lists -/
theorem drop_set_at (ds : List Nat) (i k v : Nat) : (ds.set (i + k) v).drop i = (ds.drop i).set k v := by
  apply List.ext_getElem?
  intro j
  rw [List.getElem?_drop, List.getElem?_set, List.getElem?_set, List.getElem?_drop]
  by_cases h : i + k = i + j
  · have : k = j := by omega
    subst this
    simp only [if_true, List.length_drop]
    by_cases h2 : i + k < ds.length
    · rw [if_pos h2, if_pos (by omega)]
    · rw [if_neg h2, if_neg (by omega)]
  · rw [if_neg h, if_neg (by omega)]
theorem getD_drop (ds : List Nat) (i k : Nat) : (ds.drop i).getD k 0 = ds.getD (i + k) 0 := by
  simp [List.getD, List.getElem?_drop]
theorem val_take_drop (ds : List Nat) (i : Nat) (h : i ≤ ds.length) : val ds = val (ds.take i) + 4294967296 ^ i * val (ds.drop i) := val_split ds i h
theorem getD_of_drop {xs ys : List Nat} {i j : Nat} (h : xs.drop i = ys.drop i) (hj : i ≤ j) : xs.getD j 0 = ys.getD j 0 := by
  have := congrArg (fun l => l.getD (j - i) 0) h
  simp only [getD_drop] at this
  rwa [show i + (j - i) = j by omega] at this

/-- Slices that are read while block g is written. -/
def MemN (w : World) (g : Nat) (A : Option Addr) (ms : List Nat) : Prop := ∃ ad, A = some ad ∧ ad.block ≠ g ∧ ∀ (j x : Nat), ms[j]? = some x → w.cell? (ad.add j) = some (.int .u32 (x : Int))
theorem Mem.apart {w : World} {g : Nat} {A : Option Addr} {ms : List Nat} (h : Mem w g A ms) (hn : 0 < ms.length) : MemN w g A ms := by
  obtain ⟨ad, e, hb, _, hc⟩ := h hn
  exact ⟨ad, e, by omega, hc⟩
theorem MemN.only {w w' : World} {g : Nat} {A : Option Addr} {ms : List Nat} (h : MemN w g A ms) (hg : w.grownBy w' (some g)) : MemN w' g A ms := by
  obtain ⟨ad, e, hb, hc⟩ := h
  refine ⟨ad, e, hb, fun j x hx => ?_⟩
  have h1 := hc j x hx
  have hl := World.block_lt_of_cell? _ _ h1
  have hb' : (ad.add j).block ≠ g := by rw [block_of_add']; exact hb
  rw [World.cell?_of_block (w := w) (hg.block _ hl (by simpa using hb'))]
  exact h1
theorem MemN.below {w w' : World} {g : Nat} {A : Option Addr} {ms : List Nat} (h : MemN w g A ms) (hb : Below w.heap.size w w') : MemN w' g A ms := by
  obtain ⟨ad, e, hn, hc⟩ := h
  refine ⟨ad, e, hn, fun j x hx => ?_⟩
  have h1 := hc j x hx
  exact (hb.cell (World.block_lt_of_cell? _ _ h1)).trans h1
theorem MemN.at_ {w : World} {g : Nat} {A : Option Addr} {ms : List Nat} {k : Nat} (h : MemN w g A ms) (hk : k < ms.length) : ∃ ad, A = some ad ∧ ad.block ≠ g ∧ w.cell? (ad.add k) = some (.int .u32 (ms[k] : Nat)) := by
  obtain ⟨ad, e, hb, hc⟩ := h
  exact ⟨ad, e, hb, hc k _ (List.getElem?_eq_getElem hk)⟩
theorem grown_refl (w : World) (row : Option Nat) : w.grownBy w row := ⟨rfl, rfl, rfl, Nat.le_refl _, fun _ _ _ => rfl⟩
theorem grown_trans {w w1 w2 : World} {g : Nat} (h : w.grownBy w1 (some g)) (k : w1.grownBy w2 (some g)) : w.grownBy w2 (some g) :=
  ⟨k.os.trans h.os, k.tape.trans h.tape, k.output.trans h.output, Nat.le_trans h.size k.size, fun j hj hne => (k.block j (Nat.lt_of_lt_of_le hj h.size) hne).trans (h.block j hj hne)⟩

/-! ### A multiple is subtracted in place -/
def SubmRel (w : World) (g i : Nat) (rs X : List Nat) (q : Nat) (wr : World) (k c b : Nat) : Prop :=
  ∃ ds : List Nat, ds.length = rs.length ∧ L32 ds ∧ Row wr g ds ∧ ds.take i = rs.take i ∧ ds.drop (i + k) = rs.drop (i + k) ∧ val ((ds.drop i).take k) + q * val (X.take k) = val ((rs.drop i).take k) + 4294967296 ^ k * (c + b) ∧ w.grownBy wr (some g)
theorem SubmRel.start {w : World} {g i q : Nat} {rs X : List Nat} (hr : Row w g rs) (h32 : L32 rs) : SubmRel w g i rs X q w 0 0 0 :=
  ⟨rs, rfl, h32, hr, rfl, rfl, by simp [val], grown_refl _ _⟩
theorem SubmRel.cell {w wr : World} {g i q k c b : Nat} {rs X : List Nat} (h : SubmRel w g i rs X q wr k c b) {j : Nat} (hk : k ≤ j) (hj : i + j < rs.length) : wr.cell? ⟨g, i + j, none⟩ = some (.int .u32 ((rs.getD (i + j) 0 : Nat) : Int)) ∧ wr.frozen? ⟨g, i + j, none⟩ = false := by
  obtain ⟨ds, hl, h32, hr, ht, hd, he, hg⟩ := h
  refine ⟨?_, hr.frozen _⟩
  rw [hr.cell (show i + j < ds.length by omega), ← getD_of_lt (show i + j < ds.length by omega), getD_of_drop hd (by omega)]
theorem set_drop_take (ds : List Nat) (i k v : Nat) (h : i + k < ds.length) : val (((ds.set (i + k) v).drop i).take (k + 1)) = val ((ds.drop i).take k) + 4294967296 ^ k * v := by
  rw [drop_set_at, take_set_succ _ _ _ (by rw [List.length_drop]; omega)]
theorem SubmRel.step {w wr : World} {g i q k c b p x lo c' b' : Nat} {rs X : List Nat} (h : SubmRel w g i rs X q wr k c b) (hi : i + k < rs.length) (hp : rs.getD (i + k) 0 = p) (hx : X.getD k 0 = x)
    {v : Nat} (hv : v < 4294967296) (e1 : c + q * x = lo + 4294967296 * c') (e2 : v + lo + b = p + 4294967296 * b') (u : Int) (hu : u = (v : Int)) : SubmRel w g i rs X q (wr.setCell ⟨g, i + k, none⟩ (.int .u32 u)) (k + 1) c' b' := by
  subst hu
  obtain ⟨ds, hl, h32, hr, ht, hd, he, hg⟩ := h
  refine ⟨ds.set (i + k) v, by simpa using hl, h32.set hv, hr.set_ _ _, ?_, ?_, ?_, only_set hg _ _⟩
  · rw [List.take_set_of_le (by omega)]; exact ht
  · rw [List.drop_set_of_lt (by omega)]
    have := congrArg (List.drop 1) hd
    rw [List.drop_drop, List.drop_drop] at this
    exact this
  · rw [set_drop_take _ _ _ _ (by omega), val_take_succ X, val_take_succ (rs.drop i), getD_drop, hp, hx, Nat.pow_succ]
    generalize 4294967296 ^ k = P at *
    have e3 : P * v + P * (q * x) + P * (c + b) = P * p + P * 4294967296 * (c' + b') := by
      rw [Nat.mul_assoc, ← Nat.mul_add, ← Nat.mul_add, ← Nat.mul_add]
      congr 1
      omega
    rw [Nat.mul_add q, Nat.mul_left_comm q P x]
    omega
/-- The last store. -/
theorem SubmRel.finish {w wr : World} {g i q c b p v : Nat} {rs X : List Nat} {neg : Bool} (h : SubmRel w g i rs X q wr X.length c b) (hi : i + X.length < rs.length) (hp : rs.getD (i + X.length) 0 = p) (hv : v < 4294967296) (e : v + c + b = p + 4294967296 * (if neg then 1 else 0)) (u : Int) (hu : u = (v : Int)) :
    ∃ ds : List Nat, ds.length = rs.length ∧ L32 ds ∧ Row (wr.setCell ⟨g, i + X.length, none⟩ (.int .u32 u)) g ds ∧ ds.take i = rs.take i ∧ ds.drop (i + (X.length + 1)) = rs.drop (i + (X.length + 1)) ∧
      val ((ds.drop i).take (X.length + 1)) + q * val X = val ((rs.drop i).take (X.length + 1)) + 4294967296 ^ (X.length + 1) * (if neg then 1 else 0) ∧ w.grownBy (wr.setCell ⟨g, i + X.length, none⟩ (.int .u32 u)) (some g) := by
  have h2 := h.step (x := 0) (lo := c) (c' := 0) (b' := if neg then 1 else 0) hi hp (by simp [List.getD]) hv (by omega) (by omega) u hu
  obtain ⟨ds, hl, h32, hr, ht, hd, he, hg⟩ := h2
  refine ⟨ds, hl, h32, hr, ht, hd, ?_, hg⟩
  rw [List.take_of_length_le (show X.length ≤ X.length + 1 by omega), Nat.zero_add] at he
  exact he

/-! ### It is added back -/
def AddbRel (w : World) (g i : Nat) (rs X : List Nat) (wr : World) (k c : Nat) : Prop :=
  ∃ ds : List Nat, ds.length = rs.length ∧ L32 ds ∧ Row wr g ds ∧ ds.take i = rs.take i ∧ ds.drop (i + k) = rs.drop (i + k) ∧ val ((ds.drop i).take k) + 4294967296 ^ k * c = val ((rs.drop i).take k) + val (X.take k) ∧ w.grownBy wr (some g)
theorem AddbRel.start {w : World} {g i : Nat} {rs X : List Nat} (hr : Row w g rs) (h32 : L32 rs) : AddbRel w g i rs X w 0 0 :=
  ⟨rs, rfl, h32, hr, rfl, rfl, by simp [val], grown_refl _ _⟩
theorem AddbRel.cell {w wr : World} {g i k c : Nat} {rs X : List Nat} (h : AddbRel w g i rs X wr k c) {j : Nat} (hk : k ≤ j) (hj : i + j < rs.length) : wr.cell? ⟨g, i + j, none⟩ = some (.int .u32 ((rs.getD (i + j) 0 : Nat) : Int)) ∧ wr.frozen? ⟨g, i + j, none⟩ = false := by
  obtain ⟨ds, hl, h32, hr, ht, hd, he, hg⟩ := h
  refine ⟨?_, hr.frozen _⟩
  rw [hr.cell (show i + j < ds.length by omega), ← getD_of_lt (show i + j < ds.length by omega), getD_of_drop hd (by omega)]
theorem AddbRel.step {w wr : World} {g i k c p x c' : Nat} {rs X : List Nat} (h : AddbRel w g i rs X wr k c) (hi : i + k < rs.length) (hp : rs.getD (i + k) 0 = p) (hx : X.getD k 0 = x)
    {v : Nat} (hv : v < 4294967296) (e : v + 4294967296 * c' = c + (p + x)) (u : Int) (hu : u = (v : Int)) : AddbRel w g i rs X (wr.setCell ⟨g, i + k, none⟩ (.int .u32 u)) (k + 1) c' := by
  subst hu
  obtain ⟨ds, hl, h32, hr, ht, hd, he, hg⟩ := h
  refine ⟨ds.set (i + k) v, by simpa using hl, h32.set hv, hr.set_ _ _, ?_, ?_, ?_, only_set hg _ _⟩
  · rw [List.take_set_of_le (by omega)]; exact ht
  · rw [List.drop_set_of_lt (by omega)]
    have := congrArg (List.drop 1) hd
    rw [List.drop_drop, List.drop_drop] at this
    exact this
  · rw [set_drop_take _ _ _ _ (by omega), val_take_succ X, val_take_succ (rs.drop i), getD_drop, hp, hx, Nat.pow_succ]
    generalize 4294967296 ^ k = P at *
    have e3 : P * v + P * 4294967296 * c' = P * c + (P * p + P * x) := by
      rw [Nat.mul_assoc, ← Nat.mul_add, ← Nat.mul_add, ← Nat.mul_add]
      congr 1
    omega
theorem AddbRel.finish {w wr : World} {g i c p v : Nat} {rs X : List Nat} (h : AddbRel w g i rs X wr X.length c) (hi : i + X.length < rs.length) (hp : rs.getD (i + X.length) 0 = p) (hv : v < 4294967296) (e : ∃ f, v + 4294967296 * f = c + p) (u : Int) (hu : u = (v : Int)) :
    ∃ (ds : List Nat) (f : Nat), ds.length = rs.length ∧ L32 ds ∧ Row (wr.setCell ⟨g, i + X.length, none⟩ (.int .u32 u)) g ds ∧ ds.take i = rs.take i ∧ ds.drop (i + (X.length + 1)) = rs.drop (i + (X.length + 1)) ∧
      val ((ds.drop i).take (X.length + 1)) + 4294967296 ^ (X.length + 1) * f = val ((rs.drop i).take (X.length + 1)) + val X ∧ w.grownBy (wr.setCell ⟨g, i + X.length, none⟩ (.int .u32 u)) (some g) := by
  obtain ⟨f, e⟩ := e
  have h2 := h.step (x := 0) (c' := f) hi hp (by simp [List.getD]) hv (by omega) u hu
  obtain ⟨ds, hl, h32, hr, ht, hd, he, hg⟩ := h2
  refine ⟨ds, f, hl, h32, hr, ht, hd, ?_, hg⟩
  rw [List.take_of_length_le (show X.length ≤ X.length + 1 by omega)] at he
  exact he

/-! ### Shifts -/
def ShlRel (w : World) (g n H : Nat) (X : List Nat) (wr : World) (k c : Nat) : Prop :=
  ∃ ds : List Nat, ds.length = n + 1 ∧ L32 ds ∧ Row wr g ds ∧ val (ds.take k) + 4294967296 ^ k * c = val (X.take k) * H ∧ Below w.heap.size w wr
theorem ShlRel.start (w : World) (n H : Nat) (X : List Nat) : ShlRel w w.heap.size n H X (w.alloc (rowObj (List.replicate (n + 1) 0))) 0 0 :=
  ⟨_, by simp, L32.replicate _, Row.new _ _, by simp [val], below_alloc _ _⟩
theorem ShlRel.cell {w wr : World} {g n H k c : Nat} {X : List Nat} (h : ShlRel w g n H X wr k c) {i : Nat} (hi : i < n + 1) : ∃ x : Nat, wr.cell? ⟨g, i, none⟩ = some (.int .u32 (x : Int)) ∧ wr.frozen? ⟨g, i, none⟩ = false := by
  obtain ⟨ds, hl, h32, hr, he, hb⟩ := h
  exact ⟨_, hr.cell (by omega), hr.frozen i⟩
theorem ShlRel.step {w wr : World} {g n H k c p s : Nat} {X : List Nat} (h : ShlRel w g n H X wr k c) (hk : k < n + 1) (hg : w.heap.size ≤ g) (hp : X.getD k 0 = p) (hs : s = c + p * H) (u : Int) (hu : u = (s : Int) % 4294967296) :
    ShlRel w g n H X (wr.setCell ⟨g, k, none⟩ (.int .u32 u)) (k + 1) (s / 4294967296) := by
  obtain ⟨ds, hl, h32, hr, he, hb⟩ := h
  have e : u = ((s % 4294967296 : Nat) : Int) := by omega
  rw [e]
  refine ⟨ds.set k (s % 4294967296), by simpa using hl, h32.set (by omega), hr.set_ k _, ?_, hb.setCell (by simpa using hg) _⟩
  rw [take_set_succ _ _ _ (by omega), val_take_succ X, hp, Nat.pow_succ]
  have e1 : s = 4294967296 * (s / 4294967296) + s % 4294967296 := by omega
  generalize s / 4294967296 = d at *
  generalize s % 4294967296 = r at *
  generalize 4294967296 ^ k = P at *
  rw [Nat.add_mul, Nat.mul_assoc P p H]
  generalize p * H = pH at *
  have e2 : P * (c + pH) = P * (4294967296 * d + r) := by rw [← hs, e1]
  rw [Nat.mul_add, Nat.mul_add, ← Nat.mul_assoc] at e2
  omega
theorem ShlRel.finish {w wr : World} {g n H c : Nat} {X : List Nat} (h : ShlRel w g n H X wr n c) (hg : w.heap.size ≤ g) (hc : c < 4294967296) (hX : X.length = n) (u : Int) (hu : u = (c : Int)) :
    ∃ ds : List Nat, ds.length = n + 1 ∧ L32 ds ∧ Row (wr.setCell ⟨g, n, none⟩ (.int .u32 u)) g ds ∧ val ds = val X * H ∧ Below w.heap.size w (wr.setCell ⟨g, n, none⟩ (.int .u32 u)) := by
  subst hu
  obtain ⟨ds, hl, h32, hr, he, hb⟩ := h
  refine ⟨ds.set n c, by simpa using hl, h32.set hc, hr.set_ n c, ?_, hb.setCell (by simpa using hg) _⟩
  have h1 := take_set_succ ds n c (by omega)
  rw [List.take_of_length_le (by simp [hl])] at h1
  rw [h1, he, List.take_of_length_le (by omega)]

theorem div_drop {X : List Nat} (h32 : L32 X) (k : Nat) (hk : k ≤ X.length) : val X / 4294967296 ^ k = val (X.drop k) := by
  have h1 := val_split X k hk
  have h2 := val_lt (h32.take k)
  rw [List.length_take, Nat.min_eq_left hk] at h2
  rw [h1, Nat.add_mul_div_left _ _ (Nat.pow_pos (by decide)), Nat.div_eq_of_lt h2, Nat.zero_add]
/-- The limbs below k of the quotient by H. -/
def ShrRel (w : World) (g n H : Nat) (X : List Nat) (wr : World) (k : Nat) : Prop :=
  ∃ ds : List Nat, ds.length = n ∧ L32 ds ∧ Row wr g ds ∧ val (ds.take k) = val X / H % 4294967296 ^ k ∧ Below w.heap.size w wr
theorem ShrRel.start (w : World) (n H : Nat) (X : List Nat) : ShrRel w w.heap.size n H X (w.alloc (rowObj (List.replicate n 0))) 0 :=
  ⟨_, by simp, L32.replicate _, Row.new _ _, by simp [val, Nat.mod_one], below_alloc _ _⟩
theorem ShrRel.cell {w wr : World} {g n H k : Nat} {X : List Nat} (h : ShrRel w g n H X wr k) {i : Nat} (hi : i < n) : ∃ x : Nat, wr.cell? ⟨g, i, none⟩ = some (.int .u32 (x : Int)) ∧ wr.frozen? ⟨g, i, none⟩ = false := by
  obtain ⟨ds, hl, h32, hr, he, hb⟩ := h
  exact ⟨_, hr.cell (by omega), hr.frozen i⟩
theorem shr_limb {X : List Nat} (h32 : L32 X) {k H e : Nat} (hk : k < X.length) (hH : 4294967296 = H * e) (h0 : 0 < H) : (X.getD k 0 + 4294967296 * X.getD (k + 1) 0) / H % 4294967296 = val X / H / 4294967296 ^ k % 4294967296 := by
  rw [Nat.div_div_eq_div_mul, Nat.mul_comm H, ← Nat.div_div_eq_div_mul, div_drop h32 k (by omega), drop_cons hk, val]
  rcases Nat.lt_or_ge (k + 1) X.length with h1 | h1
  · rw [drop_cons h1, val]
    generalize X.getD k 0 = x
    generalize X.getD (k + 1) 0 = y
    generalize val (X.drop (k + 1 + 1)) = r
    have e1 : x + 4294967296 * (y + 4294967296 * r) = (x + 4294967296 * y) + H * (e * (4294967296 * r)) := by
      rw [Nat.mul_add, ← Nat.mul_assoc H e, ← hH]; omega
    rw [e1, Nat.add_mul_div_left _ _ h0, Nat.mul_left_comm e, Nat.add_mul_mod_self_left]
  · rw [List.drop_of_length_le h1, show X.getD (k + 1) 0 = 0 from by simp [List.getD, List.getElem?_eq_none h1]]
    rfl
theorem ShrRel.step {w wr : World} {g n H k e p q : Nat} {X : List Nat} (h : ShrRel w g n H X wr k) (hX : X.length = n) (h32 : L32 X) (hk : k < n) (hg : w.heap.size ≤ g) (hp : X.getD k 0 = p) (hq : X.getD (k + 1) 0 = q) (hH : 4294967296 = H * e) (h0 : 0 < H) (u : Int) (hu : u = (((p + 4294967296 * q) / H % 4294967296 : Nat) : Int)) :
    ShrRel w g n H X (wr.setCell ⟨g, k, none⟩ (.int .u32 u)) (k + 1) := by
  subst hu
  obtain ⟨ds, hl, hd, hr, he, hb⟩ := h
  refine ⟨ds.set k _, by simpa using hl, hd.set (Nat.mod_lt _ (by decide)), hr.set_ k _, ?_, hb.setCell (by simpa using hg) _⟩
  rw [take_set_succ _ _ _ (by omega), he, ← hp, ← hq, shr_limb h32 (by omega) hH h0, Nat.mod_pow_succ]
theorem ShrRel.finish {w wr : World} {g n H : Nat} {X : List Nat} (h : ShrRel w g n H X wr n) (hX : X.length = n) (h32 : L32 X) : ∃ ds : List Nat, ds.length = n ∧ L32 ds ∧ Row wr g ds ∧ val ds = val X / H ∧ Below w.heap.size w wr := by
  obtain ⟨ds, hl, hd, hr, he, hb⟩ := h
  refine ⟨ds, hl, hd, hr, ?_, hb⟩
  rw [List.take_of_length_le (by omega)] at he
  rw [he]
  refine Nat.mod_eq_of_lt (Nat.lt_of_le_of_lt (Nat.div_le_self _ _) ?_)
  rw [← hX]
  exact val_lt h32
end Go.Proofs.YtjajmonhcnmidaaDoor
namespace Go.Proofs.YtjajmonhcnmidaaDoor
open Go.RowKit

theorem lin3 (P x y z : Nat) : P * x + P * 4294967296 * y + P * 4294967296 * 4294967296 * z = P * (x + 4294967296 * (y + 4294967296 * z)) := by
  rw [Nat.mul_add, Nat.mul_add, Nat.mul_add, ← Nat.mul_assoc P, ← Nat.mul_assoc 4294967296 4294967296 z, ← Nat.mul_assoc P, Nat.mul_assoc P 4294967296 4294967296, Nat.add_assoc]
theorem top3 (l : List Nat) (m : Nat) : val (l.take (m + 3)) = val (l.take m) + 4294967296 ^ m * (l.getD m 0 + 4294967296 * (l.getD (m + 1) 0 + 4294967296 * l.getD (m + 2) 0)) := by
  have e1 : 4294967296 ^ (m + 1) = 4294967296 ^ m * 4294967296 := Nat.pow_succ ..
  have e2 : 4294967296 ^ (m + 2) = 4294967296 ^ m * 4294967296 * 4294967296 := by rw [show m + 2 = m + 1 + 1 from rfl, Nat.pow_succ, e1]
  rw [show m + 3 = m + 2 + 1 from rfl, val_take_succ, show m + 2 = m + 1 + 1 from rfl, val_take_succ, val_take_succ, show m + 1 + 1 = m + 2 from rfl, e1, e2, ← lin3]
  omega
theorem top2 (l : List Nat) (m : Nat) : val (l.take (m + 2)) = val (l.take m) + 4294967296 ^ m * (l.getD m 0 + 4294967296 * l.getD (m + 1) 0) := by
  rw [show m + 2 = m + 1 + 1 from rfl, val_take_succ, val_take_succ, Nat.pow_succ, Nat.mul_add, Nat.mul_assoc, Nat.add_assoc]

/-- What the leading limbs tell of the quotient. -/
theorem guess_lo {V D T3 D2 B lp ld Q : Nat} (hV : V = lp + B * T3) (hD : D = ld + B * D2) (hlp : lp < B) (hQ : Q * D ≤ V) (q : Nat) (hq : T3 < q * D2) : Q < q := by
  rcases Nat.lt_or_ge Q q with h | h
  · exact h
  · exfalso
    have h1 : q * D2 ≤ Q * D2 := Nat.mul_le_mul_right _ h
    have h2 : B * (T3 + 1) ≤ B * (Q * D2) := Nat.mul_le_mul_left _ (by omega)
    have h3 : Q * (B * D2) ≤ Q * D := Nat.mul_le_mul_left _ (by omega)
    rw [Nat.mul_left_comm] at h3
    rw [Nat.mul_add] at h2
    omega
theorem guess_hi {V D T3 D2 B lp ld q : Nat} (hV : V = lp + B * T3) (hD : D = ld + B * D2) (hld : ld < B) (hq : q * D2 ≤ T3) (hq2 : q ≤ D2 + 1) : (q - 1) * D ≤ V := by
  rcases Nat.eq_zero_or_pos q with rfl | h0
  · simp
  · obtain ⟨m, rfl⟩ : ∃ m, q = m + 1 := ⟨q - 1, by omega⟩
    simp only [Nat.add_sub_cancel]
    have h1 : m * D ≤ m * (B * (D2 + 1)) := Nat.mul_le_mul_left _ (by rw [Nat.mul_add]; omega)
    have h2 : m * (D2 + 1) ≤ T3 := by
      rw [Nat.add_mul] at hq
      rw [Nat.mul_add]
      omega
    have h3 : B * (m * (D2 + 1)) ≤ B * T3 := Nat.mul_le_mul_left _ h2
    rw [Nat.mul_left_comm] at h1
    omega
theorem div_is {V D q : Nat} (h1 : q * D ≤ V) (h2 : V < (q + 1) * D) : V / D = q ∧ V % D = V - q * D := by
  have hD : 0 < D := by
    rcases Nat.eq_zero_or_pos D with h | h
    · subst h; simp at h2
    · exact h
  have e : V / D = q := by
    rw [Nat.div_eq_iff hD]
    rw [Nat.add_mul] at h2
    omega
  refine ⟨e, ?_⟩
  have := Nat.div_add_mod V D
  rw [e, Nat.mul_comm] at this
  omega

/-- What is known of the remainder's list in a round. -/
structure Part (rs X : List Nat) (i n : Nat) : Prop where
  r32 : L32 rs
  x32 : L32 X
  xlen : X.length = n
  n2 : 2 ≤ n
  len : i + n < rs.length
  low : val (rs.drop (i + 1)) < val X
  norm : 2147483648 ≤ X.getD (n - 1) 0

theorem tail_zero {a b P V x : Nat} (h1 : V = a + P * x) (h2 : V < b) (h3 : b ≤ P) : x = 0 := by
  rcases Nat.eq_zero_or_pos x with h | h
  · exact h
  · have h4 : P * 1 ≤ P * x := Nat.mul_le_mul_left P h
    rw [Nat.mul_one] at h4
    omega
theorem Part.tail {rs X : List Nat} {i n : Nat} (h : Part rs X i n) : val (rs.drop (i + (n + 1))) = 0 := by
  have h1 := val_split (rs.drop (i + 1)) n (by rw [List.length_drop]; have := h.len; omega)
  have h2 := val_lt h.x32
  rw [h.xlen] at h2
  rw [List.drop_drop, show i + 1 + n = i + (n + 1) by omega] at h1
  exact tail_zero h1 h.low (Nat.le_of_lt h2)
theorem Part.whole {rs X : List Nat} {i n : Nat} (h : Part rs X i n) : val (rs.drop i) = val ((rs.drop i).take (n + 1)) := by
  have h1 := val_split (rs.drop i) (n + 1) (by rw [List.length_drop]; have := h.len; omega)
  rw [List.drop_drop, h.tail, Nat.mul_zero, Nat.add_zero] at h1
  exact h1
theorem Part.lt {rs X : List Nat} {i n : Nat} (h : Part rs X i n) : val ((rs.drop i).take (n + 1)) < 4294967296 * val X := by
  rw [← h.whole, drop_cons (by have := h.len; omega), val]
  have h1 := h.r32.at_ i
  have h2 := h.low
  omega
theorem Part.quot {rs X : List Nat} {i n : Nat} (h : Part rs X i n) : val ((rs.drop i).take (n + 1)) / val X < 4294967296 := by
  have hx : 0 < val X := by have := h.low; omega
  rw [Nat.div_lt_iff_lt_mul hx]
  exact h.lt
theorem lead_lt {V a P pn r ld d1 d2 : Nat} (h1 : V = a + P * 4294967296 * (pn + 4294967296 * r)) (h2 : V < ld + P * (d2 + 4294967296 * d1)) (h3 : ld < P) (h4 : d2 < 4294967296) (hlt : d1 < pn) : False := by
  have e1 : P * (4294967296 * (d1 + 1)) ≤ P * (4294967296 * (pn + 4294967296 * r)) := Nat.mul_le_mul_left _ (by omega)
  have e2 : P * (d2 + 4294967296 * d1 + 1) ≤ P * (4294967296 * (d1 + 1)) := Nat.mul_le_mul_left _ (by omega)
  rw [Nat.mul_add _ (d2 + 4294967296 * d1) 1, Nat.mul_one] at e2
  rw [Nat.mul_assoc] at h1
  omega
/-- The leading limbs, for guess. -/
theorem Part.lead {rs X : List Nat} {i n : Nat} (h : Part rs X i n) : ∃ (pn pn1 pn2 d1 d2 t B lp ld : Nat), rs.getD (i + n) 0 = pn ∧ rs.getD (i + (n - 1)) 0 = pn1 ∧ rs.getD (i + (n - 2)) 0 = pn2 ∧ X.getD (n - 1) 0 = d1 ∧ X.getD (n - 2) 0 = d2 ∧
    pn < 4294967296 ∧ pn1 < 4294967296 ∧ pn2 < 4294967296 ∧ d1 < 4294967296 ∧ d2 < 4294967296 ∧ 2147483648 ≤ d1 ∧ pn * 4294967296 + pn1 = t ∧ t < 18446744073709551616 ∧ pn ≤ d1 ∧
    val ((rs.drop i).take (n + 1)) = lp + B * (t * 4294967296 + pn2) ∧ val X = ld + B * (d1 * 4294967296 + d2) ∧ lp < B ∧ ld < B := by
  obtain ⟨m, rfl⟩ : ∃ m, n = m + 2 := ⟨n - 2, by have := h.n2; omega⟩
  have e1 := top3 (rs.drop i) m
  have e2 := top2 X m
  rw [List.take_of_length_le (show X.length ≤ m + 2 by rw [h.xlen]; exact Nat.le_refl _)] at e2
  rw [getD_drop, getD_drop, getD_drop] at e1
  have hlp := val_lt ((h.r32.drop i).take m)
  have hld := val_lt (h.x32.take m)
  have hl1 : ((rs.drop i).take m).length = m := by rw [List.length_take, List.length_drop]; have := h.len; omega
  have hl2 : (X.take m).length = m := by rw [List.length_take, h.xlen]; omega
  rw [hl1] at hlp
  rw [hl2] at hld
  have b0 := h.r32.at_ (i + (m + 2))
  have b1 := h.r32.at_ (i + (m + 1))
  have b2 := h.r32.at_ (i + m)
  have b3 := h.x32.at_ (m + 1)
  have b4 := h.x32.at_ m
  have hle : rs.getD (i + (m + 2)) 0 ≤ X.getD (m + 1) 0 := by
    have h1 := val_split (rs.drop (i + 1)) (m + 1) (by rw [List.length_drop]; have := h.len; omega)
    rw [List.drop_drop, show i + 1 + (m + 1) = i + (m + 2) by omega, show rs.drop (i + (m + 2)) = rs.getD (i + (m + 2)) 0 :: rs.drop (i + (m + 2) + 1) from drop_cons (by have := h.len; omega)] at h1
    simp only [val] at h1
    have h2 := h.low
    rw [e2] at h2
    rcases Nat.lt_or_ge (X.getD (m + 1) 0) (rs.getD (i + (m + 2)) 0) with hlt | hge
    · exfalso
      rw [Nat.pow_succ] at h1
      exact lead_lt h1 (show val (rs.drop (i + 1)) < _ from h2) hld b4 hlt
    · exact hge
  refine ⟨_, _, _, _, _, _, 4294967296 ^ m, _, _, rfl, rfl, rfl, rfl, rfl, b0, b1, b2, b3, b4, h.norm, rfl, ?_, hle, ?_, ?_, hlp, hld⟩
  · simp only [show m + 2 - 1 = m + 1 from rfl]
    omega
  · rw [e1]
    simp only [show m + 2 - 1 = m + 1 from rfl, show m + 2 - 2 = m from rfl]
    congr 2
    omega
  · rw [e2]
    simp only [show m + 2 - 1 = m + 1 from rfl, show m + 2 - 2 = m from rfl]
    congr 2
    omega

/-- The subtraction left no debt: the guess was right. -/
theorem round_pos {V D q u : Nat} (hu : u + q * D = V) (hQ : V / D ≤ q) (hD : 0 < D) : q = V / D ∧ u = V % D := by
  have h1 : q ≤ V / D := by rw [Nat.le_div_iff_mul_le hD]; omega
  have e : q = V / D := by omega
  refine ⟨e, ?_⟩
  have := Nat.div_add_mod V D
  rw [← e, Nat.mul_comm] at this
  omega
/-- It did: the guess was one too large, and the divisor is added back. -/
theorem round_neg {V D q u v f E : Nat} (hu : u + q * D = V + E) (huE : u < E) (hv : v + E * f = u + D) (hvE : v < E) (hDE : D < E) (hq : (q - 1) * D ≤ V) : q - 1 = V / D ∧ v = V % D ∧ 0 < q := by
  have h0 : 0 < q := by
    rcases Nat.eq_zero_or_pos q with rfl | h
    · omega
    · exact h
  obtain ⟨m, rfl⟩ : ∃ m, q = m + 1 := ⟨q - 1, by omega⟩
  simp only [Nat.add_sub_cancel] at hq ⊢
  have h2 : V < (m + 1) * D := by omega
  obtain ⟨e1, e2⟩ := div_is hq h2
  refine ⟨e1.symm, ?_, h0⟩
  rw [e2]
  rw [Nat.add_mul] at hu h2
  have hf : f = 1 := by
    rcases Nat.lt_trichotomy f 1 with h | h | h
    · have : f = 0 := by omega
      subst this
      omega
    · exact h
    · have := Nat.mul_le_mul_left E (show 2 ≤ f from h)
      omega
  subst hf
  omega

theorem whole_eq {T P V D : Nat} (h : D * (V / D) + V % D = V) : T + P * V = T + P * (V % D) + P * (V / D * D) := by
  rw [Nat.add_assoc, ← Nat.mul_add, Nat.mul_comm (V / D) D, Nat.add_comm (V % D), h]
/-- The whole after a round. -/
theorem round_whole {rs ds X : List Nat} {i n : Nat} (h : Part rs X i n) (hl : ds.length = rs.length) (ht : ds.take i = rs.take i) (hd : ds.drop (i + (n + 1)) = rs.drop (i + (n + 1))) (hv : val ((ds.drop i).take (n + 1)) = val ((rs.drop i).take (n + 1)) % val X) :
    val (ds.drop i) < val X ∧ val rs = val ds + 4294967296 ^ i * (val ((rs.drop i).take (n + 1)) / val X * val X) := by
  have hx : 0 < val X := by have := h.low; omega
  have e1 : val (ds.drop i) = val ((rs.drop i).take (n + 1)) % val X := by
    have h1 := val_split (ds.drop i) (n + 1) (by rw [List.length_drop]; have := h.len; omega)
    rw [List.drop_drop, hd, h.tail, hv, Nat.mul_zero, Nat.add_zero] at h1
    exact h1
  refine ⟨by rw [e1]; exact Nat.mod_lt _ hx, ?_⟩
  rw [val_take_drop rs i (by have := h.len; omega), val_take_drop ds i (by have := h.len; omega), ht, e1, h.whole]
  have := Nat.div_add_mod (val ((rs.drop i).take (n + 1))) (val X)
  exact whole_eq this

theorem digit_whole {qs : List Nat} {i q : Nat} (hi : i < qs.length) : val ((qs.set i q).drop i) = q + 4294967296 * val (qs.drop (i + 1)) := by
  have := drop_set_at qs i 0 q
  rw [Nat.add_zero] at this
  rw [this, drop_cons hi]
  rfl
theorem total_step {A2 D i q Q r r' : Nat} (h : A2 = 4294967296 ^ (i + 1) * Q * D + r) (hr : r = r' + 4294967296 ^ i * (q * D)) : A2 = 4294967296 ^ i * (q + 4294967296 * Q) * D + r' := by
  rw [Nat.pow_succ] at h
  generalize 4294967296 ^ i = P at *
  rw [h, hr, Nat.mul_add, Nat.add_mul, Nat.mul_assoc P q D, Nat.mul_assoc P 4294967296 Q]
  omega
end Go.Proofs.YtjajmonhcnmidaaDoor
