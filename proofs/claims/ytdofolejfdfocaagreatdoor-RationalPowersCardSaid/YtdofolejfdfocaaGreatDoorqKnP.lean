/- Knuth's algorithm D: what its loops keep, and why a guess is right or one too large. Plain lemmas, no walk. -/
import Derived.Test.YtdofolejfdfocaaGreatDoorqR3
import Derived.Test.YtdofolejfdfocaaGreatDoorqW2
namespace Go.Proofs.YtdofolejfdfocaaGreatDoor
open Go.RowKit

/-! ### Parts of lists -/
theorem drop_set_at (ds : List Nat) (i k v : Nat) : (ds.set (i + k) v).drop i = (ds.drop i).set k v := by
  apply List.ext_getElem?
  intro j
  rw [List.getElem?_drop, List.getElem?_set, List.getElem?_set, List.getElem?_drop]
  by_cases h : i + k = i + j
  · have : k = j := by omega
    subst this
    simp only [if_true, List.length_drop]
    by_cases h2 : i + k < ds.length
    · rw [if_pos h2, if_pos (by omega)]
    · rw [if_neg h2, if_neg (by omega)]
  · rw [if_neg h, if_neg (by omega)]
theorem getD_drop (ds : List Nat) (i k : Nat) : (ds.drop i).getD k 0 = ds.getD (i + k) 0 := by
  simp [List.getD, List.getElem?_drop]
theorem val_take_drop (ds : List Nat) (i : Nat) (h : i ≤ ds.length) : val ds = val (ds.take i) + 4294967296 ^ i * val (ds.drop i) := val_split ds i h
theorem getD_of_drop {xs ys : List Nat} {i j : Nat} (h : xs.drop i = ys.drop i) (hj : i ≤ j) : xs.getD j 0 = ys.getD j 0 := by
  have := congrArg (fun l => l.getD (j - i) 0) h
  simp only [getD_drop] at this
  rwa [show i + (j - i) = j by omega] at this

/-- Slices that are read while block g is written. -/
def MemN (w : World) (g : Nat) (A : Option Addr) (ms : List Nat) : Prop := ∃ ad, A = some ad ∧ ad.block ≠ g ∧ ∀ (j x : Nat), ms[j]? = some x → w.cell? (ad.add j) = some (.int .u32 (x : Int))
theorem Mem.apart {w : World} {g : Nat} {A : Option Addr} {ms : List Nat} (h : Mem w g A ms) (hn : 0 < ms.length) : MemN w g A ms := by
  obtain ⟨ad, e, hb, _, hc⟩ := h hn
  exact ⟨ad, e, by omega, hc⟩
theorem MemN.only {w w' : World} {g : Nat} {A : Option Addr} {ms : List Nat} (h : MemN w g A ms) (hg : w.grownBy w' (some g)) : MemN w' g A ms := by
  obtain ⟨ad, e, hb, hc⟩ := h
  refine ⟨ad, e, hb, fun j x hx => ?_⟩
  have h1 := hc j x hx
  have hl := World.block_lt_of_cell? _ _ h1
  have hb' : (ad.add j).block ≠ g := by rw [block_of_add']; exact hb
  rw [World.cell?_of_block (w := w) (hg.block _ hl (by simpa using hb'))]
  exact h1
theorem MemN.below {w w' : World} {g : Nat} {A : Option Addr} {ms : List Nat} (h : MemN w g A ms) (hb : Below w.heap.size w w') : MemN w' g A ms := by
  obtain ⟨ad, e, hn, hc⟩ := h
  refine ⟨ad, e, hn, fun j x hx => ?_⟩
  have h1 := hc j x hx
  exact (hb.cell (World.block_lt_of_cell? _ _ h1)).trans h1
theorem MemN.at_ {w : World} {g : Nat} {A : Option Addr} {ms : List Nat} {k : Nat} (h : MemN w g A ms) (hk : k < ms.length) : ∃ ad, A = some ad ∧ ad.block ≠ g ∧ w.cell? (ad.add k) = some (.int .u32 (ms[k] : Nat)) := by
  obtain ⟨ad, e, hb, hc⟩ := h
  exact ⟨ad, e, hb, hc k _ (List.getElem?_eq_getElem hk)⟩
theorem grown_refl (w : World) (row : Option Nat) : w.grownBy w row := ⟨rfl, rfl, rfl, Nat.le_refl _, fun _ _ _ => rfl⟩
/-! ### A multiple is subtracted in place -/
def SubmRel (w : World) (g i : Nat) (rs X : List Nat) (q : Nat) (wr : World) (k c b : Nat) : Prop :=
  ∃ ds : List Nat, ds.length = rs.length ∧ L32 ds ∧ Row wr g ds ∧ ds.take i = rs.take i ∧ ds.drop (i + k) = rs.drop (i + k) ∧ val ((ds.drop i).take k) + q * val (X.take k) = val ((rs.drop i).take k) + 4294967296 ^ k * (c + b) ∧ w.grownBy wr (some g)
theorem SubmRel.start {w : World} {g i q : Nat} {rs X : List Nat} (hr : Row w g rs) (h32 : L32 rs) : SubmRel w g i rs X q w 0 0 0 :=
  ⟨rs, rfl, h32, hr, rfl, rfl, by simp [val], grown_refl _ _⟩
theorem SubmRel.cell {w wr : World} {g i q k c b : Nat} {rs X : List Nat} (h : SubmRel w g i rs X q wr k c b) {j : Nat} (hk : k ≤ j) (hj : i + j < rs.length) : wr.cell? ⟨g, i + j, none⟩ = some (.int .u32 ((rs.getD (i + j) 0 : Nat) : Int)) ∧ wr.frozen? ⟨g, i + j, none⟩ = false := by
  obtain ⟨ds, hl, h32, hr, ht, hd, he, hg⟩ := h
  refine ⟨?_, hr.frozen _⟩
  rw [hr.cell (show i + j < ds.length by omega), ← getD_of_lt (show i + j < ds.length by omega), getD_of_drop hd (by omega)]
theorem set_drop_take (ds : List Nat) (i k v : Nat) (h : i + k < ds.length) : val (((ds.set (i + k) v).drop i).take (k + 1)) = val ((ds.drop i).take k) + 4294967296 ^ k * v := by
  rw [drop_set_at, take_set_succ _ _ _ (by rw [List.length_drop]; omega)]
theorem SubmRel.step {w wr : World} {g i q k c b p x lo c' b' : Nat} {rs X : List Nat} (h : SubmRel w g i rs X q wr k c b) (hi : i + k < rs.length) (hp : rs.getD (i + k) 0 = p) (hx : X.getD k 0 = x)
    {v : Nat} (hv : v < 4294967296) (e1 : c + q * x = lo + 4294967296 * c') (e2 : v + lo + b = p + 4294967296 * b') (u : Int) (hu : u = (v : Int)) : SubmRel w g i rs X q (wr.setCell ⟨g, i + k, none⟩ (.int .u32 u)) (k + 1) c' b' := by
  subst hu
  obtain ⟨ds, hl, h32, hr, ht, hd, he, hg⟩ := h
  refine ⟨ds.set (i + k) v, by simpa using hl, h32.set hv, hr.set_ _ _, ?_, ?_, ?_, only_set hg _ _⟩
  · rw [List.take_set_of_le (by omega)]; exact ht
  · rw [List.drop_set_of_lt (by omega)]
    have := congrArg (List.drop 1) hd
    rw [List.drop_drop, List.drop_drop] at this
    exact this
  · rw [set_drop_take _ _ _ _ (by omega), val_take_succ X, val_take_succ (rs.drop i), getD_drop, hp, hx, Nat.pow_succ]
    generalize 4294967296 ^ k = P at *
    have e3 : P * v + P * (q * x) + P * (c + b) = P * p + P * 4294967296 * (c' + b') := by
      rw [Nat.mul_assoc, ← Nat.mul_add, ← Nat.mul_add, ← Nat.mul_add]
      congr 1
      omega
    rw [Nat.mul_add q, Nat.mul_left_comm q P x]
    omega
/-- The last store. -/
theorem SubmRel.finish {w wr : World} {g i q c b p v : Nat} {rs X : List Nat} {neg : Bool} (h : SubmRel w g i rs X q wr X.length c b) (hi : i + X.length < rs.length) (hp : rs.getD (i + X.length) 0 = p) (hv : v < 4294967296) (e : v + c + b = p + 4294967296 * (if neg then 1 else 0)) (u : Int) (hu : u = (v : Int)) :
    ∃ ds : List Nat, ds.length = rs.length ∧ L32 ds ∧ Row (wr.setCell ⟨g, i + X.length, none⟩ (.int .u32 u)) g ds ∧ ds.take i = rs.take i ∧ ds.drop (i + (X.length + 1)) = rs.drop (i + (X.length + 1)) ∧
      val ((ds.drop i).take (X.length + 1)) + q * val X = val ((rs.drop i).take (X.length + 1)) + 4294967296 ^ (X.length + 1) * (if neg then 1 else 0) ∧ w.grownBy (wr.setCell ⟨g, i + X.length, none⟩ (.int .u32 u)) (some g) := by
  have h2 := h.step (x := 0) (lo := c) (c' := 0) (b' := if neg then 1 else 0) hi hp (by simp [List.getD]) hv (by omega) (by omega) u hu
  obtain ⟨ds, hl, h32, hr, ht, hd, he, hg⟩ := h2
  refine ⟨ds, hl, h32, hr, ht, hd, ?_, hg⟩
  rw [List.take_of_length_le (show X.length ≤ X.length + 1 by omega), Nat.zero_add] at he
  exact he

/-! ### It is added back -/
def AddbRel (w : World) (g i : Nat) (rs X : List Nat) (wr : World) (k c : Nat) : Prop :=
  ∃ ds : List Nat, ds.length = rs.length ∧ L32 ds ∧ Row wr g ds ∧ ds.take i = rs.take i ∧ ds.drop (i + k) = rs.drop (i + k) ∧ val ((ds.drop i).take k) + 4294967296 ^ k * c = val ((rs.drop i).take k) + val (X.take k) ∧ w.grownBy wr (some g)
theorem AddbRel.start {w : World} {g i : Nat} {rs X : List Nat} (hr : Row w g rs) (h32 : L32 rs) : AddbRel w g i rs X w 0 0 :=
  ⟨rs, rfl, h32, hr, rfl, rfl, by simp [val], grown_refl _ _⟩
theorem AddbRel.cell {w wr : World} {g i k c : Nat} {rs X : List Nat} (h : AddbRel w g i rs X wr k c) {j : Nat} (hk : k ≤ j) (hj : i + j < rs.length) : wr.cell? ⟨g, i + j, none⟩ = some (.int .u32 ((rs.getD (i + j) 0 : Nat) : Int)) ∧ wr.frozen? ⟨g, i + j, none⟩ = false := by
  obtain ⟨ds, hl, h32, hr, ht, hd, he, hg⟩ := h
  refine ⟨?_, hr.frozen _⟩
  rw [hr.cell (show i + j < ds.length by omega), ← getD_of_lt (show i + j < ds.length by omega), getD_of_drop hd (by omega)]
theorem AddbRel.step {w wr : World} {g i k c p x c' : Nat} {rs X : List Nat} (h : AddbRel w g i rs X wr k c) (hi : i + k < rs.length) (hp : rs.getD (i + k) 0 = p) (hx : X.getD k 0 = x)
    {v : Nat} (hv : v < 4294967296) (e : v + 4294967296 * c' = c + (p + x)) (u : Int) (hu : u = (v : Int)) : AddbRel w g i rs X (wr.setCell ⟨g, i + k, none⟩ (.int .u32 u)) (k + 1) c' := by
  subst hu
  obtain ⟨ds, hl, h32, hr, ht, hd, he, hg⟩ := h
  refine ⟨ds.set (i + k) v, by simpa using hl, h32.set hv, hr.set_ _ _, ?_, ?_, ?_, only_set hg _ _⟩
  · rw [List.take_set_of_le (by omega)]; exact ht
  · rw [List.drop_set_of_lt (by omega)]
    have := congrArg (List.drop 1) hd
    rw [List.drop_drop, List.drop_drop] at this
    exact this
  · rw [set_drop_take _ _ _ _ (by omega), val_take_succ X, val_take_succ (rs.drop i), getD_drop, hp, hx, Nat.pow_succ]
    generalize 4294967296 ^ k = P at *
    have e3 : P * v + P * 4294967296 * c' = P * c + (P * p + P * x) := by
      rw [Nat.mul_assoc, ← Nat.mul_add, ← Nat.mul_add, ← Nat.mul_add]
      congr 1
    omega
theorem AddbRel.finish {w wr : World} {g i c p v : Nat} {rs X : List Nat} (h : AddbRel w g i rs X wr X.length c) (hi : i + X.length < rs.length) (hp : rs.getD (i + X.length) 0 = p) (hv : v < 4294967296) (e : ∃ f, v + 4294967296 * f = c + p) (u : Int) (hu : u = (v : Int)) :
    ∃ (ds : List Nat) (f : Nat), ds.length = rs.length ∧ L32 ds ∧ Row (wr.setCell ⟨g, i + X.length, none⟩ (.int .u32 u)) g ds ∧ ds.take i = rs.take i ∧ ds.drop (i + (X.length + 1)) = rs.drop (i + (X.length + 1)) ∧
      val ((ds.drop i).take (X.length + 1)) + 4294967296 ^ (X.length + 1) * f = val ((rs.drop i).take (X.length + 1)) + val X ∧ w.grownBy (wr.setCell ⟨g, i + X.length, none⟩ (.int .u32 u)) (some g) := by
  obtain ⟨f, e⟩ := e
  have h2 := h.step (x := 0) (c' := f) hi hp (by simp [List.getD]) hv (by omega) u hu
  obtain ⟨ds, hl, h32, hr, ht, hd, he, hg⟩ := h2
  refine ⟨ds, f, hl, h32, hr, ht, hd, ?_, hg⟩
  rw [List.take_of_length_le (show X.length ≤ X.length + 1 by omega)] at he
  exact he

/-! ### Shifts -/
def ShlRel (w : World) (g n H : Nat) (X : List Nat) (wr : World) (k c : Nat) : Prop :=
  ∃ ds : List Nat, ds.length = n + 1 ∧ L32 ds ∧ Row wr g ds ∧ val (ds.take k) + 4294967296 ^ k * c = val (X.take k) * H ∧ Below w.heap.size w wr
theorem ShlRel.start (w : World) (n H : Nat) (X : List Nat) : ShlRel w w.heap.size n H X (w.alloc (rowObj (List.replicate (n + 1) 0))) 0 0 :=
  ⟨_, by simp, L32.replicate _, Row.new _ _, by simp [val], below_alloc _ _⟩
theorem ShlRel.cell {w wr : World} {g n H k c : Nat} {X : List Nat} (h : ShlRel w g n H X wr k c) {i : Nat} (hi : i < n + 1) : ∃ x : Nat, wr.cell? ⟨g, i, none⟩ = some (.int .u32 (x : Int)) ∧ wr.frozen? ⟨g, i, none⟩ = false := by
  obtain ⟨ds, hl, h32, hr, he, hb⟩ := h
  exact ⟨_, hr.cell (by omega), hr.frozen i⟩
theorem ShlRel.step {w wr : World} {g n H k c p s : Nat} {X : List Nat} (h : ShlRel w g n H X wr k c) (hk : k < n + 1) (hg : w.heap.size ≤ g) (hp : X.getD k 0 = p) (hs : s = c + p * H) (u : Int) (hu : u = (s : Int) % 4294967296) :
    ShlRel w g n H X (wr.setCell ⟨g, k, none⟩ (.int .u32 u)) (k + 1) (s / 4294967296) := by
  obtain ⟨ds, hl, h32, hr, he, hb⟩ := h
  have e : u = ((s % 4294967296 : Nat) : Int) := by omega
  rw [e]
  refine ⟨ds.set k (s % 4294967296), by simpa using hl, h32.set (by omega), hr.set_ k _, ?_, hb.setCell (by simpa using hg) _⟩
  rw [take_set_succ _ _ _ (by omega), val_take_succ X, hp, Nat.pow_succ]
  have e1 : s = 4294967296 * (s / 4294967296) + s % 4294967296 := by omega
  generalize s / 4294967296 = d at *
  generalize s % 4294967296 = r at *
  generalize 4294967296 ^ k = P at *
  rw [Nat.add_mul, Nat.mul_assoc P p H]
  generalize p * H = pH at *
  have e2 : P * (c + pH) = P * (4294967296 * d + r) := by rw [← hs, e1]
  rw [Nat.mul_add, Nat.mul_add, ← Nat.mul_assoc] at e2
  omega
theorem ShlRel.finish {w wr : World} {g n H c : Nat} {X : List Nat} (h : ShlRel w g n H X wr n c) (hg : w.heap.size ≤ g) (hc : c < 4294967296) (hX : X.length = n) (u : Int) (hu : u = (c : Int)) :
    ∃ ds : List Nat, ds.length = n + 1 ∧ L32 ds ∧ Row (wr.setCell ⟨g, n, none⟩ (.int .u32 u)) g ds ∧ val ds = val X * H ∧ Below w.heap.size w (wr.setCell ⟨g, n, none⟩ (.int .u32 u)) := by
  subst hu
  obtain ⟨ds, hl, h32, hr, he, hb⟩ := h
  refine ⟨ds.set n c, by simpa using hl, h32.set hc, hr.set_ n c, ?_, hb.setCell (by simpa using hg) _⟩
  have h1 := take_set_succ ds n c (by omega)
  rw [List.take_of_length_le (by simp [hl])] at h1
  rw [h1, he, List.take_of_length_le (by omega)]

theorem div_drop {X : List Nat} (h32 : L32 X) (k : Nat) (hk : k ≤ X.length) : val X / 4294967296 ^ k = val (X.drop k) := by
  have h1 := val_split X k hk
  have h2 := val_lt (h32.take k)
  rw [List.length_take, Nat.min_eq_left hk] at h2
  rw [h1, Nat.add_mul_div_left _ _ (Nat.pow_pos (by decide)), Nat.div_eq_of_lt h2, Nat.zero_add]
/-- The limbs below k of the quotient by H. -/
def ShrRel (w : World) (g n H : Nat) (X : List Nat) (wr : World) (k : Nat) : Prop :=
  ∃ ds : List Nat, ds.length = n ∧ L32 ds ∧ Row wr g ds ∧ val (ds.take k) = val X / H % 4294967296 ^ k ∧ Below w.heap.size w wr
theorem ShrRel.start (w : World) (n H : Nat) (X : List Nat) : ShrRel w w.heap.size n H X (w.alloc (rowObj (List.replicate n 0))) 0 :=
  ⟨_, by simp, L32.replicate _, Row.new _ _, by simp [val, Nat.mod_one], below_alloc _ _⟩
theorem ShrRel.cell {w wr : World} {g n H k : Nat} {X : List Nat} (h : ShrRel w g n H X wr k) {i : Nat} (hi : i < n) : ∃ x : Nat, wr.cell? ⟨g, i, none⟩ = some (.int .u32 (x : Int)) ∧ wr.frozen? ⟨g, i, none⟩ = false := by
  obtain ⟨ds, hl, h32, hr, he, hb⟩ := h
  exact ⟨_, hr.cell (by omega), hr.frozen i⟩
theorem shr_limb {X : List Nat} (h32 : L32 X) {k H e : Nat} (hk : k < X.length) (hH : 4294967296 = H * e) (h0 : 0 < H) : (X.getD k 0 + 4294967296 * X.getD (k + 1) 0) / H % 4294967296 = val X / H / 4294967296 ^ k % 4294967296 := by
  rw [Nat.div_div_eq_div_mul, Nat.mul_comm H, ← Nat.div_div_eq_div_mul, div_drop h32 k (by omega), drop_cons hk, val]
  rcases Nat.lt_or_ge (k + 1) X.length with h1 | h1
  · rw [drop_cons h1, val]
    generalize X.getD k 0 = x
    generalize X.getD (k + 1) 0 = y
    generalize val (X.drop (k + 1 + 1)) = r
    have e1 : x + 4294967296 * (y + 4294967296 * r) = (x + 4294967296 * y) + H * (e * (4294967296 * r)) := by
      rw [Nat.mul_add, ← Nat.mul_assoc H e, ← hH]; omega
    rw [e1, Nat.add_mul_div_left _ _ h0, Nat.mul_left_comm e, Nat.add_mul_mod_self_left]
  · rw [List.drop_of_length_le h1, show X.getD (k + 1) 0 = 0 from by simp [List.getD, List.getElem?_eq_none h1]]
    rfl
theorem ShrRel.step {w wr : World} {g n H k e p q : Nat} {X : List Nat} (h : ShrRel w g n H X wr k) (hX : X.length = n) (h32 : L32 X) (hk : k < n) (hg : w.heap.size ≤ g) (hp : X.getD k 0 = p) (hq : X.getD (k + 1) 0 = q) (hH : 4294967296 = H * e) (h0 : 0 < H) (u : Int) (hu : u = (((p + 4294967296 * q) / H % 4294967296 : Nat) : Int)) :
    ShrRel w g n H X (wr.setCell ⟨g, k, none⟩ (.int .u32 u)) (k + 1) := by
  subst hu
  obtain ⟨ds, hl, hd, hr, he, hb⟩ := h
  refine ⟨ds.set k _, by simpa using hl, hd.set (Nat.mod_lt _ (by decide)), hr.set_ k _, ?_, hb.setCell (by simpa using hg) _⟩
  rw [take_set_succ _ _ _ (by omega), he, ← hp, ← hq, shr_limb h32 (by omega) hH h0, Nat.mod_pow_succ]
theorem ShrRel.finish {w wr : World} {g n H : Nat} {X : List Nat} (h : ShrRel w g n H X wr n) (hX : X.length = n) (h32 : L32 X) : ∃ ds : List Nat, ds.length = n ∧ L32 ds ∧ Row wr g ds ∧ val ds = val X / H ∧ Below w.heap.size w wr := by
  obtain ⟨ds, hl, hd, hr, he, hb⟩ := h
  refine ⟨ds, hl, hd, hr, ?_, hb⟩
  rw [List.take_of_length_le (by omega)] at he
  rw [he]
  refine Nat.mod_eq_of_lt (Nat.lt_of_le_of_lt (Nat.div_le_self _ _) ?_)
  rw [← hX]
  exact val_lt h32
end Go.Proofs.YtdofolejfdfocaaGreatDoor
namespace Go.Proofs.YtdofolejfdfocaaGreatDoor
open Go.RowKit

theorem pow32 {h : Nat} (hh : h < 32) : 2 ^ h ≤ 2147483648 := Nat.le_trans (Nat.pow_le_pow_right (by decide) (show h ≤ 31 by omega)) (by decide)
theorem mul_pow_bd {p h : Nat} (hp : p < 4294967296) (hh : h < 32) : p * 2 ^ h ≤ 9223372034707292160 := by
  have := Nat.mul_le_mul (show p ≤ 4294967295 by omega) (pow32 hh)
  omega
theorem or_shl (c p h : Nat) (hc : c < 2 ^ h) (hp : p < 4294967296) (hh : h < 32) : bits .or .u64 (c : Int) (IntKind.u64.wrap ((p : Int) * 2 ^ h)) = ((c + p * 2 ^ h : Nat) : Int) := by
  have hb := mul_pow_bd hp hh
  have h2 := pow32 hh
  have e : (p : Int) * 2 ^ h = ((p * 2 ^ h : Nat) : Int) := by rw [Int.natCast_mul, Int.natCast_pow]; rfl
  rw [e, wrap_u64_nat _ (by omega), u64_or_nat _ _ (by omega) (by omega)]
  congr 1
  have := Nat.shiftLeft_add_eq_or_of_lt hc p
  rw [Nat.shiftLeft_eq] at this
  rw [Nat.or_comm, ← this, Nat.add_comm]
set_option maxHeartbeats 1600000 in
theorem shiftLeft_any (A : Option Addr) (n c h : Nat) (ms : List Nat) (w : World) (hn : ms.length = n) (hm : Mem w w.heap.size A ms) (h32 : L32 ms) (hl : n ≤ 1099511627776) (h0 : 0 < n) (hh : h < 32) :
    Calls Tryz.prog 127 #[.slice A n c, .int .i64 h] w fun e w' => ∃ (g : Nat) (ds : List Nat), e = .returned (.slice (some ⟨g, 0, none⟩) (n + 1) (n + 1)) ∧ ds.length = n + 1 ∧ L32 ds ∧ Row w' g ds ∧ val ds = val ms * 2 ^ h ∧ Below w.heap.size w w' ∧ w.heap.size ≤ g := by
  have hmk := fun W => mk32 ((n : Int) + 1) (by omega) (by omega) W
  have e1 : ((n : Int) + 1).toNat = n + 1 := by omega
  rw [e1] at hmk
  clear e1
  have HN := Lib.hid hn
  have H32 := Lib.hid h32
  obtain ⟨ad, rfl, _, hca⟩ := hm.at_ (show 0 < ms.length by omega)
  clear hca hn h32
  go_enter Tryz.func127, Tryz.ntmps127
  go_wp2_with fail
  go_loopw [6, 15] (fun cr i wr => ∃ k c : Nat, k ≤ n ∧ i = .int .i64 k ∧ cr = .int .u64 c ∧ c < 2 ^ h ∧ ShlRel w w.heap.size n (2 ^ h) ms wr k c) (fun _ i _ => n - (intOf i).toNat)
  case atStart => exact ⟨0, 0, by omega, rfl, rfl, Nat.pow_pos (by decide), ShlRel.start _ _ _ _⟩
  case round =>
    obtain ⟨k, c, hk, rfl, rfl, hc, hrel⟩ := hrel
    have HR := Lib.hid hrel
    have HC := Lib.hid hc
    clear hrel hc
    by_cases hlt : k < n
    · obtain ⟨ad', e, hb0, hca⟩ := hm.at_ (show k < ms.length by have := HN.out; omega)
      injection e with e
      subst e
      have hp := H32.out.get (show k < ms.length by have := HN.out; omega)
      have gp := getD_of_lt (show k < ms.length by have := HN.out; omega)
      generalize ms[k]'(by have := HN.out; omega) = p at *
      have GP := Lib.hid gp
      clear gp
      obtain ⟨ds, hl', h32', hr, he, hbel⟩ := HR.out
      have hca' := (hbel.cell (p := ad.add k) (by rw [block_of_add']; omega)).trans hca
      obtain ⟨ox, ho, hf⟩ := HR.out.cell (show k < n + 1 by omega)
      clear hl' h32' hr he hbel hca
      have hor := or_shl c p h HC.out hp hh
      have hb := mul_pow_bd hp hh
      have h2 := pow32 hh
      have hc2 := HC.out
      obtain ⟨s, hs⟩ : ∃ s, c + p * 2 ^ h = s := ⟨_, rfl⟩
      rw [hs] at hor
      have hs64 : s < 18446744073709551616 := by omega
      have hsd : s / 4294967296 < 2 ^ h := by
        rw [Nat.div_lt_iff_lt_mul (by decide)]
        have := Nat.mul_le_mul_right (2 ^ h) (show p + 1 ≤ 4294967296 by omega)
        rw [Nat.add_mul] at this
        omega
      have HS := Lib.hid hs
      have HSD := Lib.hid hsd
      clear hb h2 hc2 hs hsd
      go_wp2
      go_roundw
      case rel => exact ⟨k + 1, s / 4294967296, by omega, by go_num, by go_num, HSD.out, HR.out.step (by omega) (Nat.le_refl _) GP.out HS.out.symm _ rfl⟩
      case measure => simp [intOf]; omega
    · have hk' : k = n := by omega
      subst hk'
      have h2 := pow32 hh
      have hc2 := HC.out
      have hc32 : c < 4294967296 := by omega
      obtain ⟨ox, ho, hf⟩ := HR.out.cell (show k < k + 1 by omega)
      clear h2 hc2
      go_wp2
      go_ret
      obtain ⟨ds, d1, d2, d3, d4, d5⟩ := HR.out.finish (Nat.le_refl _) hc32 HN.out (c : Int) rfl
      refine ⟨w.heap.size, ds, rfl, d1, d2, ?_, d4, ?_, Nat.le_refl _⟩
      · first | exact d3 | (rw [show ((c : Int) % 4294967296) = (c : Int) from by omega]; exact d3)
      · first | exact d5 | (rw [show ((c : Int) % 4294967296) = (c : Int) from by omega]; exact d5)
end Go.Proofs.YtdofolejfdfocaaGreatDoor
namespace Go.Proofs.YtdofolejfdfocaaGreatDoor
open Go.RowKit

theorem and_mask (s : Nat) (hs : s < 18446744073709551616) : bits .and .u64 (s : Int) 4294967295 = ((s % 4294967296 : Nat) : Int) := by
  have e1 : (BitVec.ofInt 64 (s : Int)).toNat = s := by rw [BitVec.ofInt_natCast, BitVec.toNat_ofNat]; exact Nat.mod_eq_of_lt (by omega)
  have e2 : (BitVec.ofInt 64 (4294967295 : Int)).toNat = 4294967295 := by decide
  show IntKind.u64.wrap ((BitVec.ofInt 64 (s : Int) &&& BitVec.ofInt 64 (4294967295 : Int)).toNat : Int) = _
  rw [BitVec.toNat_and, e1, e2, show 4294967295 = 2 ^ 32 - 1 from rfl, Nat.and_two_pow_sub_one_eq_mod, IntKind.wrap_u64]
  omega
theorem sub_word (p lo b : Nat) (hp : p < 4294967296) (hlo : lo < 4294967296) (hb : b ≤ 1) : ∃ v b' : Nat, v < 4294967296 ∧ b' ≤ 1 ∧ v + lo + b = p + 4294967296 * b' ∧ IntKind.u64.wrap (IntKind.u64.wrap ((p : Int) - (lo : Int)) - (b : Int)) / 9223372036854775808 = (b' : Int) ∧ IntKind.u64.wrap (IntKind.u64.wrap ((p : Int) - (lo : Int)) - (b : Int)) % 4294967296 = (v : Int) := by
  rw [IntKind.wrap_u64, IntKind.wrap_u64]
  by_cases h : p < lo + b
  · exact ⟨p + 4294967296 - lo - b, 1, by omega, by omega, by omega, by omega, by omega⟩
  · exact ⟨p - lo - b, 0, by omega, by omega, by omega, by omega, by omega⟩
set_option maxHeartbeats 1600000 in
theorem subm_any (g i n cap d q : Nat) (rs X : List Nat) (B : Option Addr) (w : World) (hX : X.length = n) (hn0 : 0 < n) (hr : Row w g rs) (h32 : L32 rs) (hi : i + n < rs.length) (hB : MemN w g B X) (hX32 : L32 X) (hq : q < 4294967296) (hl : rs.length ≤ 1099511627776) :
    Calls Tryz.prog 129 #[.slice (some ⟨g, i, none⟩) (n + 1) cap, .slice B n d, .int .u32 q] w fun e w' => ∃ (ds : List Nat) (neg : Bool), e = .returned (.bool neg) ∧ ds.length = rs.length ∧ L32 ds ∧ Row w' g ds ∧ ds.take i = rs.take i ∧ ds.drop (i + (n + 1)) = rs.drop (i + (n + 1)) ∧
      val ((ds.drop i).take (n + 1)) + q * val X = val ((rs.drop i).take (n + 1)) + 4294967296 ^ (n + 1) * (if neg then 1 else 0) ∧ w.grownBy w' (some g) := by
  have HX := Lib.hid hX
  have HI := Lib.hid hi
  have H32 := Lib.hid h32
  have HX32 := Lib.hid hX32
  have HB := Lib.hid hB
  have hST := Lib.hid (SubmRel.start (q := q) (X := X) (i := i) hr h32)
  obtain ⟨bd, rfl, _, hcb⟩ := hB.at_ (show 0 < X.length by omega)
  clear hcb hX hi h32 hX32 hB
  go_enter Tryz.func129, Tryz.ntmps129
  go_wp2_with fail
  go_loopw [7, 8, 15] (fun cr br j wr => ∃ k c b : Nat, k ≤ n ∧ j = .int .i64 k ∧ cr = .int .u64 c ∧ br = .int .u64 b ∧ c < 4294967296 ∧ b ≤ 1 ∧ SubmRel w g i rs X q wr k c b) (fun _ _ j _ => n - (intOf j).toNat)
  case atStart => exact ⟨0, 0, 0, by omega, rfl, rfl, rfl, by omega, by omega, hST.out⟩
  case round =>
    obtain ⟨k, c, b, hk, rfl, rfl, rfl, hc, hb1, hrel⟩ := hrel
    have HR := Lib.hid hrel
    clear hrel hST
    by_cases hlt : k < n
    · obtain ⟨ds, d1, d2, d3, d4, d5, d6, d7⟩ := HR.out
      obtain ⟨bd', e, _, hcb⟩ := (HB.out.only d7).at_ (show k < X.length by have := HX.out; omega)
      injection e with e
      subst e
      clear d1 d2 d3 d4 d5 d6 d7
      have hx := HX32.out.get (show k < X.length by have := HX.out; omega)
      have gx := getD_of_lt (show k < X.length by have := HX.out; omega)
      generalize X[k]'(by have := HX.out; omega) = x at *
      have GX := Lib.hid gx
      clear gx
      obtain ⟨hcp, hfz⟩ := HR.out.cell (Nat.le_refl k) (show i + k < rs.length by have := HI.out; omega)
      have hp := H32.out.at_ (i + k)
      obtain ⟨p, gp⟩ : ∃ p, rs.getD (i + k) 0 = p := ⟨_, rfl⟩
      rw [gp] at hp hcp
      have GP := Lib.hid gp
      clear gp
      have hm := mul_bd hq hx
      have hm0 : (0 : Int) ≤ (q : Int) * (x : Int) := by rw [← Int.natCast_mul]; omega
      have hm1 : (q : Int) * (x : Int) ≤ 18446744065119617025 := by rw [← Int.natCast_mul]; omega
      obtain ⟨s, hs⟩ : ∃ s, c + q * x = s := ⟨_, rfl⟩
      have hsI : (c : Int) + (q : Int) * (x : Int) = (s : Int) := by rw [← hs, ← Int.natCast_mul]; omega
      have hs64 : s < 18446744073709551616 := by omega
      have hand := and_mask s hs64
      obtain ⟨v, b', hv, hb', hvb, hT1, hT2⟩ := sub_word p (s % 4294967296) b hp (by omega) hb1
      have HS := Lib.hid hs
      have HVB := Lib.hid hvb
      have hkn : n ≤ 1099511627775 := by have := HI.out; omega
      clear hm hs hvb
      generalize hlo : s % 4294967296 = lo at *
      have HLO := Lib.hid hlo
      clear hlo
      go_wp2
      go_roundw
      case rel => exact ⟨k + 1, s / 4294967296, b', by omega, by go_num, by go_num, rfl, by omega, hb', HR.out.step (by have := HI.out; omega) GP.out GX.out hv (by rw [HS.out, ← HLO.out]; omega) HVB.out _ rfl⟩
      case measure => simp [intOf]; omega
    · have hk' : k = n := by omega
      subst hk'
      obtain ⟨hcp, hfz⟩ := HR.out.cell (Nat.le_refl k) (show i + k < rs.length by have := HI.out; omega)
      have hp := H32.out.at_ (i + k)
      obtain ⟨p, gp⟩ : ∃ p, rs.getD (i + k) 0 = p := ⟨_, rfl⟩
      rw [gp] at hp hcp
      have GP := Lib.hid gp
      clear gp
      obtain ⟨v, b', hv, hb', hvb, hT1, hT2⟩ := sub_word p c b hp hc hb1
      have HVB := Lib.hid hvb
      clear hvb
      have hkn : k ≤ 1099511627775 := by have := HI.out; omega
      rcases (show b' = 0 ∨ b' = 1 by omega) with rfl | rfl
      · go_wp2
        go_ret
        have e := HX.out
        subst e
        obtain ⟨ds, d1, d2, d3, d4, d5, d6, d7⟩ := HR.out.finish (neg := false) HI.out GP.out hv (by simpa using HVB.out) (v : Int) rfl
        exact ⟨ds, false, rfl, d1, d2, d3, d4, d5, d6, d7⟩
      · go_wp2
        go_ret
        have e := HX.out
        subst e
        obtain ⟨ds, d1, d2, d3, d4, d5, d6, d7⟩ := HR.out.finish (neg := true) HI.out GP.out hv (by simpa using HVB.out) (v : Int) rfl
        exact ⟨ds, true, rfl, d1, d2, d3, d4, d5, d6, d7⟩

set_option maxHeartbeats 1600000 in
theorem addb_any (g i n cap d : Nat) (rs X : List Nat) (B : Option Addr) (w : World) (hX : X.length = n) (hn0 : 0 < n) (hr : Row w g rs) (h32 : L32 rs) (hi : i + n < rs.length) (hB : MemN w g B X) (hX32 : L32 X) (hl : rs.length ≤ 1099511627776) :
    Calls Tryz.prog 130 #[.slice (some ⟨g, i, none⟩) (n + 1) cap, .slice B n d] w fun e w' => ∃ (ds : List Nat) (f : Nat), (∃ v, e = .returned v) ∧ ds.length = rs.length ∧ L32 ds ∧ Row w' g ds ∧ ds.take i = rs.take i ∧ ds.drop (i + (n + 1)) = rs.drop (i + (n + 1)) ∧
      val ((ds.drop i).take (n + 1)) + 4294967296 ^ (n + 1) * f = val ((rs.drop i).take (n + 1)) + val X ∧ w.grownBy w' (some g) := by
  have HX := Lib.hid hX
  have HI := Lib.hid hi
  have H32 := Lib.hid h32
  have HX32 := Lib.hid hX32
  have HB := Lib.hid hB
  have hST := Lib.hid (AddbRel.start (X := X) (i := i) hr h32)
  obtain ⟨bd, rfl, _, hcb⟩ := hB.at_ (show 0 < X.length by omega)
  have hkn : n ≤ 1099511627775 := by omega
  clear hcb hX hi h32 hX32 hB
  go_enter Tryz.func130, Tryz.ntmps130
  go_wp2_with fail
  go_loopw [4, 9] (fun cr j wr => ∃ k c : Nat, k ≤ n ∧ j = .int .i64 k ∧ cr = .int .u64 c ∧ c ≤ 1 ∧ AddbRel w g i rs X wr k c) (fun _ j _ => n - (intOf j).toNat)
  case atStart => exact ⟨0, 0, by omega, rfl, rfl, by omega, hST.out⟩
  case round =>
    obtain ⟨k, c, hk, rfl, rfl, hc1, hrel⟩ := hrel
    have HR := Lib.hid hrel
    clear hrel hST
    by_cases hlt : k < n
    · obtain ⟨ds, d1, d2, d3, d4, d5, d6, d7⟩ := HR.out
      obtain ⟨bd', e, _, hcb⟩ := (HB.out.only d7).at_ (show k < X.length by have := HX.out; omega)
      injection e with e
      subst e
      clear d1 d2 d3 d4 d5 d6 d7
      have hx := HX32.out.get (show k < X.length by have := HX.out; omega)
      have gx := getD_of_lt (show k < X.length by have := HX.out; omega)
      generalize X[k]'(by have := HX.out; omega) = x at *
      have GX := Lib.hid gx
      clear gx
      obtain ⟨hcp, hfz⟩ := HR.out.cell (Nat.le_refl k) (show i + k < rs.length by have := HI.out; omega)
      have hp := H32.out.at_ (i + k)
      obtain ⟨p, gp⟩ : ∃ p, rs.getD (i + k) 0 = p := ⟨_, rfl⟩
      rw [gp] at hp hcp
      have GP := Lib.hid gp
      clear gp
      go_wp2
      go_roundw
      case rel => exact ⟨k + 1, (c + (p + x)) / 4294967296, by omega, by go_num, by go_num, by omega, HR.out.step (by have := HI.out; omega) GP.out GX.out (v := (c + (p + x)) % 4294967296) (by omega) (by omega) _ (by omega)⟩
      case measure => simp [intOf]; omega
    · have hk' : k = n := by omega
      subst hk'
      obtain ⟨hcp, hfz⟩ := HR.out.cell (Nat.le_refl k) (show i + k < rs.length by have := HI.out; omega)
      have hp := H32.out.at_ (i + k)
      obtain ⟨p, gp⟩ : ∃ p, rs.getD (i + k) 0 = p := ⟨_, rfl⟩
      rw [gp] at hp hcp
      have GP := Lib.hid gp
      clear gp
      go_wp2
      have e := HX.out
      subst e
      obtain ⟨ds, f, d1, d2, d3, d4, d5, d6, d7⟩ := HR.out.finish HI.out GP.out (v := (p + c) % 4294967296) (by omega) ⟨(p + c) / 4294967296, by omega⟩ (((p : Int) + (c : Int)) % 4294967296) (by omega)
      exact bodyPost_end (results_none rfl _ _ _) rfl ⟨ds, f, ⟨_, rfl⟩, d1, d2, d3, d4, d5, d6, d7⟩
end Go.Proofs.YtdofolejfdfocaaGreatDoor
