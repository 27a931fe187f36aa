/- Walks: the reference's plus. -/
import Derived.Test.YtgaehhapjnbieaaGreatqR3
import Derived.Test.YtgaehhapjnbieaaGreatqW2
set_option linter.unusedSectionVars false
set_option linter.unusedVariables false
set_option linter.unusedSimpArgs false
namespace Go.Proofs.YtgaehhapjnbieaaGreat
open Go.RowKit
def PlusRel (w : World) (X Y : List Nat) (o : Value) (wr : World) (k c : Nat) : Prop :=
  ∃ ds : List Nat, ds.length = k ∧ L32 ds ∧ Owns wr w.heap.size o ds ∧ val ds + 4294967296 ^ k * c = val (X.take k) + val (Y.take k) ∧ Below w.heap.size w wr
theorem val_snoc (ds : List Nat) (r : Nat) : val (ds ++ [r]) = val ds + 4294967296 ^ ds.length * r := by
  induction ds with
  | nil => simp [val]
  | cons x l ih =>
    rw [List.cons_append]
    unfold val
    rw [ih, List.length_cons, Nat.pow_succ, Nat.mul_add]
    rw [← Nat.mul_assoc, Nat.mul_comm 4294967296 (4294967296 ^ l.length)]
    omega
theorem PlusRel.step {w wr' : World} {X Y : List Nat} {o' : Value} {k c p q r d : Nat} {ds : List Nat} (hl : ds.length = k) (h32 : L32 ds) (he : val ds + 4294967296 ^ k * c = val (X.take k) + val (Y.take k))
    (hp : X.getD k 0 = p) (hq : Y.getD k 0 = q) (hr : r = (c + p + q) % 4294967296) (hd : d = (c + p + q) / 4294967296) (hown : Owns wr' w.heap.size o' (ds ++ [r])) (hb : Below w.heap.size w wr') : PlusRel w X Y o' wr' (k + 1) d := by
  refine ⟨ds ++ [r], by simp [hl], h32.append (L32.mk (by omega) L32.nil_), hown, ?_, hb⟩
  rw [val_snoc, hl, val_take_succ X, val_take_succ Y, hp, hq, Nat.pow_succ]
  have e : c + p + q = 4294967296 * d + r := by omega
  clear hr hd
  have e2 : 4294967296 ^ k * (c + p + q) = 4294967296 ^ k * (4294967296 * d + r) := by rw [e]
  rw [Nat.mul_add, Nat.mul_add, Nat.mul_add, ← Nat.mul_assoc] at e2
  omega
theorem row_one (w : World) (x : Int) (r : Nat) (h : x = r) : RawMem (w.alloc (.cells #[.int .u32 x] 109)) (w.alloc (.cells #[.int .u32 x] 109)).heap.size (some ⟨w.heap.size, 0, none⟩) [r] := by
  subst h
  exact ((Row.new w [r]).mem (B := (w.alloc (rowObj [r])).heap.size) (by simp)).raw
theorem getD_past {X : List Nat} {k : Nat} (h : X.length ≤ k) : X.getD k 0 = 0 := by simp [List.getD, List.getElem?_eq_none h]
set_option maxHeartbeats 1600000 in
theorem plus_any (A B : Option Addr) (c d n m : Nat) (X Y : List Nat) (w : World) (ha : RawMem w w.heap.size A X) (hb : RawMem w w.heap.size B Y) (hX : L32 X) (hY : L32 Y) (hn : X.length = n) (hm : Y.length = m) (hlx : n ≤ 1099511627776) (hly : m ≤ 1099511627776) :
    Calls Tryz.prog 116 #[.slice A n c, .slice B m d] w fun e w' => ∃ v ds, e = .returned v ∧ Owns w' w.heap.size v ds ∧ L32 ds ∧ ds.length ≤ 1099511627777 ∧ val ds = val X + val Y ∧ Below w.heap.size w w' := by
  have HX := Lib.hid hX
  have HY := Lib.hid hY
  have HN := Lib.hid hn
  have HM := Lib.hid hm
  have HLX := Lib.hid hlx
  have HLY := Lib.hid hly
  clear hX hY hn hm hlx hly
  go_enter Tryz.func116, Tryz.ntmps116
  go_wp2_with fail
  go_loopw [5, 6, 7] (fun o cr i wr => ∃ k c : Nat, i = .int .i64 k ∧ cr = .int .u64 c ∧ c ≤ 1 ∧ k ≤ max n m + 1 ∧ (max n m < k → c = 0) ∧ PlusRel w X Y o wr k c) (fun _ _ i _ => max n m + 1 - (intOf i).toNat)
  case atStart => exact ⟨0, 0, rfl, rfl, by omega, by omega, fun _ => rfl, [], rfl, L32.nil_, Owns.empty w (Nat.le_refl _), by simp [val], below_alloc _ _⟩
  case round =>
    obtain ⟨k, cy, rfl, rfl, hc1, hk, hz, ds, hl, h32, hown, he, hbel⟩ := hrel
    have HC := Lib.hid hc1
    have HK := Lib.hid hk
    have HZ := Lib.hid hz
    have HL := Lib.hid hl
    have H32 := Lib.hid h32
    have HO := Lib.hid hown
    have HE := Lib.hid he
    have HB := Lib.hid hbel
    clear hc1 hk hz hl h32 hown he hbel
    by_cases hkn : k < n
    · obtain ⟨ad, rfl, hlt, hca⟩ := ha.at_ (show k < X.length by rw [HN.out]; exact hkn)
      have hp := HX.out.get (show k < X.length by rw [HN.out]; exact hkn)
      have gp := getD_of_lt (show k < X.length by rw [HN.out]; exact hkn)
      have hca' := (HB.out.cell (p := ad.add k) (by rw [block_of_add']; exact hlt)).trans hca
      generalize X[k]'(by rw [HN.out]; exact hkn) = p at *
      have GP := Lib.hid gp
      clear gp hca
      by_cases hkm : k < m
      · obtain ⟨bd, rfl, hlt2, hcb⟩ := hb.at_ (show k < Y.length by rw [HM.out]; exact hkm)
        have hq := HY.out.get (show k < Y.length by rw [HM.out]; exact hkm)
        have gq := getD_of_lt (show k < Y.length by rw [HM.out]; exact hkm)
        have hcb' := (HB.out.cell (p := bd.add k) (by rw [block_of_add']; exact hlt2)).trans hcb
        generalize Y[k]'(by rw [HM.out]; exact hkm) = q at *
        have GQ := Lib.hid gq
        clear gq hcb
        obtain ⟨r, hr⟩ : ∃ s, s = (cy + p + q) % 4294967296 := ⟨_, rfl⟩
        obtain ⟨dv, hdv⟩ : ∃ s, s = (cy + p + q) / 4294967296 := ⟨_, rfl⟩
        have HR := Lib.hid hr
        have HD := Lib.hid hdv
        have hc := HC.out
        have hkb : k ≤ 1099511627777 := by have := HK.out; have := HLX.out; have := HLY.out; omega
        clear hr hdv
        go_wp2_with (at_builtin; refine wpList_append_limbs rfl (.tmp 47) (.tmp 50) rfl w.heap.size _ ds rfl (HO.out.alloc _) _ (some ⟨wr.heap.size, 0, none⟩) 1 1 [r] rfl (row_one wr _ r (by have := HR.out; omega)) rfl (by have := HL.out; have := HK.out; have := HLX.out; have := HLY.out; omega) (by have := HB.out.size; simp; omega) ?_; rintro v' w1 hown1 hgrow hat; have HB1 := Lib.hid ((HB.out.alloc HB.out.size _).grown hgrow (by have := HB.out.size; simp; omega) HO.out.base_le); have HO1 := Lib.hid hown1; clear hown1 hgrow hat)
        go_roundw
        case rel => exact ⟨k + 1, dv, by go_num, by have := HD.out; go_num, by have := HD.out; omega, by omega, fun h => by have := HD.out; omega, PlusRel.step HL.out H32.out HE.out GP.out GQ.out HR.out HD.out HO1.out HB1.out⟩
        case measure => simp [intOf]; omega
      · have GQ := Lib.hid (getD_past (X := Y) (k := k) (by rw [HM.out]; omega))
        obtain ⟨r, hr⟩ : ∃ s, s = (cy + p + 0) % 4294967296 := ⟨_, rfl⟩
        obtain ⟨dv, hdv⟩ : ∃ s, s = (cy + p + 0) / 4294967296 := ⟨_, rfl⟩
        have HR := Lib.hid hr
        have HD := Lib.hid hdv
        have hc := HC.out
        have hkb : k ≤ 1099511627777 := by have := HK.out; have := HLX.out; have := HLY.out; omega
        clear hr hdv
        go_wp2_with (at_builtin; refine wpList_append_limbs rfl (.tmp 47) (.tmp 50) rfl w.heap.size _ ds rfl (HO.out.alloc _) _ (some ⟨wr.heap.size, 0, none⟩) 1 1 [r] rfl (row_one wr _ r (by have := HR.out; omega)) rfl (by have := HL.out; have := HK.out; have := HLX.out; have := HLY.out; omega) (by have := HB.out.size; simp; omega) ?_; rintro v' w1 hown1 hgrow hat; have HB1 := Lib.hid ((HB.out.alloc HB.out.size _).grown hgrow (by have := HB.out.size; simp; omega) HO.out.base_le); have HO1 := Lib.hid hown1; clear hown1 hgrow hat)
        go_roundw
        case rel => exact ⟨k + 1, dv, by go_num, by have := HD.out; go_num, by have := HD.out; omega, by omega, fun h => by have := HD.out; omega, PlusRel.step HL.out H32.out HE.out GP.out GQ.out HR.out HD.out HO1.out HB1.out⟩
        case measure => simp [intOf]; omega
    · have GP := Lib.hid (getD_past (X := X) (k := k) (by rw [HN.out]; omega))
      by_cases hkm : k < m
      · obtain ⟨bd, rfl, hlt2, hcb⟩ := hb.at_ (show k < Y.length by rw [HM.out]; exact hkm)
        have hq := HY.out.get (show k < Y.length by rw [HM.out]; exact hkm)
        have gq := getD_of_lt (show k < Y.length by rw [HM.out]; exact hkm)
        have hcb' := (HB.out.cell (p := bd.add k) (by rw [block_of_add']; exact hlt2)).trans hcb
        generalize Y[k]'(by rw [HM.out]; exact hkm) = q at *
        have GQ := Lib.hid gq
        clear gq hcb
        obtain ⟨r, hr⟩ : ∃ s, s = (cy + 0 + q) % 4294967296 := ⟨_, rfl⟩
        obtain ⟨dv, hdv⟩ : ∃ s, s = (cy + 0 + q) / 4294967296 := ⟨_, rfl⟩
        have HR := Lib.hid hr
        have HD := Lib.hid hdv
        have hc := HC.out
        have hkb : k ≤ 1099511627777 := by have := HK.out; have := HLX.out; have := HLY.out; omega
        clear hr hdv
        go_wp2_with (at_builtin; refine wpList_append_limbs rfl (.tmp 47) (.tmp 50) rfl w.heap.size _ ds rfl (HO.out.alloc _) _ (some ⟨wr.heap.size, 0, none⟩) 1 1 [r] rfl (row_one wr _ r (by have := HR.out; omega)) rfl (by have := HL.out; have := HK.out; have := HLX.out; have := HLY.out; omega) (by have := HB.out.size; simp; omega) ?_; rintro v' w1 hown1 hgrow hat; have HB1 := Lib.hid ((HB.out.alloc HB.out.size _).grown hgrow (by have := HB.out.size; simp; omega) HO.out.base_le); have HO1 := Lib.hid hown1; clear hown1 hgrow hat)
        go_roundw
        case rel => exact ⟨k + 1, dv, by go_num, by have := HD.out; go_num, by have := HD.out; omega, by omega, fun h => by have := HD.out; omega, PlusRel.step HL.out H32.out HE.out GP.out GQ.out HR.out HD.out HO1.out HB1.out⟩
        case measure => simp [intOf]; omega
      · have GQ := Lib.hid (getD_past (X := Y) (k := k) (by rw [HM.out]; omega))
        by_cases hcy : cy = 0
        · subst hcy
          go_wp2_with fail
          go_ret
          have he := HE.out
          rw [List.take_of_length_le (by rw [HN.out]; omega), List.take_of_length_le (by rw [HM.out]; omega)] at he
          exact ⟨_, rfl, ds, HO.out, H32.out, by have := HL.out; have := HK.out; have := HLX.out; have := HLY.out; omega, by omega, HB.out⟩
        · have hpos : decide (0 < cy) = true := by simp; omega
          have hkk : k ≤ max n m := Nat.le_of_not_lt fun h => hcy (HZ.out h)
          obtain ⟨r, hr⟩ : ∃ s, s = (cy + 0 + 0) % 4294967296 := ⟨_, rfl⟩
          obtain ⟨dv, hdv⟩ : ∃ s, s = (cy + 0 + 0) / 4294967296 := ⟨_, rfl⟩
          have HR := Lib.hid hr
          have HD := Lib.hid hdv
          have hc := HC.out
          have hkb : k ≤ 1099511627777 := by have := HK.out; have := HLX.out; have := HLY.out; omega
          clear hr hdv
          go_wp2_with (at_builtin; refine wpList_append_limbs rfl (.tmp 47) (.tmp 50) rfl w.heap.size _ ds rfl (HO.out.alloc _) _ (some ⟨wr.heap.size, 0, none⟩) 1 1 [r] rfl (row_one wr _ r (by have := HR.out; omega)) rfl (by have := HL.out; have := HK.out; have := HLX.out; have := HLY.out; omega) (by have := HB.out.size; simp; omega) ?_; rintro v' w1 hown1 hgrow hat; have HB1 := Lib.hid ((HB.out.alloc HB.out.size _).grown hgrow (by have := HB.out.size; simp; omega) HO.out.base_le); have HO1 := Lib.hid hown1; clear hown1 hgrow hat)
          go_roundw
          case rel => exact ⟨k + 1, dv, by go_num, by have := HD.out; go_num, by have := HD.out; omega, by omega, fun h => by have := HD.out; omega, PlusRel.step HL.out H32.out HE.out GP.out GQ.out HR.out HD.out HO1.out HB1.out⟩
          case measure => simp [intOf]; omega
end Go.Proofs.YtgaehhapjnbieaaGreat
namespace Go.Proofs.YtgaehhapjnbieaaGreat
open Go.RowKit
def MinusRel (w : World) (X Y : List Nat) (o : Value) (wr : World) (k b : Nat) : Prop :=
  ∃ ds : List Nat, ds.length = k ∧ L32 ds ∧ Owns wr w.heap.size o ds ∧ val ds + val (Y.take k) = val (X.take k) + 4294967296 ^ k * b ∧ Below w.heap.size w wr
theorem MinusRel.step {w wr' : World} {X Y : List Nat} {o' : Value} {k b b' p q r : Nat} {ds : List Nat} (hl : ds.length = k) (h32 : L32 ds) (he : val ds + val (Y.take k) = val (X.take k) + 4294967296 ^ k * b)
    (hp : X.getD k 0 = p) (hq : Y.getD k 0 = q) (hr : r < 4294967296) (hd : r + q + b = p + 4294967296 * b') (hown : Owns wr' w.heap.size o' (ds ++ [r])) (hb : Below w.heap.size w wr') : MinusRel w X Y o' wr' (k + 1) b' := by
  refine ⟨ds ++ [r], by simp [hl], h32.append (L32.mk hr L32.nil_), hown, ?_, hb⟩
  rw [val_snoc, hl, val_take_succ X, val_take_succ Y, hp, hq, Nat.pow_succ]
  have e2 : 4294967296 ^ k * (r + q + b) = 4294967296 ^ k * (p + 4294967296 * b') := by rw [hd]
  rw [Nat.mul_add, Nat.mul_add, Nat.mul_add, ← Nat.mul_assoc] at e2
  omega
set_option maxHeartbeats 1600000 in
theorem minus_any (A B : Option Addr) (c d n m : Nat) (X Y : List Nat) (w : World) (ha : RawMem w w.heap.size A X) (hb : RawMem w w.heap.size B Y) (hX : L32 X) (hY : L32 Y) (hn : X.length = n) (hm : Y.length = m) (hlx : n ≤ 1099511627776) (hmn : m ≤ n) (hle : val Y ≤ val X) :
    Calls Tryz.prog 118 #[.slice A n c, .slice B m d] w fun e w' => ∃ v ds, e = .returned v ∧ Owns w' w.heap.size v ds ∧ L32 ds ∧ ds.length ≤ 1099511627777 ∧ val ds = val X - val Y ∧ Below w.heap.size w w' := by
  have HX := Lib.hid hX
  have HY := Lib.hid hY
  have HN := Lib.hid hn
  have HM := Lib.hid hm
  have HLX := Lib.hid hlx
  have HMN := Lib.hid hmn
  have HLE := Lib.hid hle
  clear hX hY hn hm hlx hmn hle
  go_enter Tryz.func118, Tryz.ntmps118
  go_wp2_with fail
  go_loopw [5, 6, 7] (fun o br i wr => ∃ k b : Nat, i = .int .i64 k ∧ br = .int .i64 b ∧ b ≤ 1 ∧ k ≤ n ∧ MinusRel w X Y o wr k b) (fun _ _ i _ => n - (intOf i).toNat)
  case atStart => exact ⟨0, 0, rfl, rfl, by omega, by omega, [], rfl, L32.nil_, Owns.empty w (Nat.le_refl _), by simp [val], below_alloc _ _⟩
  case round =>
    obtain ⟨k, b, rfl, rfl, hc, hk, ds, hl, h32, hown, he, hbel⟩ := hrel
    have HK := Lib.hid hk
    have HL := Lib.hid hl
    have H32 := Lib.hid h32
    have HO := Lib.hid hown
    have HE := Lib.hid he
    have HB := Lib.hid hbel
    clear hk hl h32 hown he hbel
    by_cases hkn : k < n
    · obtain ⟨ad, rfl, hlt, hca⟩ := ha.at_ (show k < X.length by rw [HN.out]; exact hkn)
      have hp := HX.out.get (show k < X.length by rw [HN.out]; exact hkn)
      have gp := getD_of_lt (show k < X.length by rw [HN.out]; exact hkn)
      have hca' := (HB.out.cell (p := ad.add k) (by rw [block_of_add']; exact hlt)).trans hca
      generalize X[k]'(by rw [HN.out]; exact hkn) = p at *
      have GP := Lib.hid gp
      clear gp hca
      by_cases hkm : k < m
      · obtain ⟨bd, rfl, hlt2, hcb⟩ := hb.at_ (show k < Y.length by rw [HM.out]; exact hkm)
        have hq := HY.out.get (show k < Y.length by rw [HM.out]; exact hkm)
        have gq := getD_of_lt (show k < Y.length by rw [HM.out]; exact hkm)
        have hcb' := (HB.out.cell (p := bd.add k) (by rw [block_of_add']; exact hlt2)).trans hcb
        generalize Y[k]'(by rw [HM.out]; exact hkm) = q at *
        have GQ := Lib.hid gq
        clear gq hcb
        by_cases hs : (p : Int) - (b : Int) - (q : Int) < 0
        · have hd : decide ((p : Int) - (b : Int) - (q : Int) < 0) = true := decide_eq_true hs
          obtain ⟨r, hr⟩ : ∃ s : Nat, (s : Int) = ((p : Int) - (b : Int) - (q : Int) + 4294967296) := ⟨((p : Int) - (b : Int) - (q : Int) + 4294967296).toNat, by omega⟩
          have HR := Lib.hid hr
          have hkb : k ≤ 1099511627777 := by have := HK.out; have := HLX.out; omega
          clear hr
          go_wp2_with (at_builtin; refine wpList_append_limbs rfl (.tmp 38) (.tmp 41) rfl w.heap.size _ ds rfl (HO.out.alloc _) _ (some ⟨wr.heap.size, 0, none⟩) 1 1 [r] rfl (row_one wr _ r (by have := HR.out; omega)) rfl (by have := HL.out; have := HK.out; have := HLX.out; omega) (by have := HB.out.size; simp; omega) ?_; rintro v' w1 hown1 hgrow hat; have HB1 := Lib.hid ((HB.out.alloc HB.out.size _).grown hgrow (by have := HB.out.size; simp; omega) HO.out.base_le); have HO1 := Lib.hid hown1; clear hown1 hgrow hat)
          go_roundw
          case rel => exact ⟨k + 1, 1, by go_num, rfl, by omega, by omega, MinusRel.step HL.out H32.out HE.out GP.out GQ.out (by have := HR.out; omega) (by have := HR.out; omega) HO1.out HB1.out⟩
          case measure => simp [intOf]; omega
        · have hd : decide ((p : Int) - (b : Int) - (q : Int) < 0) = false := decide_eq_false hs
          obtain ⟨r, hr⟩ : ∃ s : Nat, (s : Int) = ((p : Int) - (b : Int) - (q : Int)) := ⟨((p : Int) - (b : Int) - (q : Int)).toNat, by omega⟩
          have HR := Lib.hid hr
          have hkb : k ≤ 1099511627777 := by have := HK.out; have := HLX.out; omega
          clear hr
          go_wp2_with (at_builtin; refine wpList_append_limbs rfl (.tmp 38) (.tmp 41) rfl w.heap.size _ ds rfl (HO.out.alloc _) _ (some ⟨wr.heap.size, 0, none⟩) 1 1 [r] rfl (row_one wr _ r (by have := HR.out; omega)) rfl (by have := HL.out; have := HK.out; have := HLX.out; omega) (by have := HB.out.size; simp; omega) ?_; rintro v' w1 hown1 hgrow hat; have HB1 := Lib.hid ((HB.out.alloc HB.out.size _).grown hgrow (by have := HB.out.size; simp; omega) HO.out.base_le); have HO1 := Lib.hid hown1; clear hown1 hgrow hat)
          go_roundw
          case rel => exact ⟨k + 1, 0, by go_num, rfl, by omega, by omega, MinusRel.step HL.out H32.out HE.out GP.out GQ.out (by have := HR.out; omega) (by have := HR.out; omega) HO1.out HB1.out⟩
          case measure => simp [intOf]; omega
      · have GQ := Lib.hid (getD_past (X := Y) (k := k) (by rw [HM.out]; omega))
        by_cases hs : (p : Int) - (b : Int) < 0
        · have hd : decide ((p : Int) - (b : Int) < 0) = true := decide_eq_true hs
          obtain ⟨r, hr⟩ : ∃ s : Nat, (s : Int) = ((p : Int) - (b : Int) - 0 + 4294967296) := ⟨((p : Int) - (b : Int) - 0 + 4294967296).toNat, by omega⟩
          have HR := Lib.hid hr
          have hkb : k ≤ 1099511627777 := by have := HK.out; have := HLX.out; omega
          clear hr
          go_wp2_with (at_builtin; refine wpList_append_limbs rfl (.tmp 38) (.tmp 41) rfl w.heap.size _ ds rfl (HO.out.alloc _) _ (some ⟨wr.heap.size, 0, none⟩) 1 1 [r] rfl (row_one wr _ r (by have := HR.out; omega)) rfl (by have := HL.out; have := HK.out; have := HLX.out; omega) (by have := HB.out.size; simp; omega) ?_; rintro v' w1 hown1 hgrow hat; have HB1 := Lib.hid ((HB.out.alloc HB.out.size _).grown hgrow (by have := HB.out.size; simp; omega) HO.out.base_le); have HO1 := Lib.hid hown1; clear hown1 hgrow hat)
          go_roundw
          case rel => exact ⟨k + 1, 1, by go_num, rfl, by omega, by omega, MinusRel.step HL.out H32.out HE.out GP.out GQ.out (by have := HR.out; omega) (by have := HR.out; omega) HO1.out HB1.out⟩
          case measure => simp [intOf]; omega
        · have hd : decide ((p : Int) - (b : Int) < 0) = false := decide_eq_false hs
          obtain ⟨r, hr⟩ : ∃ s : Nat, (s : Int) = ((p : Int) - (b : Int) - 0) := ⟨((p : Int) - (b : Int) - 0).toNat, by omega⟩
          have HR := Lib.hid hr
          have hkb : k ≤ 1099511627777 := by have := HK.out; have := HLX.out; omega
          clear hr
          go_wp2_with (at_builtin; refine wpList_append_limbs rfl (.tmp 38) (.tmp 41) rfl w.heap.size _ ds rfl (HO.out.alloc _) _ (some ⟨wr.heap.size, 0, none⟩) 1 1 [r] rfl (row_one wr _ r (by have := HR.out; omega)) rfl (by have := HL.out; have := HK.out; have := HLX.out; omega) (by have := HB.out.size; simp; omega) ?_; rintro v' w1 hown1 hgrow hat; have HB1 := Lib.hid ((HB.out.alloc HB.out.size _).grown hgrow (by have := HB.out.size; simp; omega) HO.out.base_le); have HO1 := Lib.hid hown1; clear hown1 hgrow hat)
          go_roundw
          case rel => exact ⟨k + 1, 0, by go_num, rfl, by omega, by omega, MinusRel.step HL.out H32.out HE.out GP.out GQ.out (by have := HR.out; omega) (by have := HR.out; omega) HO1.out HB1.out⟩
          case measure => simp [intOf]; omega
    · go_wp2_with fail
      go_ret
      have hkn' : k = n := by have := HK.out; omega
      have he := HE.out
      have hlds := HL.out
      have hv := val_lt H32.out
      have hX1 := HN.out
      have hY1 := HM.out
      have hmn1 := HMN.out
      rw [List.take_of_length_le (show X.length ≤ k by omega), List.take_of_length_le (show Y.length ≤ k by omega)] at he
      have hb0 : b = 0 := by
        rcases Nat.eq_zero_or_pos b with h | h
        · exact h
        · obtain rfl : b = 1 := by omega
          rw [hlds] at hv
          rw [Nat.mul_one] at he
          have := HLE.out
          omega
      subst hb0
      exact ⟨_, ds, rfl, HO.out, H32.out, by have := HL.out; have := HK.out; have := HLX.out; omega, by omega, HB.out⟩
end Go.Proofs.YtgaehhapjnbieaaGreat
namespace Go.Proofs.YtgaehhapjnbieaaGreat
open Go.RowKit
set_option maxHeartbeats 1600000 in
theorem RAdd_same (va vb : Value) (a b : Int) (w : World) (ha : IntAt w va a) (hb : IntAt w vb b) (hla : len a.natAbs ≤ 1099511627775) (hlb : len b.natAbs ≤ 1099511627775) (hs : decide (a < 0) = decide (b < 0)) :
    Calls Tryz.prog 87 #[va, vb] w (GivesInt (a + b) w) := by
  obtain ⟨x, hx⟩ : ∃ n, a.natAbs = n := ⟨_, rfl⟩
  obtain ⟨y, hy⟩ : ∃ n, b.natAbs = n := ⟨_, rfl⟩
  obtain ⟨p, hp⟩ : ∃ s, decide (a < 0) = s := ⟨_, rfl⟩
  obtain ⟨q, hq⟩ : ∃ s, decide (b < 0) = s := ⟨_, rfl⟩
  have sa := sgn_of a
  have sb := sgn_of b
  rw [hx, hp] at sa
  rw [hy, hq] at sb
  rw [hx] at hla
  rw [hy] at hlb
  rw [hp, hq] at hs
  subst hs
  obtain ⟨A, c, rfl, HA⟩ := ha.parts_ hx hp
  obtain ⟨B, d, rfl, HB⟩ := hb.parts_ hy hq
  have SA := Lib.hid sa
  have SB := Lib.hid sb
  have LA := Lib.hid hla
  have LB := Lib.hid hlb
  clear hx hy hp hq ha hb sa sb hla hlb
  have heq : (p == p) = true := by simp
  have HH := Lib.hid (heap3 w (.cells #[.bool p, .slice A (len x) c] 34) (.cells #[.bool p, .slice B (len y) d] 34) (.cells #[.bool false, .slice none 0 0] 34))
  have HW := Lib.hid (below3 w (.cells #[.bool p, .slice A (len x) c] 34) (.cells #[.bool p, .slice B (len y) d] 34) (.cells #[.bool false, .slice none 0 0] 34))
  obtain ⟨ca0, ca1, _, _, _⟩ := box_in HH.out.1 (Below.refl _ _)
  obtain ⟨cb0, cb1, _, _, _⟩ := box_in HH.out.2.1 (Below.refl _ _)
  obtain ⟨cc0, cc1, cf0, cf1, cs⟩ := box_in HH.out.2.2 (Below.refl _ _)
  go_enter Tryz.func87, Tryz.ntmps87
  go_wp2_with fail
  generalize ((w.alloc (.cells #[.bool p, .slice A (len x) c] 34)).alloc (.cells #[.bool p, .slice B (len y) d] 34)).alloc (.cells #[.bool false, .slice none 0 0] 34) = W at *
  have HELD : ∀ w' : World, Below W.heap.size W w' → w'.cell? ⟨w.heap.size, 0, none⟩ = some (.bool p) ∧ w'.cell? ⟨w.heap.size, 1, none⟩ = some (.slice A (len x) c) ∧ w'.cell? ⟨w.heap.size + 1, 0, none⟩ = some (.bool p) ∧ w'.cell? ⟨w.heap.size + 1, 1, none⟩ = some (.slice B (len y) d) := fun w' hb => by
    obtain ⟨a0, a1, _, _, _⟩ := box_in HH.out.1 hb
    obtain ⟨b0, b1, _, _, _⟩ := box_in HH.out.2.1 hb
    exact ⟨a0, a1, b0, b1⟩
  have HELD2 : ∀ w' : World, Below W.heap.size W w' → ∀ (i j : Nat) (u v : Value), ((w'.setCell ⟨w.heap.size + 1 + 1, i, none⟩ u).setCell ⟨w.heap.size + 1 + 1, j, none⟩ v).cell? ⟨w.heap.size, 0, none⟩ = some (.bool p) ∧ ((w'.setCell ⟨w.heap.size + 1 + 1, i, none⟩ u).setCell ⟨w.heap.size + 1 + 1, j, none⟩ v).cell? ⟨w.heap.size, 1, none⟩ = some (.slice A (len x) c) ∧ ((w'.setCell ⟨w.heap.size + 1 + 1, i, none⟩ u).setCell ⟨w.heap.size + 1 + 1, j, none⟩ v).cell? ⟨w.heap.size + 1, 0, none⟩ = some (.bool p) ∧ ((w'.setCell ⟨w.heap.size + 1 + 1, i, none⟩ u).setCell ⟨w.heap.size + 1 + 1, j, none⟩ v).cell? ⟨w.heap.size + 1, 1, none⟩ = some (.slice B (len y) d) := fun w' hb i j u v => by
    obtain ⟨a0, a1, b0, b1⟩ := HELD w' hb
    refine ⟨?_, ?_, ?_, ?_⟩
    all_goals
      rw [World.cell?_setCell_far _ _ _ _ (by simp; try omega), World.cell?_setCell_far _ _ _ _ (by simp; try omega)]
      assumption
  have HELD' := Lib.hid HELD
  have HELD2' := Lib.hid HELD2
  clear HELD2
  have HWW := Lib.hid (Below.refl W.heap.size W)
  clear HELD
  go_region_held3 (fun w' => w'.cell? ⟨w.heap.size, 0, none⟩ = some (.bool p) ∧ w'.cell? ⟨w.heap.size, 1, none⟩ = some (.slice A (len x) c) ∧ w'.cell? ⟨w.heap.size + 1, 0, none⟩ = some (.bool p) ∧ w'.cell? ⟨w.heap.size + 1, 1, none⟩ = some (.slice B (len y) d))
    (first | (go_keep; done) | exact HELD'.out _ HB1.out | exact HELD'.out _ HB1.out.drew | exact HELD'.out _ HB2.out | exact HELD'.out _ HB2.out.drew | exact HELD2'.out _ HB2.out _ _ _ _)
    (first
      | (go_at_call 116
         refine (plus_any _ _ c d _ _ (limbs x) (limbs y) _ ((HA.out.into (by first | exact HW.out | exact HW.out.drew | exact HW.out.drew.drew)).mem.2.2.raw) ((HB.out.into (by first | exact HW.out | exact HW.out.drew | exact HW.out.drew.drew)).mem.2.2.raw) (limbs_32 _) (limbs_32 _) (len_limbs _) (len_limbs _) (by have := LA.out; omega) (by have := LB.out; omega)).mono ?_
         rintro e w1 ⟨v1, ds, rfl, ho1, h321, hl1, hv1, hb1⟩
         obtain ⟨A1, L1, c1, rfl, hL1, hc1, _, hm1⟩ := ho1.shapeL
         have HL1 := hL1
         have H321 := Lib.hid h321
         have HLL := Lib.hid hl1
         have HV1 := Lib.hid hv1
         have HC1 := Lib.hid hc1
         have HM1 := Lib.hid hm1
         have HB1 : Hid (Below W.heap.size W w1) := step_below (by first | exact HWW.out | exact HWW.out.drew | exact HWW.out.drew.drew) hb1
         clear hb1 ho1 h321 hl1 hv1 hL1 hc1 hm1)
      | (go_at_call 115
         refine (Made_any A1 L1 c1 ds p _ HL1.out.symm HM1.out.raw (by have := HL1.out; have := HLL.out; omega) HC1.out H321.out).mono ?_
         rintro e w2 ⟨v2, rfl, hv2, hb2⟩
         obtain ⟨b2, A2, k2, c2, rfl, H2⟩ := hv2.open_
         have HB2 : Hid (Below W.heap.size W w2) := step_below HB1.out hb2
         obtain ⟨dc0, dc1, df0, df1, ds'⟩ := box_in HH.out.2.2 HB2.out
         have HE := Lib.hid (box_end (x' := .bool b2) (y' := .slice A2 k2 c2) HH.out.2.2 HB2.out H2.out HW.out (by omega))
         clear hb2 hv2))
  go_wp2
  have hz : sgn p (val ds) = a + b := by
    rw [HV1.out, ← SA.out, ← SB.out]
    rw [val_limbs, val_limbs]
    cases p <;> simp [sgn] <;> omega
  rw [hz] at HE
  refine bodyPost_ret (v := .agg #[.bool b2, .slice A2 k2 c2]) (by simp [results, Tryz.results87, go_sem, dc0, dc1]) rfl ⟨_, rfl, HE.out.1, HE.out.2⟩
set_option maxHeartbeats 1600000 in
theorem RAdd_less (va vb : Value) (a b : Int) (w : World) (ha : IntAt w va a) (hb : IntAt w vb b) (hla : len a.natAbs ≤ 1099511627775) (hlb : len b.natAbs ≤ 1099511627775) (hs : decide (a < 0) ≠ decide (b < 0)) (hlt : a.natAbs < b.natAbs) :
    Calls Tryz.prog 87 #[va, vb] w (GivesInt (a + b) w) := by
  obtain ⟨x, hx⟩ : ∃ n, a.natAbs = n := ⟨_, rfl⟩
  obtain ⟨y, hy⟩ : ∃ n, b.natAbs = n := ⟨_, rfl⟩
  obtain ⟨p, hp⟩ : ∃ s, decide (a < 0) = s := ⟨_, rfl⟩
  obtain ⟨q, hq⟩ : ∃ s, decide (b < 0) = s := ⟨_, rfl⟩
  have sa := sgn_of a
  have sb := sgn_of b
  rw [hx, hp] at sa
  rw [hy, hq] at sb
  rw [hx] at hla
  rw [hy] at hlb
  rw [hp, hq] at hs
  rw [hx, hy] at hlt
  have HLT := Lib.hid hlt
  clear hlt
  obtain ⟨A, c, rfl, HA⟩ := ha.parts_ hx hp
  obtain ⟨B, d, rfl, HB⟩ := hb.parts_ hy hq
  have SA := Lib.hid sa
  have SB := Lib.hid sb
  have LA := Lib.hid hla
  have LB := Lib.hid hlb
  clear hx hy hp hq ha hb sa sb hla hlb
  have hne : (p == q) = false := by cases p <;> cases q <;> simp_all
  have HH := Lib.hid (heap3 w (.cells #[.bool p, .slice A (len x) c] 34) (.cells #[.bool q, .slice B (len y) d] 34) (.cells #[.bool false, .slice none 0 0] 34))
  have HW := Lib.hid (below3 w (.cells #[.bool p, .slice A (len x) c] 34) (.cells #[.bool q, .slice B (len y) d] 34) (.cells #[.bool false, .slice none 0 0] 34))
  obtain ⟨ca0, ca1, _, _, _⟩ := box_in HH.out.1 (Below.refl _ _)
  obtain ⟨cb0, cb1, _, _, _⟩ := box_in HH.out.2.1 (Below.refl _ _)
  obtain ⟨cc0, cc1, cf0, cf1, cs⟩ := box_in HH.out.2.2 (Below.refl _ _)
  go_enter Tryz.func87, Tryz.ntmps87
  go_wp2_with fail
  generalize ((w.alloc (.cells #[.bool p, .slice A (len x) c] 34)).alloc (.cells #[.bool q, .slice B (len y) d] 34)).alloc (.cells #[.bool false, .slice none 0 0] 34) = W at *
  refine (less_q A B c d x y _ (HA.out.into HW.out) (HB.out.into HW.out) (by have := LA.out; omega) (by have := LB.out; omega)).mono ?_
  rintro e W1 ⟨rfl, hbl, hheap⟩
  rw [decide_eq_true HLT.out]
  have HH1 := HH.out
  rw [← hheap] at HH1
  replace HH := Lib.hid HH1
  replace HW := Lib.hid (step_below HW.out hbl)
  clear HH1 hbl hheap ca0 ca1 cb0 cb1 cc0 cc1 cf0 cf1 cs
  obtain ⟨ca0, ca1, _, _, _⟩ := box_in HH.out.1 (Below.refl _ _)
  obtain ⟨cb0, cb1, _, _, _⟩ := box_in HH.out.2.1 (Below.refl _ _)
  obtain ⟨cc0, cc1, cf0, cf1, cs⟩ := box_in HH.out.2.2 (Below.refl _ _)
  go_wp2_with fail
  have HELD : ∀ w' : World, Below W1.heap.size W1 w' → w'.cell? ⟨w.heap.size, 0, none⟩ = some (.bool p) ∧ w'.cell? ⟨w.heap.size, 1, none⟩ = some (.slice A (len x) c) ∧ w'.cell? ⟨w.heap.size + 1, 0, none⟩ = some (.bool q) ∧ w'.cell? ⟨w.heap.size + 1, 1, none⟩ = some (.slice B (len y) d) := fun w' hb => by
    obtain ⟨a0, a1, _, _, _⟩ := box_in HH.out.1 hb
    obtain ⟨b0, b1, _, _, _⟩ := box_in HH.out.2.1 hb
    exact ⟨a0, a1, b0, b1⟩
  have HELD2 : ∀ w' : World, Below W1.heap.size W1 w' → ∀ (i j : Nat) (u v : Value), ((w'.setCell ⟨w.heap.size + 1 + 1, i, none⟩ u).setCell ⟨w.heap.size + 1 + 1, j, none⟩ v).cell? ⟨w.heap.size, 0, none⟩ = some (.bool p) ∧ ((w'.setCell ⟨w.heap.size + 1 + 1, i, none⟩ u).setCell ⟨w.heap.size + 1 + 1, j, none⟩ v).cell? ⟨w.heap.size, 1, none⟩ = some (.slice A (len x) c) ∧ ((w'.setCell ⟨w.heap.size + 1 + 1, i, none⟩ u).setCell ⟨w.heap.size + 1 + 1, j, none⟩ v).cell? ⟨w.heap.size + 1, 0, none⟩ = some (.bool q) ∧ ((w'.setCell ⟨w.heap.size + 1 + 1, i, none⟩ u).setCell ⟨w.heap.size + 1 + 1, j, none⟩ v).cell? ⟨w.heap.size + 1, 1, none⟩ = some (.slice B (len y) d) := fun w' hb i j u v => by
    obtain ⟨a0, a1, b0, b1⟩ := HELD w' hb
    refine ⟨?_, ?_, ?_, ?_⟩
    all_goals
      rw [World.cell?_setCell_far _ _ _ _ (by simp; try omega), World.cell?_setCell_far _ _ _ _ (by simp; try omega)]
      assumption
  have HELD' := Lib.hid HELD
  have HELD2' := Lib.hid HELD2
  clear HELD2
  have HWW := Lib.hid (Below.refl W1.heap.size W1)
  clear HELD
  go_region_held3 (fun w' => w'.cell? ⟨w.heap.size, 0, none⟩ = some (.bool p) ∧ w'.cell? ⟨w.heap.size, 1, none⟩ = some (.slice A (len x) c) ∧ w'.cell? ⟨w.heap.size + 1, 0, none⟩ = some (.bool q) ∧ w'.cell? ⟨w.heap.size + 1, 1, none⟩ = some (.slice B (len y) d))
    (first | (go_keep; done) | exact HELD'.out _ HB1.out | exact HELD'.out _ HB1.out.drew | exact HELD'.out _ HB2.out | exact HELD'.out _ HB2.out.drew | exact HELD2'.out _ HB2.out _ _ _ _)
    (first
      | (go_at_call 118
         refine (minus_any _ _ d c _ _ (limbs y) (limbs x) _ ((HB.out.into (by first | exact HW.out | exact HW.out.drew | exact HW.out.drew.drew)).mem.2.2.raw) ((HA.out.into (by first | exact HW.out | exact HW.out.drew | exact HW.out.drew.drew)).mem.2.2.raw) (limbs_32 _) (limbs_32 _) (len_limbs _) (len_limbs _) (by have := LB.out; omega) (len_mono (Nat.le_of_lt HLT.out)) (by rw [val_limbs, val_limbs]; exact Nat.le_of_lt HLT.out)).mono ?_
         rintro e w1 ⟨v1, ds, rfl, ho1, h321, hl1, hv1, hb1⟩
         obtain ⟨A1, L1, c1, rfl, hL1, hc1, _, hm1⟩ := ho1.shapeL
         have HL1 := hL1
         have H321 := Lib.hid h321
         have HLL := Lib.hid hl1
         have HV1 := Lib.hid hv1
         have HC1 := Lib.hid hc1
         have HM1 := Lib.hid hm1
         have HB1 : Hid (Below W1.heap.size W1 w1) := step_below (by first | exact HWW.out | exact HWW.out.drew | exact HWW.out.drew.drew) hb1
         clear hb1 ho1 h321 hl1 hv1 hL1 hc1 hm1)
      | (go_at_call 115
         refine (Made_any A1 L1 c1 ds q _ HL1.out.symm HM1.out.raw (by have := HL1.out; have := HLL.out; omega) HC1.out H321.out).mono ?_
         rintro e w2 ⟨v2, rfl, hv2, hb2⟩
         obtain ⟨b2, A2, k2, c2, rfl, H2⟩ := hv2.open_
         have HB2 : Hid (Below W1.heap.size W1 w2) := step_below HB1.out hb2
         obtain ⟨dc0, dc1, df0, df1, ds'⟩ := box_in HH.out.2.2 HB2.out
         have HE := Lib.hid (box_end (x' := .bool b2) (y' := .slice A2 k2 c2) HH.out.2.2 HB2.out H2.out HW.out (by omega))
         clear hb2 hv2))
  go_wp2
  have hz : sgn q (val ds) = a + b := by
    rw [HV1.out, ← SA.out, ← SB.out]
    rw [val_limbs, val_limbs]
    have := HLT.out
    cases p <;> cases q <;> simp [sgn] at hne ⊢ <;> omega
  rw [hz] at HE
  refine bodyPost_ret (v := .agg #[.bool b2, .slice A2 k2 c2]) (by simp [results, Tryz.results87, go_sem, dc0, dc1]) rfl ⟨_, rfl, HE.out.1, HE.out.2⟩
set_option maxHeartbeats 1600000 in
theorem RAdd_ge (va vb : Value) (a b : Int) (w : World) (ha : IntAt w va a) (hb : IntAt w vb b) (hla : len a.natAbs ≤ 1099511627775) (hlb : len b.natAbs ≤ 1099511627775) (hs : decide (a < 0) ≠ decide (b < 0)) (hlt : ¬ a.natAbs < b.natAbs) :
    Calls Tryz.prog 87 #[va, vb] w (GivesInt (a + b) w) := by
  obtain ⟨x, hx⟩ : ∃ n, a.natAbs = n := ⟨_, rfl⟩
  obtain ⟨y, hy⟩ : ∃ n, b.natAbs = n := ⟨_, rfl⟩
  obtain ⟨p, hp⟩ : ∃ s, decide (a < 0) = s := ⟨_, rfl⟩
  obtain ⟨q, hq⟩ : ∃ s, decide (b < 0) = s := ⟨_, rfl⟩
  have sa := sgn_of a
  have sb := sgn_of b
  rw [hx, hp] at sa
  rw [hy, hq] at sb
  rw [hx] at hla
  rw [hy] at hlb
  rw [hp, hq] at hs
  rw [hx, hy] at hlt
  have HLT := Lib.hid hlt
  clear hlt
  obtain ⟨A, c, rfl, HA⟩ := ha.parts_ hx hp
  obtain ⟨B, d, rfl, HB⟩ := hb.parts_ hy hq
  have SA := Lib.hid sa
  have SB := Lib.hid sb
  have LA := Lib.hid hla
  have LB := Lib.hid hlb
  clear hx hy hp hq ha hb sa sb hla hlb
  have hne : (p == q) = false := by cases p <;> cases q <;> simp_all
  have HH := Lib.hid (heap3 w (.cells #[.bool p, .slice A (len x) c] 34) (.cells #[.bool q, .slice B (len y) d] 34) (.cells #[.bool false, .slice none 0 0] 34))
  have HW := Lib.hid (below3 w (.cells #[.bool p, .slice A (len x) c] 34) (.cells #[.bool q, .slice B (len y) d] 34) (.cells #[.bool false, .slice none 0 0] 34))
  obtain ⟨ca0, ca1, _, _, _⟩ := box_in HH.out.1 (Below.refl _ _)
  obtain ⟨cb0, cb1, _, _, _⟩ := box_in HH.out.2.1 (Below.refl _ _)
  obtain ⟨cc0, cc1, cf0, cf1, cs⟩ := box_in HH.out.2.2 (Below.refl _ _)
  go_enter Tryz.func87, Tryz.ntmps87
  go_wp2_with fail
  generalize ((w.alloc (.cells #[.bool p, .slice A (len x) c] 34)).alloc (.cells #[.bool q, .slice B (len y) d] 34)).alloc (.cells #[.bool false, .slice none 0 0] 34) = W at *
  refine (less_q A B c d x y _ (HA.out.into HW.out) (HB.out.into HW.out) (by have := LA.out; omega) (by have := LB.out; omega)).mono ?_
  rintro e W1 ⟨rfl, hbl, hheap⟩
  rw [decide_eq_false HLT.out]
  have HH1 := HH.out
  rw [← hheap] at HH1
  replace HH := Lib.hid HH1
  replace HW := Lib.hid (step_below HW.out hbl)
  clear HH1 hbl hheap ca0 ca1 cb0 cb1 cc0 cc1 cf0 cf1 cs
  obtain ⟨ca0, ca1, _, _, _⟩ := box_in HH.out.1 (Below.refl _ _)
  obtain ⟨cb0, cb1, _, _, _⟩ := box_in HH.out.2.1 (Below.refl _ _)
  obtain ⟨cc0, cc1, cf0, cf1, cs⟩ := box_in HH.out.2.2 (Below.refl _ _)
  go_wp2_with fail
  have HELD : ∀ w' : World, Below W1.heap.size W1 w' → w'.cell? ⟨w.heap.size, 0, none⟩ = some (.bool p) ∧ w'.cell? ⟨w.heap.size, 1, none⟩ = some (.slice A (len x) c) ∧ w'.cell? ⟨w.heap.size + 1, 0, none⟩ = some (.bool q) ∧ w'.cell? ⟨w.heap.size + 1, 1, none⟩ = some (.slice B (len y) d) := fun w' hb => by
    obtain ⟨a0, a1, _, _, _⟩ := box_in HH.out.1 hb
    obtain ⟨b0, b1, _, _, _⟩ := box_in HH.out.2.1 hb
    exact ⟨a0, a1, b0, b1⟩
  have HELD2 : ∀ w' : World, Below W1.heap.size W1 w' → ∀ (i j : Nat) (u v : Value), ((w'.setCell ⟨w.heap.size + 1 + 1, i, none⟩ u).setCell ⟨w.heap.size + 1 + 1, j, none⟩ v).cell? ⟨w.heap.size, 0, none⟩ = some (.bool p) ∧ ((w'.setCell ⟨w.heap.size + 1 + 1, i, none⟩ u).setCell ⟨w.heap.size + 1 + 1, j, none⟩ v).cell? ⟨w.heap.size, 1, none⟩ = some (.slice A (len x) c) ∧ ((w'.setCell ⟨w.heap.size + 1 + 1, i, none⟩ u).setCell ⟨w.heap.size + 1 + 1, j, none⟩ v).cell? ⟨w.heap.size + 1, 0, none⟩ = some (.bool q) ∧ ((w'.setCell ⟨w.heap.size + 1 + 1, i, none⟩ u).setCell ⟨w.heap.size + 1 + 1, j, none⟩ v).cell? ⟨w.heap.size + 1, 1, none⟩ = some (.slice B (len y) d) := fun w' hb i j u v => by
    obtain ⟨a0, a1, b0, b1⟩ := HELD w' hb
    refine ⟨?_, ?_, ?_, ?_⟩
    all_goals
      rw [World.cell?_setCell_far _ _ _ _ (by simp; try omega), World.cell?_setCell_far _ _ _ _ (by simp; try omega)]
      assumption
  have HELD' := Lib.hid HELD
  have HELD2' := Lib.hid HELD2
  clear HELD2
  have HWW := Lib.hid (Below.refl W1.heap.size W1)
  clear HELD
  go_region_held3 (fun w' => w'.cell? ⟨w.heap.size, 0, none⟩ = some (.bool p) ∧ w'.cell? ⟨w.heap.size, 1, none⟩ = some (.slice A (len x) c) ∧ w'.cell? ⟨w.heap.size + 1, 0, none⟩ = some (.bool q) ∧ w'.cell? ⟨w.heap.size + 1, 1, none⟩ = some (.slice B (len y) d))
    (first | (go_keep; done) | exact HELD'.out _ HB1.out | exact HELD'.out _ HB1.out.drew | exact HELD'.out _ HB2.out | exact HELD'.out _ HB2.out.drew | exact HELD2'.out _ HB2.out _ _ _ _)
    (first
      | (go_at_call 118
         refine (minus_any _ _ c d _ _ (limbs x) (limbs y) _ ((HA.out.into (by first | exact HW.out | exact HW.out.drew | exact HW.out.drew.drew)).mem.2.2.raw) ((HB.out.into (by first | exact HW.out | exact HW.out.drew | exact HW.out.drew.drew)).mem.2.2.raw) (limbs_32 _) (limbs_32 _) (len_limbs _) (len_limbs _) (by have := LA.out; omega) (len_mono (by have := HLT.out; omega)) (by rw [val_limbs, val_limbs]; have := HLT.out; omega)).mono ?_
         rintro e w1 ⟨v1, ds, rfl, ho1, h321, hl1, hv1, hb1⟩
         obtain ⟨A1, L1, c1, rfl, hL1, hc1, _, hm1⟩ := ho1.shapeL
         have HL1 := hL1
         have H321 := Lib.hid h321
         have HLL := Lib.hid hl1
         have HV1 := Lib.hid hv1
         have HC1 := Lib.hid hc1
         have HM1 := Lib.hid hm1
         have HB1 : Hid (Below W1.heap.size W1 w1) := step_below (by first | exact HWW.out | exact HWW.out.drew | exact HWW.out.drew.drew) hb1
         clear hb1 ho1 h321 hl1 hv1 hL1 hc1 hm1)
      | (go_at_call 115
         refine (Made_any A1 L1 c1 ds p _ HL1.out.symm HM1.out.raw (by have := HL1.out; have := HLL.out; omega) HC1.out H321.out).mono ?_
         rintro e w2 ⟨v2, rfl, hv2, hb2⟩
         obtain ⟨b2, A2, k2, c2, rfl, H2⟩ := hv2.open_
         have HB2 : Hid (Below W1.heap.size W1 w2) := step_below HB1.out hb2
         obtain ⟨dc0, dc1, df0, df1, ds'⟩ := box_in HH.out.2.2 HB2.out
         have HE := Lib.hid (box_end (x' := .bool b2) (y' := .slice A2 k2 c2) HH.out.2.2 HB2.out H2.out HW.out (by omega))
         clear hb2 hv2))
  go_wp2
  have hz : sgn p (val ds) = a + b := by
    rw [HV1.out, ← SA.out, ← SB.out]
    rw [val_limbs, val_limbs]
    have := HLT.out
    cases p <;> cases q <;> simp [sgn] at hne ⊢ <;> omega
  rw [hz] at HE
  refine bodyPost_ret (v := .agg #[.bool b2, .slice A2 k2 c2]) (by simp [results, Tryz.results87, go_sem, dc0, dc1]) rfl ⟨_, rfl, HE.out.1, HE.out.2⟩
theorem RAdd_any (va vb : Value) (a b : Int) (w : World) (ha : IntAt w va a) (hb : IntAt w vb b) (hla : len a.natAbs ≤ 1099511627775) (hlb : len b.natAbs ≤ 1099511627775) :
    Calls Tryz.prog 87 #[va, vb] w (GivesInt (a + b) w) := by
  by_cases hs : decide (a < 0) = decide (b < 0)
  · exact RAdd_same va vb a b w ha hb hla hlb hs
  · by_cases hlt : a.natAbs < b.natAbs
    · exact RAdd_less va vb a b w ha hb hla hlb hs hlt
    · exact RAdd_ge va vb a b w ha hb hla hlb hs hlt
end Go.Proofs.YtgaehhapjnbieaaGreat
namespace Go.Proofs.YtgaehhapjnbieaaGreat
open Go.RowKit
set_option maxHeartbeats 1600000 in
theorem RSub_any (va vb : Value) (a b : Int) (w : World) (ha : IntAt w va a) (hb : IntAt w vb b) (hla : len a.natAbs ≤ 1099511627775) (hlb : len b.natAbs ≤ 1099511627775) :
    Calls Tryz.prog 145 #[va, vb] w (GivesInt (a - b) w) := by
  obtain ⟨x, hx⟩ : ∃ n, a.natAbs = n := ⟨_, rfl⟩
  obtain ⟨y, hy⟩ : ∃ n, b.natAbs = n := ⟨_, rfl⟩
  obtain ⟨p, hp⟩ : ∃ s, decide (a < 0) = s := ⟨_, rfl⟩
  obtain ⟨q, hq⟩ : ∃ s, decide (b < 0) = s := ⟨_, rfl⟩
  have sa := sgn_of a
  have sb := sgn_of b
  rw [hx, hp] at sa
  rw [hy, hq] at sb
  rw [hx] at hla
  rw [hy] at hlb
  obtain ⟨A, c, rfl, HA⟩ := ha.parts_ hx hp
  obtain ⟨B, d, rfl, HB⟩ := hb.parts_ hy hq
  have HIA := Lib.hid (IntAt.back HA.out hx hp)
  have HIB := Lib.hid (IntAt.back HB.out hy hq)
  have HX := Lib.hid hx
  have HY := Lib.hid hy
  have HP := Lib.hid hp
  have HQ := Lib.hid hq
  have SA := Lib.hid sa
  have SB := Lib.hid sb
  clear hx hy hp hq ha hb HA HB sa sb
  have HH := Lib.hid (heap3 w (.cells #[.bool p, .slice A (len x) c] 34) (.cells #[.bool q, .slice B (len y) d] 34) (.cells #[.bool false, .slice none 0 0] 34))
  have HW := Lib.hid (below3 w (.cells #[.bool p, .slice A (len x) c] 34) (.cells #[.bool q, .slice B (len y) d] 34) (.cells #[.bool false, .slice none 0 0] 34))
  obtain ⟨ca0, ca1, _, _, _⟩ := box_in HH.out.1 (Below.refl _ _)
  obtain ⟨cb0, cb1, _, _, _⟩ := box_in HH.out.2.1 (Below.refl _ _)
  obtain ⟨cc0, cc1, cf0, cf1, cs⟩ := box_in HH.out.2.2 (Below.refl _ _)
  go_enter Tryz.func145, Tryz.ntmps145
  go_wp2_with fail
  generalize ((w.alloc (.cells #[.bool p, .slice A (len x) c] 34)).alloc (.cells #[.bool q, .slice B (len y) d] 34)).alloc (.cells #[.bool false, .slice none 0 0] 34) = W at *
  have HELD : ∀ w' : World, Below W.heap.size W w' → w'.cell? ⟨w.heap.size, 0, none⟩ = some (.bool p) ∧ w'.cell? ⟨w.heap.size, 1, none⟩ = some (.slice A (len x) c) ∧ w'.cell? ⟨w.heap.size + 1, 0, none⟩ = some (.bool q) ∧ w'.cell? ⟨w.heap.size + 1, 1, none⟩ = some (.slice B (len y) d) := fun w' hb => by
    obtain ⟨a0, a1, _, _, _⟩ := box_in HH.out.1 hb
    obtain ⟨b0, b1, _, _, _⟩ := box_in HH.out.2.1 hb
    exact ⟨a0, a1, b0, b1⟩
  have HELD2 : ∀ w' : World, Below W.heap.size W w' → ∀ (i j : Nat) (u v : Value), ((w'.setCell ⟨w.heap.size + 1 + 1, i, none⟩ u).setCell ⟨w.heap.size + 1 + 1, j, none⟩ v).cell? ⟨w.heap.size, 0, none⟩ = some (.bool p) ∧ ((w'.setCell ⟨w.heap.size + 1 + 1, i, none⟩ u).setCell ⟨w.heap.size + 1 + 1, j, none⟩ v).cell? ⟨w.heap.size, 1, none⟩ = some (.slice A (len x) c) ∧ ((w'.setCell ⟨w.heap.size + 1 + 1, i, none⟩ u).setCell ⟨w.heap.size + 1 + 1, j, none⟩ v).cell? ⟨w.heap.size + 1, 0, none⟩ = some (.bool q) ∧ ((w'.setCell ⟨w.heap.size + 1 + 1, i, none⟩ u).setCell ⟨w.heap.size + 1 + 1, j, none⟩ v).cell? ⟨w.heap.size + 1, 1, none⟩ = some (.slice B (len y) d) := fun w' hb i j u v => by
    obtain ⟨a0, a1, b0, b1⟩ := HELD w' hb
    refine ⟨?_, ?_, ?_, ?_⟩
    all_goals
      rw [World.cell?_setCell_far _ _ _ _ (by simp; try omega), World.cell?_setCell_far _ _ _ _ (by simp; try omega)]
      assumption
  have HELD' := Lib.hid HELD
  have HELD2' := Lib.hid HELD2
  clear HELD2
  have HWW := Lib.hid (Below.refl W.heap.size W)
  clear HELD
  go_region_held3 (fun w' => w'.cell? ⟨w.heap.size, 0, none⟩ = some (.bool p) ∧ w'.cell? ⟨w.heap.size, 1, none⟩ = some (.slice A (len x) c) ∧ w'.cell? ⟨w.heap.size + 1, 0, none⟩ = some (.bool q) ∧ w'.cell? ⟨w.heap.size + 1, 1, none⟩ = some (.slice B (len y) d))
    (first | (go_keep; done) | exact HELD'.out _ HB1.out | exact HELD'.out _ HB1.out.drew | exact HELD'.out _ HB2.out | exact HELD'.out _ HB2.out.drew | exact HELD2'.out _ HB2.out _ _ _ _)
    (first
      | (go_at_call 90
         refine (RNeg_any _ b _ (HIB.out.into (by first | exact HW.out | exact HW.out.drew | exact HW.out.drew.drew)) (by rw [HY.out]; omega)).mono ?_
         rintro e w1 ⟨v1, rfl, hv1, hb1⟩
         obtain ⟨b1, A1, k1, c1, rfl, H1⟩ := hv1.open_
         have HB1 : Hid (Below W.heap.size W w1) := step_below (by first | exact HWW.out | exact HWW.out.drew | exact HWW.out.drew.drew) hb1
         clear hb1 hv1)
      | (go_at_call 87
         refine (RAdd_any _ _ a (-b) _ (HIA.out.into (step_below HW.out HB1.out)) H1.out (by rw [HX.out]; omega) (by rw [Int.natAbs_neg, HY.out]; omega)).mono ?_
         rintro e w2 ⟨v2, rfl, hv2, hb2⟩
         obtain ⟨b2, A2, k2, c2, rfl, H2⟩ := hv2.open_
         have HB2 : Hid (Below W.heap.size W w2) := step_below HB1.out hb2
         obtain ⟨dc0, dc1, df0, df1, ds⟩ := box_in HH.out.2.2 HB2.out
         have HE := Lib.hid (box_end (x' := .bool b2) (y' := .slice A2 k2 c2) HH.out.2.2 HB2.out H2.out HW.out (by omega))
         clear hb2 hv2))
  go_wp2
  refine bodyPost_ret (v := .agg #[.bool b2, .slice A2 k2 c2]) (by simp [results, Tryz.results145, go_sem, dc0, dc1]) rfl ⟨_, rfl, HE.out.1, HE.out.2⟩
end Go.Proofs.YtgaehhapjnbieaaGreat
namespace Go.Proofs.YtgaehhapjnbieaaGreat
open Go.RowKit
theorem MulRel.skip {w wr : World} {g n m : Nat} {X Y : List Nat} {i p : Nat} (h : MulRel w g n m X Y wr i m p 0) (hp : X.getD i 0 = p) (hY : Y.length ≤ m) (p' : Nat) : MulRel w g n m X Y wr (i + 1) 0 p' 0 := by
  obtain ⟨ds, hl, h32, hr, he, hz, hb⟩ := h
  refine ⟨ds, hl, h32, hr, ?_, fun t' ht' => hz t' (by omega), hb⟩
  rw [List.take_of_length_le hY, Nat.mul_zero, Nat.add_zero] at he
  rw [Nat.mul_zero, Nat.add_zero, he, val_take_succ, hp, List.take_zero, val_nil, Nat.mul_zero, Nat.mul_zero, Nat.add_zero, Nat.add_mul, Nat.mul_assoc]
theorem MulRel.zero {w wr : World} {g n m : Nat} {X Y : List Nat} {i j p c : Nat} (h : MulRel w g n m X Y wr i j p c) {t : Nat} (ht : t < n) (hm : i + m ≤ t) : wr.cell? ⟨g, t, none⟩ = some (.int .u32 0) ∧ wr.frozen? ⟨g, t, none⟩ = false := by
  obtain ⟨ds, hl, h32, hr, he, hz, hb⟩ := h
  have := hr.cell (show t < ds.length by omega)
  have gx := getD_of_lt (show t < ds.length by omega)
  rw [hz t hm] at gx
  rw [← gx] at this
  exact ⟨this, hr.frozen t⟩
theorem MulRel.bel {w wr : World} {g n m : Nat} {X Y : List Nat} {i j p c : Nat} (h : MulRel w g n m X Y wr i j p c) : Below w.heap.size w wr := by
  obtain ⟨_, _, _, _, _, _, hb⟩ := h
  exact hb
set_option maxHeartbeats 3200000 in
theorem RMul_any (va vb : Value) (a b : Int) (w : World) (ha : IntAt w va a) (hb : IntAt w vb b) (hla : len a.natAbs ≤ 1099511627776) (hlb : len b.natAbs ≤ 1099511627776) :
    Calls Tryz.prog 88 #[va, vb] w (GivesInt (a * b) w) := by
  obtain ⟨x, hx⟩ : ∃ n, a.natAbs = n := ⟨_, rfl⟩
  obtain ⟨y, hy⟩ : ∃ n, b.natAbs = n := ⟨_, rfl⟩
  obtain ⟨s, hs⟩ : ∃ s, decide (a < 0) = s := ⟨_, rfl⟩
  obtain ⟨u, hu⟩ : ∃ s, decide (b < 0) = s := ⟨_, rfl⟩
  have sa := sgn_of a
  have sb := sgn_of b
  rw [hx, hs] at sa
  rw [hy, hu] at sb
  rw [hx] at hla
  rw [hy] at hlb
  obtain ⟨A, c, rfl, HA⟩ := ha.parts_ hx hs
  obtain ⟨B, d, rfl, HB⟩ := hb.parts_ hy hu
  have SA := Lib.hid sa
  have SB := Lib.hid sb
  clear hx hy hs hu ha hb sa sb
  have HH := Lib.hid (heap3 w (.cells #[.bool s, .slice A (len x) c] 34) (.cells #[.bool u, .slice B (len y) d] 34) (.cells #[.bool false, .slice none 0 0] 34))
  have HW := Lib.hid (below3 w (.cells #[.bool s, .slice A (len x) c] 34) (.cells #[.bool u, .slice B (len y) d] 34) (.cells #[.bool false, .slice none 0 0] 34))
  obtain ⟨ca0, ca1, _, _, _⟩ := box_in HH.out.1 (Below.refl _ _)
  obtain ⟨cb0, cb1, _, _, _⟩ := box_in HH.out.2.1 (Below.refl _ _)
  have hmk := fun W => mk32 ((len x : Int) + (len y : Int) + 1) (by omega) (by omega) W
  have e1 : ((len x : Int) + (len y : Int) + 1).toNat = len x + len y + 1 := by omega
  rw [e1] at hmk
  clear e1
  have hWs : (((w.alloc (.cells #[.bool s, .slice A (len x) c] 34)).alloc (.cells #[.bool u, .slice B (len y) d] 34)).alloc (.cells #[.bool false, .slice none 0 0] 34)).heap.size = w.heap.size + 1 + 1 + 1 := by simp
  have HWS := Lib.hid hWs
  clear hWs
  go_enter Tryz.func88, Tryz.ntmps88
  go_wp2_with fail
  generalize ((w.alloc (.cells #[.bool s, .slice A (len x) c] 34)).alloc (.cells #[.bool u, .slice B (len y) d] 34)).alloc (.cells #[.bool false, .slice none 0 0] 34) = W at *
  have MA := Lib.hid (HA.out.into HW.out).mem.2.2
  have MB := Lib.hid (HB.out.into HW.out).mem.2.2
  clear ca0 ca1 cb0 cb1 hmk
  go_loopw [6] (fun i wr => ∃ k : Nat, k ≤ len x ∧ i = .int .i64 k ∧ MulRel W (w.heap.size + 1 + 1 + 1) (len x + len y + 1) (len y) (limbs x) (limbs y) wr k 0 0 0) (fun i _ => len x - (intOf i).toNat)
  case atStart => exact ⟨0, by omega, rfl, by rw [← HWS.out]; exact MulRel.start 0⟩
  case round =>
    obtain ⟨k, hk, rfl, hR0⟩ := hrel
    obtain ⟨ca0, ca1, _, _, _⟩ := box_in HH.out.1 hR0.bel
    obtain ⟨cb0, cb1, _, _, _⟩ := box_in HH.out.2.1 hR0.bel
    by_cases hlt : k < len x
    · obtain ⟨ad, eA, hlt1, _, hca⟩ : ∃ ad, A = some ad ∧ ad.block < W.heap.size ∧ True ∧ W.cell? (ad.add k) = some (.int .u32 (((limbs x)[k]'(by rw [len_limbs]; exact hlt) : Nat) : Int)) := by
        obtain ⟨ad, e, h1, h2⟩ := MA.out.at_ (show k < (limbs x).length by rw [len_limbs]; omega)
        exact ⟨ad, e, h1, trivial, h2⟩
      subst eA
      have hp := (limbs_32 x).get (show k < (limbs x).length by rw [len_limbs]; omega)
      have gp := getD_of_lt (show k < (limbs x).length by rw [len_limbs]; omega)
      generalize (limbs x)[k]'(by rw [len_limbs]; omega) = p at *
      have GP := Lib.hid gp
      clear gp
      have HR := Lib.hid (MulRel.row (p' := p) hR0)
      have HCA := Lib.hid hca
      clear hR0 hca
      go_wp2_with fail
      go_loopw [7, 8] (fun cr i wr2 => ∃ j cc : Nat, i = .int .i64 j ∧ cr = .int .u64 cc ∧ cc < 4294967296 ∧ ((j ≤ len y ∧ MulRel W (w.heap.size + 1 + 1 + 1) (len x + len y + 1) (len y) (limbs x) (limbs y) wr2 k j p cc) ∨ (j = len y + 1 ∧ cc = 0 ∧ MulRel W (w.heap.size + 1 + 1 + 1) (len x + len y + 1) (len y) (limbs x) (limbs y) wr2 (k + 1) 0 0 0))) (fun _ i _ => len y + 1 - (intOf i).toNat)
      case atStart => exact ⟨0, 0, rfl, rfl, by omega, .inl ⟨by omega, HR.out⟩⟩
      case round =>
        clear ca0 ca1 cb0 cb1
        obtain ⟨j, cc, rfl, rfl, hcc, hrel⟩ := hrel
        rcases hrel with ⟨hj, hrel⟩ | ⟨rfl, rfl, hrel⟩
        · have HR2 := Lib.hid hrel
          obtain ⟨ca0, ca1, _, _, _⟩ := box_in HH.out.1 hrel.bel
          obtain ⟨cb0, cb1, _, _, _⟩ := box_in HH.out.2.1 hrel.bel
          have hca := (hrel.bel.cell (p := ad.add k) (by rw [block_of_add']; exact hlt1)).trans HCA.out
          clear hrel HR
          by_cases hlj : j < len y
          · obtain ⟨bd, eB, hlt2, hcb0⟩ := MB.out.raw.at_ (show j < (limbs y).length by rw [len_limbs]; omega)
            subst eB
            have hq := (limbs_32 y).get (show j < (limbs y).length by rw [len_limbs]; omega)
            have gq := getD_of_lt (show j < (limbs y).length by rw [len_limbs]; omega)
            have hcb := (HR2.out.bel.cell (p := bd.add j) (by rw [block_of_add']; exact hlt2)).trans hcb0
            generalize (limbs y)[j]'(by rw [len_limbs]; omega) = q at *
            have GQ := Lib.hid gq
            clear gq hcb0
            obtain ⟨r, hr, hcell, hfz, hstep⟩ := HR2.out.cell (t := k + j) (by omega)
            clear hstep
            have hm := mul_bd hp hq
            have hm0 : (0 : Int) ≤ (p : Int) * (q : Int) := by rw [← Int.natCast_mul]; omega
            have hm1 : (p : Int) * (q : Int) ≤ 18446744065119617025 := by rw [← Int.natCast_mul]; omega
            clear hm
            have b1 : (0 : Int) ≤ (k : Int) := by omega
            have b2 : (k : Int) < (len x : Int) := by omega
            have b3 : (0 : Int) ≤ (j : Int) := by omega
            have b4 : (j : Int) < (len y : Int) := by omega
            go_wp2_with fail
            go_quiet (fail)
            have HR3 := Lib.hid (HR2.out.drewN nq)
            have hcd : (wr.drewN nq).cell? ⟨w.heap.size + 1 + 1 + 1, k + j, none⟩ = some (.int .u32 (r : Int)) := hcell
            have HCD := Lib.hid hcd
            clear HR2 hcell hfz ca0 ca1 cb0 cb1 hca hcb hcd
            generalize wr.drewN nq = wo at *
            obtain ⟨ca0, ca1, _, _, _⟩ := box_in HH.out.1 HR3.out.bel
            obtain ⟨cb0, cb1, _, _, _⟩ := box_in HH.out.2.1 HR3.out.bel
            obtain ⟨r', hr', hcell, hfz, hstep⟩ := HR3.out.cell (t := k + j) (by omega)
            obtain rfl : r' = r := by
              have := hcell.symm.trans HCD.out
              simp at this
              omega
            obtain ⟨S, hS⟩ : ∃ S, S = cc + (p * q + r') := ⟨_, rfl⟩
            have hSI : (cc : Int) + (r' : Int) + (p : Int) * (q : Int) = (S : Int) := by rw [hS, ← Int.natCast_mul]; omega
            have hS2 : S < 18446744073709551616 := by
              have := mul_bd hp hq
              rw [hS]
              generalize p * q = pq at *
              omega
            have HSI := Lib.hid hSI
            have HSN := Lib.hid hS
            have HS2 := Lib.hid hS2
            have HST := Lib.hid (hstep hlj q (S / 4294967296) GQ.out rfl (by rw [HWS.out]; exact Nat.le_refl _) (by rw [hS]) ((S : Int) % 4294967296) (by rw [← hSI]; congr 1; omega))
            clear hstep hSI hS hS2
            go_wp2_with fail
            go_roundw
            case rel => exact ⟨j + 1, S / 4294967296, by go_num, by rw [HSI.out]; rfl, by have := HS2.out; omega, .inl ⟨by omega, by rw [HSI.out]; exact HST.out⟩⟩
            case measure => (simp [intOf]; try omega)
          · have hj' : j = len y := by omega
            subst hj'
            obtain ⟨hcell, hfz⟩ := HR2.out.zero (t := k + len y) (by omega) (Nat.le_refl _)
            by_cases hc0 : cc = 0
            · subst hc0
              have HN := Lib.hid (HR2.out.skip GP.out (Nat.le_refl _) 0)
              clear HR2
              go_wp2_with fail
              go_roundw
              case rel => exact ⟨k + 1, by omega, by go_num, HN.out⟩
              case measure => (simp [intOf]; try omega)
            · have hpos : decide (0 < cc) = true := by simp; omega
              have HN := Lib.hid (HR2.out.next (by rw [HWS.out]; exact Nat.le_refl _) (by omega) hcc GP.out (Nat.le_refl _) 0)
              clear HR2
              go_wp2_with fail
              go_roundw
              case rel => exact ⟨len y + 1, 0, by go_num, by go_num, by omega, .inr ⟨rfl, rfl, by first | exact HN.out | (rw [show ((cc : Int) % 4294967296) = (cc : Int) from by omega]; exact HN.out)⟩⟩
              case measure => (simp [intOf]; try omega)
        · obtain ⟨ca0, ca1, _, _, _⟩ := box_in HH.out.1 hrel.bel
          obtain ⟨cb0, cb1, _, _, _⟩ := box_in HH.out.2.1 hrel.bel
          have HN := Lib.hid hrel
          clear hrel HR
          go_wp2_with fail
          go_roundw
          case rel => exact ⟨k + 1, by omega, by go_num, HN.out⟩
          case measure => (simp [intOf]; try omega)
    · have hk' : k = len x := by omega
      subst hk'
      obtain ⟨ds, hl, h32, hrow, he, hbel⟩ := hR0.finish (Nat.le_refl _)
      have HE := Lib.hid he
      have HBL := Lib.hid hbel
      have HL := Lib.hid hl
      have H32 := Lib.hid h32
      have HROW := Lib.hid hrow
      clear he hbel hl h32 hrow hR0
      go_wp2_with fail
      refine (Made_any _ _ _ ds (s != u) _ HL.out (HROW.out.mem HROW.out.lt).raw (by omega) (Nat.le_refl _) H32.out).mono ?_
      rintro e w2 ⟨v2, rfl, hv2, hb2⟩
      obtain ⟨b2, A2, k2, c2, rfl, H2⟩ := hv2.open_
      have HB2 := Lib.hid (step_below HBL.out hb2)
      obtain ⟨dc0, dc1, df0, df1, ds'⟩ := box_in HH.out.2.2 HB2.out
      have hz : sgn (s != u) (val ds) = a * b := by
        rw [HE.out, val_limbs, val_limbs, ← SA.out, ← SB.out]
        cases s <;> cases u <;> simp [sgn, Int.mul_neg, Int.neg_mul, Int.natCast_mul]
      have HEE := box_end (x' := .bool b2) (y' := .slice A2 k2 c2) HH.out.2.2 HB2.out H2.out HW.out (by omega)
      rw [hz] at HEE
      have HE2 := Lib.hid HEE
      clear hb2 hv2 HEE hz
      go_wp2
      refine bodyPost_ret (v := .agg #[.bool b2, .slice A2 k2 c2]) (by simp [results, Tryz.results88, go_sem, dc0, dc1]) rfl ⟨_, rfl, HE2.out.1, HE2.out.2⟩
end Go.Proofs.YtgaehhapjnbieaaGreat
