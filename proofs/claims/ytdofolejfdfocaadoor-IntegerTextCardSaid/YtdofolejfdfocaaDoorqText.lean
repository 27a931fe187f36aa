/- integer.Text at any number: group after group of nine digits. -/
import Derived.Test.YtdofolejfdfocaaDoorqTx
import Derived.Test.YtdofolejfdfocaaDoorqDig
import Derived.Test.YtdofolejfdfocaaDoorqRace
namespace Go.Proofs.YtdofolejfdfocaaDoor
open Go.RowKit Go.Lib

theorem text_drop {bs ds : List UInt8} {a nd : Nat} (hd : ds.length = nd) (h1 : nd ≤ a) (h2 : a ≤ bs.length) : (bs.take (a - nd) ++ ds ++ bs.drop (a - nd + ds.length)).drop (a - nd) = ds ++ bs.drop a := by
  rw [hd, show a - nd + nd = a by omega, List.append_assoc, List.drop_left' (by simp; omega)]
theorem text_sign {bs : List UInt8} {k : Nat} (hk : 0 < k) (hb : k ≤ bs.length) : (bs.set (k - 1) 45).drop (k - 1) = 45 :: bs.drop k := by
  obtain ⟨j, rfl⟩ : ∃ j, k = j + 1 := ⟨k - 1, by omega⟩
  rw [Nat.add_sub_cancel, List.drop_set, if_neg (by omega), Nat.sub_self, List.drop_eq_getElem_cons (by omega)]
  rfl
theorem text_take {bs ds : List UInt8} {a nd : Nat} (h0 : bs.take a = List.replicate a 48) (h1 : nd ≤ 9) (h2 : 9 ≤ a) (h3 : a ≤ bs.length) : (bs.take (a - nd) ++ ds ++ bs.drop (a - nd + ds.length)).take (a - 9) = List.replicate (a - 9) 48 := by
  rw [List.append_assoc, List.take_append_of_le_length (by simp; omega), List.take_take, Nat.min_eq_left (by omega)]
  have : bs.take (a - 9) = (bs.take a).take (a - 9) := by rw [List.take_take, Nat.min_eq_left (by omega)]
  rw [this, h0, List.take_replicate, Nat.min_eq_left (by omega)]
theorem text_pad {bs : List UInt8} {a r : Nat} (h0 : bs.take a = List.replicate a 48) (hr : r < 1000000000) (h2 : 9 ≤ a) (h3 : a ≤ bs.length) : (bs.take (a - nDigits r) ++ decDigits r ++ bs.drop (a - nDigits r + (decDigits r).length)).drop (a - 9) = padk 9 r ++ bs.drop a := by
  have h1 : nDigits r ≤ 9 := nDigits_le9 hr
  rw [padk_eq 9 r (by simpa using hr) (by omega), decDigits_length, show a - nDigits r + nDigits r = a by omega, List.append_assoc, List.drop_append_of_le_length (by simp; omega), List.append_assoc]
  congr 1
  have : bs.take (a - nDigits r) = (bs.take a).take (a - nDigits r) := by rw [List.take_take, Nat.min_eq_left (by omega)]
  rw [this, h0, List.take_replicate, Nat.min_eq_left (by omega), List.drop_replicate]
  congr 1
  omega
/-- What is left of the number, and what stands in the buffer behind place a. -/
def TextRel (w : World) (x g gb N : Nat) (wr : World) (u a : Nat) : Prop :=
  0 < u ∧ len u ≤ len x ∧ PRow wr g (limbs u) ∧ (∃ bs, BytesAt wr gb bs ∧ bs.length = N ∧ bs.take a = List.replicate a 48 ∧ decDigits x = decDigits u ++ bs.drop a) ∧ nDigits u < a ∧ a ≤ N ∧ Below w.heap.size w wr
theorem shortenG (g n c : Nat) (ms : List Nat) (w : World) (u : Nat) (hv : val ms = u) (hn : ms.length = n) (hr : PRow w g ms) (h32 : L32 ms) (hl : n ≤ 4398046511104) :
    Calls Tryd.prog 24 #[.slice (some ⟨g, 0, none⟩) n c, .int .u32 1000000000] w fun e w' => e = .returned (.int .u32 (u % 1000000000 : Nat)) ∧ (∃ ds : List Nat, ds.length = n ∧ L32 ds ∧ val ds = u / 1000000000 ∧ PRow w' g ds) ∧ w.grownBy w' (some g) := by
  subst hv
  exact shorten_any g n c ms 1000000000 w hn hr h32 hl (by omega) (by omega)
theorem prow_limbs {w : World} {g v : Nat} {ds : List Nat} (h : PRow w g ds) (h32 : L32 ds) (hv : val ds = v) : PRow w g (limbs v) := by
  have e := limbs_val h32
  rw [← hv, e.1]
  exact h.take _
/-- One round: a group is written, the number is divided. -/
theorem TextRel.next {w wr : World} {x g gb N u a q r : Nat} {bs : List UInt8} (hu : u = 1000000000 * q + r) (hr : r < 1000000000) (hq : 0 < q) (hl : len u ≤ len x) (hrow : PRow wr g (limbs q)) (h0 : bs.take a = List.replicate a 48) (hN : bs.length = N) (ha : a ≤ N)
    (hx : decDigits x = decDigits u ++ bs.drop a) (hnd : nDigits u < a) (hb : Below w.heap.size w wr) (hbuf : BytesAt wr gb (bs.take (a - nDigits r) ++ decDigits r ++ bs.drop (a - nDigits r + (decDigits r).length))) : TextRel w x g gb N wr q (a - 9) ∧ 9 < a := by
  have e := dec_split 9 q r hq (by simpa using hr)
  have e2 : (10 : Nat) ^ 9 * q + r = u := by rw [hu]
  rw [e2] at e
  have hnn : nDigits u = nDigits q + 9 := by
    have := congrArg List.length e
    rwa [List.length_append, padk_length, decDigits_length, decDigits_length] at this
  have hq1 := nDigits_pos q
  have hr9 := nDigits_le9 hr
  refine ⟨⟨hq, ?_, hrow, ⟨_, hbuf, ?_, text_take h0 hr9 (by omega) (by omega), ?_⟩, by omega, by omega, hb⟩, by omega⟩
  · refine Nat.le_trans (len_mono ?_) hl
    omega
  · simp [decDigits_length]; omega
  · rw [text_pad h0 hr (by omega) (by omega), hx, e, List.append_assoc]
set_option maxRecDepth 100000 in
set_option maxHeartbeats 3200000 in
theorem Text_pos (v : Value) (neg : Bool) (x : Nat) (w : World) (h : IntAt w v (sgn neg x)) (hx0 : 0 < x) (hxl : len x ≤ 1000000) (htab : P10 w) :
    Calls Tryd.prog 6 #[v] w fun e w' => e = .returned (.string ⟨(textB neg x).toArray⟩) ∧ Below w.heap.size w w' := by
  have hn : (sgn neg x).natAbs = x := sgn_abs neg x
  have hb : decide (sgn neg x < 0) = neg := by cases neg <;> simp [sgn] <;> omega
  obtain ⟨A, c, rfl, H⟩ := h.parts_ hn hb
  have HI := Lib.hid (IntAt.back H.out hn hb)
  obtain ⟨n, hlen⟩ : ∃ n, len x = n := ⟨_, rfl⟩
  have hn0 : 0 < n := by rw [← hlen, len_pos hx0]; omega
  have hnl : n ≤ 1000000 := by omega
  have hnd := nDigits_limbs x hx0
  rw [hlen] at hnd
  obtain ⟨ad, rfl, -, -⟩ := H.out.mem.2.2.at_ (k := 0) (by rw [len_limbs]; omega)
  have HN := Lib.hid hn
  have HB := Lib.hid hb
  have HLEN := Lib.hid hlen
  have HND := Lib.hid hnd
  clear h hn hb hlen hnd hxl
  go_enter Tryd.func6, Tryd.ntmps6
  go_wp2_with fail
  refine (parts_is _ _ x neg _ (HI.out.into (below_alloc _ _)) HN.out HB.out (by have := HLEN.out; omega)).mono ?_
  rintro e w1 ⟨A1, c1, rfl, H1, hb1⟩
  obtain ⟨ad1, rfl, -, -⟩ := H1.out.mem.2.2.at_ (k := 0) (by have := HLEN.out; rw [len_limbs]; omega)
  have HB1 := Lib.hid (step_below (below_alloc _ _) hb1)
  have hne : ((n : Int) == 0) = false := by simp; omega
  have HC1 := Lib.hid (Clone_any ad1 x c1 w1 H1.out (by have := HLEN.out; omega) (by have := HLEN.out; omega))
  rw [HLEN.out] at HC1
  rw [HLEN.out]
  clear hb1
  go_wp2_with fail
  refine HC1.out.mono ?_
  rintro e w2 ⟨g, c2, rfl, hrow, hg, hc2, hb2⟩
  have HB2 := Lib.hid (step_below HB1.out hb2)
  have HROW := Lib.hid hrow
  have HG : Hid (w.heap.size ≤ g) := Lib.hid (Nat.le_trans HB1.out.size hg)
  obtain ⟨N, hNe⟩ : ∃ N, 10 * n + 1 = N := ⟨_, rfl⟩
  have hw3 : 10 * (n : Int) + 1 = (N : Int) := by omega
  have hw2 : wrap64 (N : Int) = (N : Int) := by simp only [wrap64]; omega
  have HNE := Lib.hid hNe
  have hN1 : 1 ≤ N := by omega
  have hN2 : N ≤ 10000001 := by omega
  clear hb2 hrow hNe
  go_wp2_with fail
  refine (Repeat_any w2.heap.size N _ (by simp) hN1 (by omega)).mono ?_
  rintro e w3 ⟨rfl, hbuf0, hb3⟩
  have hbuf := hbuf0.bytes
  have hb23 := step_below (below_alloc w2 (.cells #[.int .u8 48] 5)) hb3
  rw [size_alloc'] at hbuf
  rw [size_alloc']
  have HR0 : Hid (TextRel w x g (w2.heap.size + 1) N w3 x N) := Lib.hid ⟨hx0, Nat.le_refl _, HROW.out.below hb23, ⟨_, hbuf, by simp, by simp, by simp⟩, by have := HND.out; have := HNE.out; omega, Nat.le_refl _, step_below HB2.out hb23⟩
  have hgne : w2.heap.size + 1 ≠ g := by have := HROW.out.lt; omega
  have HGB : Hid (w.heap.size ≤ w2.heap.size + 1) := Lib.hid (by have := HB2.out.size; omega)
  generalize w2.heap.size + 1 = gb at *
  clear hb3 hbuf hbuf0 hb23
  go_wp2_with fail
  go_loopw [5, 7] (fun s at_ wr => ∃ u a : Nat, s = .slice (some ⟨g, 0, none⟩) (len u) c2 ∧ at_ = .int .i64 a ∧ TextRel w x g gb N wr u a) (fun _ a _ => (RowKit.intOf a).toNat)
  case atStart => exact ⟨x, N, by rw [HLEN.out], rfl, HR0.out⟩
  case round =>
    obtain ⟨u, a, rfl, rfl, hu0, hul, hrow, ⟨bs, hbuf, hbl, hb48, hxd⟩, hnda, haN, hb⟩ := hrel
    obtain ⟨m, hm⟩ : ∃ m, len u = m := ⟨_, rfl⟩
    obtain ⟨r, hr⟩ : ∃ r, u % 1000000000 = r := ⟨_, rfl⟩
    obtain ⟨q, hq⟩ : ∃ q, u / 1000000000 = q := ⟨_, rfl⟩
    have hr9 : r < 1000000000 := by omega
    have hur : u = 1000000000 * q + r := by omega
    have hmn : m ≤ n := by rw [HLEN.out] at hul; omega
    have hSH := shortenG g m c2 (limbs u) _ u (val_limbs u) (by rw [len_limbs]; exact hm) hrow (limbs_32 u) (by omega)
    rw [hr, hq] at hSH
    have HSH := Lib.hid hSH
    have HUL := Lib.hid hul
    have HBUF := Lib.hid hbuf
    have HXD := Lib.hid hxd
    have HB48 := Lib.hid hb48
    have HBL := Lib.hid hbl
    have HUR := Lib.hid hur
    have HNDA := Lib.hid hnda
    have HBW := Lib.hid hb
    have HM := Lib.hid hm
    obtain ⟨nd, hnd⟩ : ∃ nd, nDigits r = nd := ⟨_, rfl⟩
    have hnd9 : nd ≤ 9 := by have := nDigits_le9 hr9; omega
    have hndu : nd ≤ nDigits u := by
      rw [← hnd]
      rcases Nat.eq_zero_or_pos q with h0 | h0
      · rw [hur, h0, Nat.mul_zero, Nat.zero_add]; exact Nat.le_refl _
      · have e := congrArg List.length (dec_split 9 q r h0 (by simpa using hr9))
        rw [List.length_append, padk_length, decDigits_length, decDigits_length, show (10 : Nat) ^ 9 * q + r = u from hur.symm] at e
        have := nDigits_le9 hr9
        omega
    obtain ⟨k, hk⟩ : ∃ k, a - nd = k := ⟨_, rfl⟩
    have hak : a = k + nd := by omega
    have hnd1 : 1 ≤ nd := by rw [← hnd]; exact nDigits_pos r
    have hk0 : 0 < k := by omega
    have hkN : k < N := by omega
    have HKN := Lib.hid hkN
    have HKL : Hid (k + nd ≤ N) := Lib.hid (by omega)
    have HKM : Hid (nd ≤ N - k) := Lib.hid (by omega)
    have HMC : Hid (m ≤ 4398046511104) := Lib.hid (by omega)
    have HMC2 : Hid (m ≤ c2) := Lib.hid (by omega)
    have hkc : (a : Int) - (nd : Int) = (k : Int) := by omega
    have hkw : wrap64 (k : Int) = (k : Int) := by simp only [wrap64]; omega
    have HND2 := Lib.hid hnd
    have HKE := Lib.hid hk
    have HAK := Lib.hid hak
    have HX0 := Lib.hid hx0
    have HU0 := Lib.hid hu0
    have HR9 := Lib.hid hr9
    have HMN := Lib.hid hmn
    have HC2 := Lib.hid hc2
    have HAN := Lib.hid haN
    rw [hm]
    clear hx0 hu0 hmn hc2 haN hg hw2 hw3 hn0 hnl hN1 hak hr hq hur hrow hbuf hbl hb48 hxd hnda hb hSH hul hnd hk hm hndu
    go_wp2_with fail
    refine HSH.out.mono ?_
    rintro e w4 ⟨rfl, ⟨ds, hdl, hd32, hdv, hdrow⟩, hgrow⟩
    have HBUF4 := Lib.hid (HBUF.out.only hgrow hgne)
    have HB4 : Hid (Below w.heap.size w w4) := Lib.hid ((HBW.out).grown hgrow HBW.out.size (by intro k hk; injection hk with hk; have := HG.out; omega))
    have HDV := Lib.hid hdv
    have HDL := Lib.hid hdl
    have HDROW := Lib.hid hdrow
    have htab4 := tab_below htab HB4.out
    clear hgrow hdv hdl hdrow
    go_wp2_with fail
    refine (FormatUint_any r (by have := HR9.out; omega) _ htab4).mono ?_
    rintro e w5 ⟨rfl, hb5⟩
    have HB5 := Lib.hid (step_below HB4.out hb5)
    have HBUF5 := Lib.hid (HBUF4.out.below hb5)
    have HDROW5 := Lib.hid (HDROW.out.below hb5)
    obtain ⟨dd, hde⟩ : ∃ dd, decDigits r = dd := ⟨_, rfl⟩
    rw [hde]
    have hdd : dd.length = nd := by rw [← hde, decDigits_length, HND2.out]
    have hss : ByteArray.size ⟨dd.toArray⟩ = nd := by simp [ByteArray.size, hdd]
    have HDE := Lib.hid hde
    obtain ⟨w6, hcp, hbuf6, hb6, hgr6⟩ := HBUF5.out.copy k dd (by rw [hdd, HBL.out]; exact HKL.out) (N - k) 3 (N - k) (by rw [hdd]; exact HKM.out) w HB5.out HGB.out
    rw [hdd] at hcp
    have HDD := Lib.hid hdd
    have HBUF6 := Lib.hid hbuf6
    have HB6 := Lib.hid hb6
    have HDROW6 := Lib.hid (HDROW5.out.only hgr6 (Ne.symm hgne))
    clear hbuf6 hb6 hgr6 hb5 htab4 hdd hde hr9
    go_wp2_with fail
    refine (trim_k _ m c2 ds _ HDL.out HDROW6.out.mem HMC.out HMC2.out hd32).mono ?_
    rintro e w' ⟨rfl, rfl⟩
    rw [HDV.out]
    clear hcp hss
    rcases Nat.eq_zero_or_pos q with h0 | h0
    · have hq0 : len q = 0 := by rw [h0, len_zero]
      have hur : u = r := by have := HUR.out; rw [h0] at this; omega
      have hz0 : (bs.take k ++ dd ++ bs.drop (k + dd.length)).drop k = decDigits x := by
        have h1 := text_drop (bs := bs) (ds := dd) (a := a) (nd := nd) HDD.out (by have := HAK.out; omega) (by rw [HBL.out]; exact HAN.out)
        rw [HKE.out] at h1
        rw [h1, HXD.out, hur, HDE.out]
      have hlN : (bs.take k ++ dd ++ bs.drop (k + dd.length)).length = N := by
        simp [HDD.out, HBL.out]
        have := HKL.out
        omega
      have hln : N - k = (decDigits x).length := by rw [← hz0, List.length_drop, hlN]
      have HZ0 := Lib.hid hz0
      have HLN := Lib.hid hln
      have HLL := Lib.hid hlN
      have HQ0 := Lib.hid hq0
      clear hz0 hln hlN hur h0 hd32
      rw [HQ0.out]
      clear hq0
      have hdd := HDD.out
      have hss : ByteArray.size ⟨dd.toArray⟩ = nd := by simp [ByteArray.size, hdd]
      cases neg
      · have hcv := convert_tail' w6 gb k (N - k) (N - k) _ _ HBUF6.out HZ0.out HLN.out
        go_wp2_with fail
        go_ret
        exact ⟨rfl, HB6.out⟩
      · have hcl := HBUF6.out.cell (i := k - 1) (by rw [HLL.out]; have := HKN.out; omega)
        have hse := HBUF6.out.set_ (i := k - 1) (by rw [HLL.out]; have := HKN.out; omega) 45
        have hz1 := text_sign (bs := bs.take k ++ dd ++ bs.drop (k + dd.length)) hk0 (by rw [HLL.out]; have := HKN.out; omega)
        rw [HZ0.out] at hz1
        have hk1 : (k : Int) - 1 = ((k - 1 : Nat) : Int) := by omega
        have hk1w : wrap64 ((k - 1 : Nat) : Int) = ((k - 1 : Nat) : Int) := by simp only [wrap64]; omega
        have hcv := convert_tail' (w6.setCell ⟨gb, k - 1, none⟩ (.int .u8 45)) gb (k - 1) (N - (k - 1)) (N - (k - 1)) _ _ hse hz1 (by simp only [List.length_cons]; have := HLN.out; have := HKN.out; omega)
        obtain ⟨hcl1, hcl2⟩ := hcl
        clear hse hz1
        go_wp2_with fail
        go_ret
        exact ⟨rfl, HB6.out.setCell HGB.out _⟩
    · have hrow := prow_limbs HDROW6.out hd32 HDV.out
      have hbf := HBUF6.out
      rw [← HKE.out, ← HND2.out, ← HDE.out] at hbf
      obtain ⟨hrel, ha9⟩ := TextRel.next HUR.out HR9.out h0 HUL.out hrow HB48.out HBL.out HAN.out HXD.out HNDA.out HB6.out hbf
      have HREL := Lib.hid hrel
      have hq0 : ((len q : Int) == 0) = false := by have := len_pos h0; simp; omega
      have ha9c : (a : Int) - 9 = ((a - 9 : Nat) : Int) := by omega
      have ha9w : wrap64 ((a - 9 : Nat) : Int) = ((a - 9 : Nat) : Int) := by have := HAN.out; simp only [wrap64]; omega
      clear hrel hbf hrow hd32 h0
      go_wp2
      go_roundw
      case rel => exact ⟨q, a - 9, rfl, rfl, HREL.out⟩
      case measure => simp [RowKit.intOf]; omega
theorem kText {v : Value} {z : Int} {w : World} (h : (intF z).p v w) (hl : len z.natAbs ≤ 1000000) (htab : P10 w) : Calls Tryd.prog 6 #[v] w (GivesP (eqF (.string ⟨(textZ z).toArray⟩)) w) := by
  have h : IntAt w v z := h
  by_cases h0 : z = 0
  · subst h0
    refine (Text_zero v w h).mono fun e w' ⟨he, hb⟩ => ⟨_, he, ?_, hb⟩
    have : textZ 0 = [48] := by unfold textZ; rw [if_neg (by decide)]; exact dec_small (by decide)
    rw [this]
    rfl
  · have hx : 0 < z.natAbs := by omega
    by_cases hz : z < 0
    · have e : z = sgn true z.natAbs := by simp [sgn]; omega
      have h2 : IntAt w v (sgn true z.natAbs) := e ▸ h
      refine (Text_pos v true z.natAbs w h2 hx hl htab).mono fun e w' ⟨he, hb⟩ => ⟨_, he, ?_, hb⟩
      unfold textZ
      rw [if_pos hz]
      rfl
    · have e : z = sgn false z.natAbs := by simp [sgn]; omega
      have h2 : IntAt w v (sgn false z.natAbs) := e ▸ h
      refine (Text_pos v false z.natAbs w h2 hx hl htab).mono fun e w' ⟨he, hb⟩ => ⟨_, he, ?_, hb⟩
      unfold textZ
      rw [if_neg hz]
      rfl
end Go.Proofs.YtdofolejfdfocaaDoor
