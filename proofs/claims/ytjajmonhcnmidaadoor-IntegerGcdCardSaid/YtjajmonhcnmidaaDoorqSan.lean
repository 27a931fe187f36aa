/- Walks: the fixed examples. -/
import Derived.Test.YtjajmonhcnmidaaDoorqSanR
import Derived.Deep.RegionHeld3
namespace Go.Proofs.YtjajmonhcnmidaaDoor
open Go.RowKit
set_option maxRecDepth 100000 in
set_option maxHeartbeats 40000000 in
theorem sanity_any (w : World) (htab : P10 w) :
    Calls Tryd.prog 11 #[] w fun e w' => e = .returned (.bool true) ∧ Below w.heap.size w w' := by
  have HT := Lib.hid htab
  clear htab
  have HB := Lib.hid (Below.refl w.heap.size w)
  go_enter Tryd.func11, Tryd.ntmps11
  go_wp2_with fail
  refine (Of_any (-7) _ (by omega) (by omega)).mono ?_
  rintro e w1 ⟨v1, rfl, hv1, hb1⟩
  replace HB := Lib.hid (step_below HB.out hb1)
  have HV1 := Lib.hid hv1
  clear hb1 hv1
  go_wp2_with fail
  refine (Of_any 2 _ (by omega) (by omega)).mono ?_
  rintro e w2 ⟨v2, rfl, hv2, hb2⟩
  replace HB := Lib.hid (step_below HB.out hb2)
  have HV2 := Lib.hid hv2
  replace HV1 := Lib.hid (HV1.out.into hb2)
  clear hb2 hv2
  go_wp2_with fail
  refine (DM_lit _ _ (-7) 2 (-4) 1 _ HV1.out HV2.out (by decide) (by decide) (by decide) (by decide) (by decide)).mono ?_
  rintro e w3 ⟨vq, vr, rfl, hq, hr, hb3⟩
  obtain ⟨bq3, Aq3, kq3, cq3, rfl, Hq⟩ := hq.open_
  obtain ⟨br3, Ar3, kr3, cr3, rfl, Hr⟩ := hr.open_
  replace HB := Lib.hid (step_below HB.out hb3)
  obtain ⟨bx1, bx2, hb⟩ := two_new Hq.out Hr.out
  replace HB := Lib.hid (step_below HB.out hb)
  have BQ := Lib.hid bx1
  have BR := Lib.hid bx2
  clear bx1 bx2 hb hb3 hq hr Hq Hr HV1 HV2
  go_wp2_with fail
  generalize (w3.alloc (.cells #[.bool bq3, .slice Aq3 kq3 cq3] 27)).alloc (.cells #[.bool br3, .slice Ar3 kr3 cr3] 27) = W3 at *
  refine (Of_any 7 _ (by omega) (by omega)).mono ?_
  rintro e w4 ⟨v4, rfl, hv4, hb4⟩
  replace HB := Lib.hid (step_below HB.out hb4)
  replace BQ := Lib.hid (BQ.out.into hb4)
  replace BR := Lib.hid (BR.out.into hb4)
  have HV4 := Lib.hid hv4
  clear hb4 hv4
  go_wp2_with fail
  refine (Of_any (-2) _ (by omega) (by omega)).mono ?_
  rintro e w5 ⟨v5, rfl, hv5, hb5⟩
  replace HB := Lib.hid (step_below HB.out hb5)
  replace BQ := Lib.hid (BQ.out.into hb5)
  replace BR := Lib.hid (BR.out.into hb5)
  have HV5 := Lib.hid hv5
  replace HV4 := Lib.hid (HV4.out.into hb5)
  clear hb5 hv5
  go_wp2_with fail
  refine (DM_lit _ _ 7 (-2) (-3) 1 _ HV4.out HV5.out (by decide) (by decide) (by decide) (by decide) (by decide)).mono ?_
  rintro e w6 ⟨vq, vr, rfl, hq, hr, hb6⟩
  obtain ⟨bq6, Aq6, kq6, cq6, rfl, Hq⟩ := hq.open_
  obtain ⟨br6, Ar6, kr6, cr6, rfl, Hr⟩ := hr.open_
  replace HB := Lib.hid (step_below HB.out hb6)
  replace BQ := Lib.hid (BQ.out.into hb6)
  replace BR := Lib.hid (BR.out.into hb6)
  obtain ⟨bx1, bx2, hb⟩ := two_new Hq.out Hr.out
  replace HB := Lib.hid (step_below HB.out hb)
  replace BQ := Lib.hid (BQ.out.into hb)
  replace BR := Lib.hid (BR.out.into hb)
  have BS := Lib.hid bx1
  have BU := Lib.hid bx2
  clear bx1 bx2 hb hb6 hq hr Hq Hr HV4 HV5
  go_wp2_with fail
  generalize (w6.alloc (.cells #[.bool bq6, .slice Aq6 kq6 cq6] 27)).alloc (.cells #[.bool br6, .slice Ar6 kr6 cr6] 27) = W6 at *
  refine (Of_any 7 _ (by omega) (by omega)).mono ?_
  rintro e w7 ⟨v7, rfl, hv7, hb7⟩
  replace HB := Lib.hid (step_below HB.out hb7)
  replace BQ := Lib.hid (BQ.out.into hb7)
  replace BR := Lib.hid (BR.out.into hb7)
  replace BS := Lib.hid (BS.out.into hb7)
  replace BU := Lib.hid (BU.out.into hb7)
  have HV7 := Lib.hid hv7
  clear hb7 hv7
  go_wp2_with fail
  refine (Of_any 0 _ (by omega) (by omega)).mono ?_
  rintro e w8 ⟨v8, rfl, hv8, hb8⟩
  replace HB := Lib.hid (step_below HB.out hb8)
  replace BQ := Lib.hid (BQ.out.into hb8)
  replace BR := Lib.hid (BR.out.into hb8)
  replace BS := Lib.hid (BS.out.into hb8)
  replace BU := Lib.hid (BU.out.into hb8)
  have HV8 := Lib.hid hv8
  replace HV7 := Lib.hid (HV7.out.into hb8)
  clear hb8 hv8
  go_wp2_with fail
  refine (DivMod_zero _ _ 7 _ HV7.out HV8.out (Nat.le_trans (len_le_two (by decide)) (by decide))).mono ?_
  rintro e w9 ⟨vq, vr, rfl, hq, hr, hb9⟩
  obtain ⟨bq9, Aq9, kq9, cq9, rfl, Hq⟩ := hq.open_
  obtain ⟨br9, Ar9, kr9, cr9, rfl, Hr⟩ := hr.open_
  replace HB := Lib.hid (step_below HB.out hb9)
  replace BQ := Lib.hid (BQ.out.into hb9)
  replace BR := Lib.hid (BR.out.into hb9)
  replace BS := Lib.hid (BS.out.into hb9)
  replace BU := Lib.hid (BU.out.into hb9)
  obtain ⟨bx1, bx2, hb⟩ := two_new Hq.out Hr.out
  replace HB := Lib.hid (step_below HB.out hb)
  replace BQ := Lib.hid (BQ.out.into hb)
  replace BR := Lib.hid (BR.out.into hb)
  replace BS := Lib.hid (BS.out.into hb)
  replace BU := Lib.hid (BU.out.into hb)
  clear bx1 bx2 hb hb9 hq hr Hq Hr HV7 HV8
  go_wp2_with fail
  generalize (w9.alloc (.cells #[.bool bq9, .slice Aq9 kq9 cq9] 27)).alloc (.cells #[.bool br9, .slice Ar9 kr9 cr9] 27) = W9 at *
  refine (Of_any 2 _ (by omega) (by omega)).mono ?_
  rintro e w10 ⟨v10, rfl, hv10, hb10⟩
  replace HB := Lib.hid (step_below HB.out hb10)
  replace BQ := Lib.hid (BQ.out.into hb10)
  replace BR := Lib.hid (BR.out.into hb10)
  replace BS := Lib.hid (BS.out.into hb10)
  replace BU := Lib.hid (BU.out.into hb10)
  have HV10 := Lib.hid hv10
  clear hb10 hv10
  go_wp2_with fail
  refine (Pow_2_32 _ _ HV10.out).mono ?_
  rintro e w11 ⟨vp, rfl, hp, hb11⟩
  obtain ⟨bp11, Ap11, kp11, cp11, rfl, Hp⟩ := hp.open_
  replace HB := Lib.hid (step_below HB.out hb11)
  replace BQ := Lib.hid (BQ.out.into hb11)
  replace BR := Lib.hid (BR.out.into hb11)
  replace BS := Lib.hid (BS.out.into hb11)
  replace BU := Lib.hid (BU.out.into hb11)
  obtain ⟨bx1, hb⟩ := one_new Hp.out
  replace HB := Lib.hid (step_below HB.out hb)
  replace BQ := Lib.hid (BQ.out.into hb)
  replace BR := Lib.hid (BR.out.into hb)
  replace BS := Lib.hid (BS.out.into hb)
  replace BU := Lib.hid (BU.out.into hb)
  have BP := Lib.hid bx1
  clear bx1 hb hb11 hp Hp
  go_wp2_with fail
  generalize w11.alloc (.cells #[.bool bp11, .slice Ap11 kp11 cp11] 27) = W11 at *
  refine (Of_any 2 _ (by omega) (by omega)).mono ?_
  rintro e w12 ⟨v12, rfl, hv12, hb12⟩
  replace HB := Lib.hid (step_below HB.out hb12)
  replace BQ := Lib.hid (BQ.out.into hb12)
  replace BR := Lib.hid (BR.out.into hb12)
  replace BS := Lib.hid (BS.out.into hb12)
  replace BU := Lib.hid (BU.out.into hb12)
  replace BP := Lib.hid (BP.out.into hb12)
  have HV12 := Lib.hid hv12
  clear hb12 hv12
  go_wp2_with fail
  refine (Pow_2_257 _ _ HV12.out).mono ?_
  rintro e w13 ⟨vp, rfl, hp, hb13⟩
  obtain ⟨bp13, Ap13, kp13, cp13, rfl, Hp⟩ := hp.open_
  replace HB := Lib.hid (step_below HB.out hb13)
  replace BQ := Lib.hid (BQ.out.into hb13)
  replace BR := Lib.hid (BR.out.into hb13)
  replace BS := Lib.hid (BS.out.into hb13)
  replace BU := Lib.hid (BU.out.into hb13)
  replace BP := Lib.hid (BP.out.into hb13)
  obtain ⟨bx1, hb⟩ := one_new Hp.out
  replace HB := Lib.hid (step_below HB.out hb)
  replace BQ := Lib.hid (BQ.out.into hb)
  replace BR := Lib.hid (BR.out.into hb)
  replace BS := Lib.hid (BS.out.into hb)
  replace BU := Lib.hid (BU.out.into hb)
  replace BP := Lib.hid (BP.out.into hb)
  clear bx1 hb hb13 hp Hp
  go_wp2_with fail
  generalize w13.alloc (.cells #[.bool bp13, .slice Ap13 kp13 cp13] 27) = W13 at *
  refine (Read_m0 _).mono ?_
  rintro e w14 ⟨vp, rfl, hp, hb14⟩
  obtain ⟨bp14, Ap14, kp14, cp14, rfl, Hp⟩ := hp.open_
  replace HB := Lib.hid (step_below HB.out hb14)
  replace BQ := Lib.hid (BQ.out.into hb14)
  replace BR := Lib.hid (BR.out.into hb14)
  replace BS := Lib.hid (BS.out.into hb14)
  replace BU := Lib.hid (BU.out.into hb14)
  replace BP := Lib.hid (BP.out.into hb14)
  obtain ⟨bx1, hb⟩ := one_new Hp.out
  replace HB := Lib.hid (step_below HB.out hb)
  replace BQ := Lib.hid (BQ.out.into hb)
  replace BR := Lib.hid (BR.out.into hb)
  replace BS := Lib.hid (BS.out.into hb)
  replace BU := Lib.hid (BU.out.into hb)
  replace BP := Lib.hid (BP.out.into hb)
  clear bx1 hb hb14 hp Hp
  go_wp2_with fail
  generalize w14.alloc (.cells #[.bool bp14, .slice Ap14 kp14 cp14] 27) = W14 at *
  refine (Read_007 _).mono ?_
  rintro e w15 ⟨vp, rfl, hp, hb15⟩
  obtain ⟨bp15, Ap15, kp15, cp15, rfl, Hp⟩ := hp.open_
  replace HB := Lib.hid (step_below HB.out hb15)
  replace BQ := Lib.hid (BQ.out.into hb15)
  replace BR := Lib.hid (BR.out.into hb15)
  replace BS := Lib.hid (BS.out.into hb15)
  replace BU := Lib.hid (BU.out.into hb15)
  replace BP := Lib.hid (BP.out.into hb15)
  obtain ⟨bx1, hb⟩ := one_new Hp.out
  replace HB := Lib.hid (step_below HB.out hb)
  replace BQ := Lib.hid (BQ.out.into hb)
  replace BR := Lib.hid (BR.out.into hb)
  replace BS := Lib.hid (BS.out.into hb)
  replace BU := Lib.hid (BU.out.into hb)
  replace BP := Lib.hid (BP.out.into hb)
  clear bx1 hb hb15 hp Hp
  go_wp2_with fail
  generalize w15.alloc (.cells #[.bool bp15, .slice Ap15 kp15 cp15] 27) = W15 at *
  refine (Read_m7 _).mono ?_
  rintro e w16 ⟨vp, rfl, hp, hb16⟩
  obtain ⟨bp16, Ap16, kp16, cp16, rfl, Hp⟩ := hp.open_
  replace HB := Lib.hid (step_below HB.out hb16)
  replace BQ := Lib.hid (BQ.out.into hb16)
  replace BR := Lib.hid (BR.out.into hb16)
  replace BS := Lib.hid (BS.out.into hb16)
  replace BU := Lib.hid (BU.out.into hb16)
  replace BP := Lib.hid (BP.out.into hb16)
  obtain ⟨bx1, hb⟩ := one_new Hp.out
  replace HB := Lib.hid (step_below HB.out hb)
  replace BQ := Lib.hid (BQ.out.into hb)
  replace BR := Lib.hid (BR.out.into hb)
  replace BS := Lib.hid (BS.out.into hb)
  replace BU := Lib.hid (BU.out.into hb)
  replace BP := Lib.hid (BP.out.into hb)
  have B7 := Lib.hid bx1
  clear bx1 hb hb16 hp Hp
  go_wp2_with fail
  generalize w16.alloc (.cells #[.bool bp16, .slice Ap16 kp16 cp16] 27) = W16 at *
  refine (Read_empty _).mono ?_
  rintro e w17 ⟨vp, rfl, hp, hb17⟩
  obtain ⟨bp17, Ap17, kp17, cp17, rfl, Hp⟩ := hp.open_
  replace HB := Lib.hid (step_below HB.out hb17)
  replace BQ := Lib.hid (BQ.out.into hb17)
  replace BR := Lib.hid (BR.out.into hb17)
  replace BS := Lib.hid (BS.out.into hb17)
  replace BU := Lib.hid (BU.out.into hb17)
  replace BP := Lib.hid (BP.out.into hb17)
  replace B7 := Lib.hid (B7.out.into hb17)
  obtain ⟨bx1, hb⟩ := one_new Hp.out
  replace HB := Lib.hid (step_below HB.out hb)
  replace BQ := Lib.hid (BQ.out.into hb)
  replace BR := Lib.hid (BR.out.into hb)
  replace BS := Lib.hid (BS.out.into hb)
  replace BU := Lib.hid (BU.out.into hb)
  replace BP := Lib.hid (BP.out.into hb)
  replace B7 := Lib.hid (B7.out.into hb)
  clear bx1 hb hb17 hp Hp
  go_wp2_with fail
  generalize w17.alloc (.cells #[.bool bp17, .slice Ap17 kp17 cp17] 27) = W17 at *
  refine (Of_any (-9223372036854775808) _ (by omega) (by omega)).mono ?_
  rintro e w18 ⟨v18, rfl, hv18, hb18⟩
  replace HB := Lib.hid (step_below HB.out hb18)
  replace BQ := Lib.hid (BQ.out.into hb18)
  replace BR := Lib.hid (BR.out.into hb18)
  replace BS := Lib.hid (BS.out.into hb18)
  replace BU := Lib.hid (BU.out.into hb18)
  replace BP := Lib.hid (BP.out.into hb18)
  replace B7 := Lib.hid (B7.out.into hb18)
  have HV18 := Lib.hid hv18
  clear hb18 hv18
  go_wp2_with fail
  refine (Small_yes _ (-9223372036854775808) _ HV18.out (by omega) (by omega)).mono ?_
  rintro e w19 ⟨rfl, hb19⟩
  replace HB := Lib.hid (step_below HB.out hb19)
  replace BQ := Lib.hid (BQ.out.into hb19)
  replace BR := Lib.hid (BR.out.into hb19)
  replace BS := Lib.hid (BS.out.into hb19)
  replace BU := Lib.hid (BU.out.into hb19)
  replace BP := Lib.hid (BP.out.into hb19)
  replace B7 := Lib.hid (B7.out.into hb19)
  have hcl := BP.out.cells
  obtain ⟨cp0, cp1⟩ := hcl
  clear hb19
  go_wp2_with fail
  refine (Small_yes _ 4294967296 _ BP.out.int (by omega) (by omega)).mono ?_
  rintro e w20 ⟨rfl, hb20⟩
  replace HB := Lib.hid (step_below HB.out hb20)
  replace BQ := Lib.hid (BQ.out.into hb20)
  replace BR := Lib.hid (BR.out.into hb20)
  replace BS := Lib.hid (BS.out.into hb20)
  replace BU := Lib.hid (BU.out.into hb20)
  replace BP := Lib.hid (BP.out.into hb20)
  replace B7 := Lib.hid (B7.out.into hb20)
  clear hb20 cp0 cp1
  go_wp2_with fail
  have HB0 := HB
  clear HB HV18
  have HS : ∀ w' : World, Below w20.heap.size w20 w' → w'.cell? ⟨w3.heap.size, 0, none⟩ = some (.bool bq3) ∧ w'.cell? ⟨w3.heap.size, 1, none⟩ = some (.slice Aq3 kq3 cq3) ∧ w'.cell? ⟨w3.heap.size + 1, 0, none⟩ = some (.bool br3) ∧ w'.cell? ⟨w3.heap.size + 1, 1, none⟩ = some (.slice Ar3 kr3 cr3) ∧ w'.cell? ⟨w6.heap.size, 0, none⟩ = some (.bool bq6) ∧ w'.cell? ⟨w6.heap.size, 1, none⟩ = some (.slice Aq6 kq6 cq6) ∧ w'.cell? ⟨w6.heap.size + 1, 0, none⟩ = some (.bool br6) ∧ w'.cell? ⟨w6.heap.size + 1, 1, none⟩ = some (.slice Ar6 kr6 cr6) ∧ w'.cell? ⟨w11.heap.size, 0, none⟩ = some (.bool bp11) ∧ w'.cell? ⟨w11.heap.size, 1, none⟩ = some (.slice Ap11 kp11 cp11) ∧ w'.cell? ⟨w16.heap.size, 0, none⟩ = some (.bool bp16) ∧ w'.cell? ⟨w16.heap.size, 1, none⟩ = some (.slice Ap16 kp16 cp16) := fun w' hb =>
    ⟨(BQ.out.into hb).cells.1, (BQ.out.into hb).cells.2, (BR.out.into hb).cells.1, (BR.out.into hb).cells.2, (BS.out.into hb).cells.1, (BS.out.into hb).cells.2, (BU.out.into hb).cells.1, (BU.out.into hb).cells.2, (BP.out.into hb).cells.1, (BP.out.into hb).cells.2, (B7.out.into hb).cells.1, (B7.out.into hb).cells.2⟩
  have KEEP := Lib.hid HS
  clear HS
  have HB := Lib.hid (Below.refl w20.heap.size w20)
  have M5 := True.intro
  have MG := True.intro
  have MT := True.intro
  have MV1 := True.intro
  have MV2 := True.intro
  go_region_held3 (fun w' => w'.cell? ⟨w3.heap.size, 0, none⟩ = some (.bool bq3) ∧ w'.cell? ⟨w3.heap.size, 1, none⟩ = some (.slice Aq3 kq3 cq3) ∧ w'.cell? ⟨w3.heap.size + 1, 0, none⟩ = some (.bool br3) ∧ w'.cell? ⟨w3.heap.size + 1, 1, none⟩ = some (.slice Ar3 kr3 cr3) ∧ w'.cell? ⟨w6.heap.size, 0, none⟩ = some (.bool bq6) ∧ w'.cell? ⟨w6.heap.size, 1, none⟩ = some (.slice Aq6 kq6 cq6) ∧ w'.cell? ⟨w6.heap.size + 1, 0, none⟩ = some (.bool br6) ∧ w'.cell? ⟨w6.heap.size + 1, 1, none⟩ = some (.slice Ar6 kr6 cr6) ∧ w'.cell? ⟨w11.heap.size, 0, none⟩ = some (.bool bp11) ∧ w'.cell? ⟨w11.heap.size, 1, none⟩ = some (.slice Ap11 kp11 cp11) ∧ w'.cell? ⟨w16.heap.size, 0, none⟩ = some (.bool bp16) ∧ w'.cell? ⟨w16.heap.size, 1, none⟩ = some (.slice Ap16 kp16 cp16))
    (first | (go_keep; done) | exact KEEP.out _ HB.out | exact KEEP.out _ HB.out.drew | exact KEEP.out _ (HB.out.alloc HB.out.size _) | exact KEEP.out _ (HB.out.alloc HB.out.size _).drew | exact KEEP.out _ (HB.out.drew.alloc HB.out.drew.size _))
    (first
      | (go_at_call 42
         refine (ROf_any _ _ (by omega) (by omega)).mono ?_
         rintro e w' ⟨vc, rfl, hc, hb⟩
         have HB := Lib.hid (step_below (by first | exact HB.out | exact HB.out.drew | exact HB.out.drew.drew | exact HB.out.alloc HB.out.size _ | exact (HB.out.alloc HB.out.size _).drew | exact HB.out.drew.alloc HB.out.drew.size _) hb)
         have HC := Lib.hid hc
         try (have HG := Lib.hid (HG.out.into hb))
         clear hb hc)
      | (go_at_call 21
         first
           | (refine (Same_lit _ _ _ _ (BQ.out.into (by first | exact HB.out | exact HB.out.drew | exact HB.out.drew.drew | exact HB.out.alloc HB.out.size _ | exact (HB.out.alloc HB.out.size _).drew | exact HB.out.drew.alloc HB.out.drew.size _)).int HC.out (by decide)).mono ?_; clear BQ)
           | (refine (Same_lit _ _ _ _ (BR.out.into (by first | exact HB.out | exact HB.out.drew | exact HB.out.drew.drew | exact HB.out.alloc HB.out.size _ | exact (HB.out.alloc HB.out.size _).drew | exact HB.out.drew.alloc HB.out.drew.size _)).int HC.out (by decide)).mono ?_; clear BR)
           | (refine (Same_lit _ _ _ _ (BS.out.into (by first | exact HB.out | exact HB.out.drew | exact HB.out.drew.drew | exact HB.out.alloc HB.out.size _ | exact (HB.out.alloc HB.out.size _).drew | exact HB.out.drew.alloc HB.out.drew.size _)).int HC.out (by decide)).mono ?_; clear BS)
           | (refine (Same_lit _ _ _ _ (BU.out.into (by first | exact HB.out | exact HB.out.drew | exact HB.out.drew.drew | exact HB.out.alloc HB.out.size _ | exact (HB.out.alloc HB.out.size _).drew | exact HB.out.drew.alloc HB.out.drew.size _)).int HC.out (by decide)).mono ?_; clear BU)
           | (clear M5; first | refine (Same_lit _ _ _ _ HO.out HL.out (by decide)).mono ?_ | refine (Same_lit _ _ _ _ (HO.out.into (below_alloc _ _)) (lit_m5 _) (by decide)).mono ?_)
           | (clear M6; refine (Same_lit _ _ _ _ (BP.out.into (by first | exact HB.out | exact HB.out.drew | exact HB.out.drew.drew | exact HB.out.alloc HB.out.size _ | exact (HB.out.alloc HB.out.size _).drew | exact HB.out.drew.alloc HB.out.drew.size _)).int (lit_p32 _) (by decide)).mono ?_)
           | (refine (Same_lit _ _ _ _ (B7.out.into (by first | exact HB.out | exact HB.out.drew | exact HB.out.drew.drew | exact HB.out.alloc HB.out.size _ | exact (HB.out.alloc HB.out.size _).drew | exact HB.out.drew.alloc HB.out.drew.size _)).int HC.out (by decide)).mono ?_; clear B7)
           | refine (Same_lit _ _ _ _ HG.out HC.out (by decide)).mono ?_
         rintro e w' ⟨rfl, hb⟩
         have HB := Lib.hid (step_below (by first | exact HB.out | exact HB.out.drew | exact HB.out.drew.drew | exact HB.out.alloc HB.out.size _ | exact (HB.out.alloc HB.out.size _).drew | exact HB.out.drew.alloc HB.out.drew.size _) hb)
         clear hb))
  go_wp2_with fail
  refine region14' (by kernel_rfl) (fun _ d _ _ _ h => by cases d <;> exact h) (tab_below HT.out (step_below HB0.out HB.out)) (by kernel_rfl) rfl rfl rfl rfl rfl rfl rfl (BP.out.into HB.out) (B7.out.into HB.out) ?_
  intro a' w' hz h0 hd hb
  have HE := Lib.hid (step_below HB0.out (step_below HB.out hb))
  clear hb
  have hv : a'.tmps.getD 0 undef = .bool true := by simp [Array.getD_eq_getD_getElem?, h0]
  have hd' : a'.defers = [] := hd
  clear hd h0 hz
  go_wp2
  refine bodyPost_ret (results_tmp rfl a'.tmps _ w') hd' ?_
  rw [hv]
  exact ⟨rfl, HE.out⟩
end Go.Proofs.YtjajmonhcnmidaaDoor
