/- The law TransForth. -/
import Derived.Test.YtkpiinjhcckhfaaGreatDoorTrRef
namespace Go.Proofs.YtkpiinjhcckhfaaGreatDoor
open Go.RowKit Plain Go.ChangeShapes Go.WideShapes Go.ChangeAt Go.Great
set_option linter.unusedVariables false
set_option linter.unusedSimpArgs false
set_option maxRecDepth 100000 in
set_option maxHeartbeats 64000000 in
theorem transforth_any (c : CX) (xa : Option Addr) (xc : Nat) (fa : Option Addr) (fc : Nat) (w : World) (hE : EnvC w) (h : InCh w c xa fa) :
    Calls Tryz.prog 6 #[.agg (chV c xa xc fa fc)] w fun e w' => e = .returned (.bool true) ∧ Below w.heap.size w w' := by
  have HE := Lib.hid hE
  have HIN := Lib.hid h
  have H20 := Lib.hid h.n20
  have hzc := zero_ch
  have hzo := zero_co
  have HB_0 : Hid (Below w.heap.size w (w.alloc (.cells (chV c xa xc fa fc) 49))) := (Below.refl _ _).alloc (Nat.le_refl _) _
  have HA_0 : Hid (Box (w.alloc (.cells (chV c xa xc fa fc) 49)) w.heap.size (chV c xa xc fa fc) 49) := Box.new _ _ _
  have HTC := Lib.hid (tx_few h)
  have HTY : Hid (∀ Y, coY (fewC c) = some Y → TC Y) := fun Y hy => coY_few h hy
  have HLN : Hid ((fewC c).fs.length ≤ 100000 ∧ (fewC c).xs.length ≤ 100000) := by have h1 := few_sizesX h; exact ⟨by omega, by omega⟩
  clear h hE
  go_enter Tryz.func6, Tryz.ntmps6
  go_wp2_with (first
    | refine wpList_load_row rfl 49 _ rfl w.heap.size rfl 49 (chV c xa xc fa fc) (0, 0) _ HA_0.out Tryz.underlying49 rfl (info_rchA c _ _ H20.out) ?_)
  obtain ⟨w0, hw0⟩ : ∃ zz, w.alloc (.cells (chV c xa xc fa fc) 49) = zz := ⟨_, rfl⟩
  rw [hw0] at HB_0 HA_0 ⊢
  have HB_w0 : Hid (Below w.heap.size w w0) := HB_0.out
  clear hw0 HB_0 HA_0
  refine (chto_any c xa xc fa fc w0 (HIN.out.below HB_w0.out)).mono ?_
  rintro e w1 ⟨hto, hb⟩
  have HB_w1 : Hid (Below w.heap.size w w1) := HB_w0.out.trans ((hb).mono HB_w0.out.size)
  clear HB_w0
  clear hb
  obtain ⟨F, hF⟩ : ∃ zz, fewC c = zz := ⟨_, rfl⟩
  rw [hF] at hto HTC HTY HLN
  clear hF
  obtain ⟨ya, yc, za, zc, rfl, hat⟩ := hto
  have HF20 := Lib.hid hat.n20
  have HAT_w1 : Hid (ChAt w1 F ya yc za zc) := hat
  clear hat
  have HZ : Hid ((w1.alloc (.cells (chA czero (.slice none 0 0) (.slice none 0 0)) 40)).heap[w1.heap.size]? = some (.cells (chA czero (.slice none 0 0) (.slice none 0 0)) 40 (0, 0))) := heap_alloc_new _ _
  have HS : Hid (Below w1.heap.size w1 ((w1.alloc (.cells (chA czero (.slice none 0 0) (.slice none 0 0)) 40)).setRow w1.heap.size (chV F ya yc za zc))) := below_setRow ((Below.refl _ _).alloc (Nat.le_refl _) _) (Nat.le_refl _) _
  have HN : Hid (Box ((w1.alloc (.cells (chA czero (.slice none 0 0) (.slice none 0 0)) 40)).setRow w1.heap.size (chV F ya yc za zc)) w1.heap.size (chV F ya yc za zc) 40) := setRow_heap _ _ _ _ _ _ HZ.out
  go_wp2_with (first
    | (refine wpList_store_row rfl 40 _ _ rfl w1.heap.size (chV F ya yc za zc) rfl rfl 40 (chA czero (.slice none 0 0) (.slice none 0 0)) HZ.out (info_chA F _ _ HF20.out) (by unfold chV; rw [chA_size _ _ _ czero_20, chA_size _ _ _ HF20.out]) (chA_one _ _ _ rfl rfl) ?_
       obtain ⟨w2, hw⟩ : ∃ zz, (w1.alloc (.cells (chA czero (.slice none 0 0) (.slice none 0 0)) 40)).setRow w1.heap.size (chV F ya yc za zc) = zz := ⟨_, rfl⟩
       rw [hw] at HS HN ⊢
       obtain ⟨q1, hq⟩ : ∃ q, w1.heap.size = q := ⟨_, rfl⟩
       rw [hq] at HN ⊢
       clear hw HZ
       have HB_w2 : Hid (Below w.heap.size w w2) := HB_w1.out.trans ((HS.out).mono HB_w1.out.size)
       have HAT_w2 : Hid (ChAt w2 F ya yc za zc) := HAT_w1.out.below (HS.out)
       clear HB_w1 HAT_w1
       have HX1_w2 : Hid (Box w2 q1 (chV F ya yc za zc) 40) := HN.out
       clear HS HN hq)
    | refine wpList_load_row rfl 40 _ rfl q1 rfl 40 (chV F ya yc za zc) (0, 0) _ HX1_w2.out Tryz.underlying40 rfl (info_chA F _ _ HF20.out) ?_)
  have hc1 := commit_any F ya yc (.slice za F.fs.length zc) w2 HF20.out rfl HAT_w2.out.exts HTC.out (HE.out.below HB_w2.out)
  obtain ⟨r, hr⟩ : ∃ zz, coY F = zz := ⟨_, rfl⟩
  rw [hr] at hc1
  have HR := Lib.hid hr
  clear hr
  refine (hc1).mono ?_
  rintro e w3 ⟨hres, hb⟩
  have HB_w3 : Hid (Below w.heap.size w w3) := HB_w2.out.trans ((hb).mono HB_w2.out.size)
  have HAT_w3 : Hid (ChAt w3 F ya yc za zc) := HAT_w2.out.below (hb)
  have HX1_w3 : Hid (Box w3 q1 (chV F ya yc za zc) 40) := HX1_w2.out.below (hb)
  clear HB_w2 HAT_w2 HX1_w2
  clear hb
  clear hc1
  cases r with
  | none =>
    obtain rfl := hres
    have HZ : Hid ((w3.alloc (.cells (coA cz (.slice none 0 0) (.slice none 0 0)) 34)).heap[w3.heap.size]? = some (.cells (coA cz (.slice none 0 0) (.slice none 0 0)) 34 (0, 0))) := heap_alloc_new _ _
    have HS : Hid (Below w3.heap.size w3 ((w3.alloc (.cells (coA cz (.slice none 0 0) (.slice none 0 0)) 34)).setRow w3.heap.size (coA cz (.slice none 0 0) (.slice none 0 0)))) := below_setRow ((Below.refl _ _).alloc (Nat.le_refl _) _) (Nat.le_refl _) _
    have HN : Hid (Box ((w3.alloc (.cells (coA cz (.slice none 0 0) (.slice none 0 0)) 34)).setRow w3.heap.size (coA cz (.slice none 0 0) (.slice none 0 0))) w3.heap.size (coA cz (.slice none 0 0) (.slice none 0 0)) 34) := setRow_heap _ _ _ _ _ _ HZ.out
    go_wp2_with (first
      | (refine wpList_store_row rfl 34 _ _ rfl w3.heap.size (coA cz (.slice none 0 0) (.slice none 0 0)) rfl rfl 34 (coA cz (.slice none 0 0) (.slice none 0 0)) HZ.out (info_coA cz _ _ cz_20) rfl (coA_one _ _ _ rfl rfl) ?_
         obtain ⟨w4, hw⟩ : ∃ zz, (w3.alloc (.cells (coA cz (.slice none 0 0) (.slice none 0 0)) 34)).setRow w3.heap.size (coA cz (.slice none 0 0) (.slice none 0 0)) = zz := ⟨_, rfl⟩
         rw [hw] at HS HN ⊢
         obtain ⟨q2, hq⟩ : ∃ q, w3.heap.size = q := ⟨_, rfl⟩
         rw [hq] at HN ⊢
         clear hw HZ
         have HB_w4 : Hid (Below w.heap.size w w4) := HB_w3.out.trans ((HS.out).mono HB_w3.out.size)
         have HAT_w4 : Hid (ChAt w4 F ya yc za zc) := HAT_w3.out.below (HS.out)
         have HX1_w4 : Hid (Box w4 q1 (chV F ya yc za zc) 40) := HX1_w3.out.below (HS.out)
         clear HB_w3 HAT_w3 HX1_w3
         have HX2_w4 : Hid (Box w4 q2 (coA cz (.slice none 0 0) (.slice none 0 0)) 34) := HN.out
         clear HS HN hq))
    refine (known_any w4 (HE.out.below HB_w4.out)).mono ?_
    rintro e w5 ⟨rfl, hb⟩
    have HB_w5 : Hid (Below w.heap.size w w5) := HB_w4.out.trans ((hb).mono HB_w4.out.size)
    have HAT_w5 : Hid (ChAt w5 F ya yc za zc) := HAT_w4.out.below (hb)
    have HX1_w5 : Hid (Box w5 q1 (chV F ya yc za zc) 40) := HX1_w4.out.below (hb)
    have HX2_w5 : Hid (Box w5 q2 (coA cz (.slice none 0 0) (.slice none 0 0)) 34) := HX2_w4.out.below (hb)
    clear HB_w4 HAT_w4 HX1_w4 HX2_w4
    clear hb
    go_wp2_with fail
    go_ret
    exact ⟨rfl, HB_w5.out⟩
  | some Y =>
    obtain ⟨pp, pq, ua, uc, rfl, hy1, hy2, hyr⟩ := hres
    rw [coV_nil hy2]
    have HY20 : Hid (Y.tr.length = 20) := by rw [hy1]; exact zeros_20
    have HY1 := Lib.hid hy1
    have HY2 := Lib.hid hy2
    have HBT_w3 : Hid (CoAt w3 Y pp ua) := coAt_bare hy1 hy2 hyr.row
    clear hy1 hy2 hyr
    have HTX := Lib.hid (HTY.out Y HR.out)
    have HYL : Hid (Y.xs.length ≤ 100000) := by have h1 := HTX.out.1; have h2 : Y.xs.length ≤ 40000 := h1.2.2.2.1; exact Nat.le_trans h2 (by decide)
    have HZ : Hid ((w3.alloc (.cells (coA cz (.slice none 0 0) (.slice none 0 0)) 34)).heap[w3.heap.size]? = some (.cells (coA cz (.slice none 0 0) (.slice none 0 0)) 34 (0, 0))) := heap_alloc_new _ _
    have HS : Hid (Below w3.heap.size w3 ((w3.alloc (.cells (coA cz (.slice none 0 0) (.slice none 0 0)) 34)).setRow w3.heap.size (coV Y pp pq ua uc))) := below_setRow ((Below.refl _ _).alloc (Nat.le_refl _) _) (Nat.le_refl _) _
    have HN : Hid (Box ((w3.alloc (.cells (coA cz (.slice none 0 0) (.slice none 0 0)) 34)).setRow w3.heap.size (coV Y pp pq ua uc)) w3.heap.size (coV Y pp pq ua uc) 34) := setRow_heap _ _ _ _ _ _ HZ.out
    go_wp2_with (first
      | (refine wpList_store_row rfl 34 _ _ rfl w3.heap.size (coV Y pp pq ua uc) rfl rfl 34 (coA cz (.slice none 0 0) (.slice none 0 0)) HZ.out (info_coA Y _ _ HY20.out) (by unfold coV; rw [coA_size _ _ _ cz_20, coA_size _ _ _ HY20.out]) (coA_one _ _ _ rfl rfl) ?_
         obtain ⟨w4, hw⟩ : ∃ zz, (w3.alloc (.cells (coA cz (.slice none 0 0) (.slice none 0 0)) 34)).setRow w3.heap.size (coV Y pp pq ua uc) = zz := ⟨_, rfl⟩
         rw [hw] at HS HN ⊢
         obtain ⟨q2, hq⟩ : ∃ q, w3.heap.size = q := ⟨_, rfl⟩
         rw [hq] at HN ⊢
         clear hw HZ
         have HB_w4 : Hid (Below w.heap.size w w4) := HB_w3.out.trans ((HS.out).mono HB_w3.out.size)
         have HAT_w4 : Hid (ChAt w4 F ya yc za zc) := HAT_w3.out.below (HS.out)
         have HX1_w4 : Hid (Box w4 q1 (chV F ya yc za zc) 40) := HX1_w3.out.below (HS.out)
         have HBT_w4 : Hid (CoAt w4 Y pp ua) := HBT_w3.out.below (HS.out)
         clear HB_w3 HAT_w3 HX1_w3 HBT_w3
         have HX2_w4 : Hid (Box w4 q2 (coV Y pp pq ua uc) 34) := HN.out
         clear HS HN hq)
      | refine wpList_load_row rfl 34 _ rfl q2 rfl 34 (coV Y pp pq ua uc) (0, 0) _ HX2_w4.out Tryz.underlying34 rfl (info_coA Y _ _ HY20.out) ?_)
    have hc2 := change_any Y ua uc (.slice pp Y.ps.length pq) w4 HY20.out rfl HBT_w4.out.exts HTX.out (HE.out.below HB_w4.out)
    rw [coY_back HR.out] at hc2
    refine (hc2).mono ?_
    rintro e w5 ⟨⟨va, vc, rfl, -, -, hvr⟩, hb⟩
    have HB_w5 : Hid (Below w.heap.size w w5) := HB_w4.out.trans ((hb).mono HB_w4.out.size)
    have HAT_w5 : Hid (ChAt w5 F ya yc za zc) := HAT_w4.out.below (hb)
    have HX1_w5 : Hid (Box w5 q1 (chV F ya yc za zc) 40) := HX1_w4.out.below (hb)
    have HBT_w5 : Hid (CoAt w5 Y pp ua) := HBT_w4.out.below (hb)
    have HX2_w5 : Hid (Box w5 q2 (coV Y pp pq ua uc) 34) := HX2_w4.out.below (hb)
    clear HB_w4 HAT_w4 HX1_w4 HBT_w4 HX2_w4
    clear hb
    rw [chV_nil rfl]
    clear hc2
    have HCT_w5 : Hid (ChAt w5 (ownX F) va vc none 0) := chAt_own rfl rfl hvr.row
    clear hvr
    obtain ⟨D, hD⟩ : ∃ zz, (ownX F) = zz := ⟨_, rfl⟩
    have HDT : Hid (TX D) := by rw [← hD]; exact HTC.out
    have HD20 : Hid (D.n.length = 20) := by rw [← hD]; exact zeros_20
    have HDY : Hid (coY D = some Y) := by rw [← hD, coY_own]; exact HR.out
    have HDL : Hid (D.fs.length ≤ 100000 ∧ D.xs.length ≤ 100000) := by rw [← hD]; exact ⟨Nat.zero_le _, HLN.out.2⟩
    have HDE := Lib.hid hD
    have HCT_w5' := HCT_w5.out
    rw [hD] at HCT_w5' ⊢
    clear HCT_w5 hD
    have HCT_w5 : Hid (ChAt w5 D va vc none 0) := HCT_w5'
    clear HCT_w5'
    have HZ : Hid ((w5.alloc (.cells (chA czero (.slice none 0 0) (.slice none 0 0)) 40)).heap[w5.heap.size]? = some (.cells (chA czero (.slice none 0 0) (.slice none 0 0)) 40 (0, 0))) := heap_alloc_new _ _
    have HS : Hid (Below w5.heap.size w5 ((w5.alloc (.cells (chA czero (.slice none 0 0) (.slice none 0 0)) 40)).setRow w5.heap.size (chV D va vc none 0))) := below_setRow ((Below.refl _ _).alloc (Nat.le_refl _) _) (Nat.le_refl _) _
    have HN : Hid (Box ((w5.alloc (.cells (chA czero (.slice none 0 0) (.slice none 0 0)) 40)).setRow w5.heap.size (chV D va vc none 0)) w5.heap.size (chV D va vc none 0) 40) := setRow_heap _ _ _ _ _ _ HZ.out
    go_wp2_with (first
      | (refine wpList_store_row rfl 40 _ _ rfl w5.heap.size (chV D va vc none 0) rfl rfl 40 (chA czero (.slice none 0 0) (.slice none 0 0)) HZ.out (info_chA D _ _ HD20.out) (by unfold chV; rw [chA_size _ _ _ czero_20, chA_size _ _ _ HD20.out]) (chA_one _ _ _ rfl rfl) ?_
         obtain ⟨w6, hw⟩ : ∃ zz, (w5.alloc (.cells (chA czero (.slice none 0 0) (.slice none 0 0)) 40)).setRow w5.heap.size (chV D va vc none 0) = zz := ⟨_, rfl⟩
         rw [hw] at HS HN ⊢
         obtain ⟨q3, hq⟩ : ∃ q, w5.heap.size = q := ⟨_, rfl⟩
         rw [hq] at HN ⊢
         clear hw HZ
         have HB_w6 : Hid (Below w.heap.size w w6) := HB_w5.out.trans ((HS.out).mono HB_w5.out.size)
         have HAT_w6 : Hid (ChAt w6 F ya yc za zc) := HAT_w5.out.below (HS.out)
         have HX1_w6 : Hid (Box w6 q1 (chV F ya yc za zc) 40) := HX1_w5.out.below (HS.out)
         have HBT_w6 : Hid (CoAt w6 Y pp ua) := HBT_w5.out.below (HS.out)
         have HX2_w6 : Hid (Box w6 q2 (coV Y pp pq ua uc) 34) := HX2_w5.out.below (HS.out)
         have HCT_w6 : Hid (ChAt w6 D va vc none 0) := HCT_w5.out.below (HS.out)
         clear HB_w5 HAT_w5 HX1_w5 HBT_w5 HX2_w5 HCT_w5
         have HX3_w6 : Hid (Box w6 q3 (chV D va vc none 0) 40) := HN.out
         clear HS HN hq)
      | refine wpList_load_row rfl 40 _ rfl q3 rfl 40 (chV D va vc none 0) (0, 0) _ HX3_w6.out Tryz.underlying40 rfl (info_chA D _ _ HD20.out) ?_)
    have hc3 := commit_any D va vc (.slice none D.fs.length 0) w6 HD20.out rfl HCT_w6.out.exts HDT.out (HE.out.below HB_w6.out)
    rw [HDY.out] at hc3
    refine (hc3).mono ?_
    rintro e w7 ⟨⟨tp, tq, ta, tc, rfl, -, -, htr⟩, hb⟩
    have HB_w7 : Hid (Below w.heap.size w w7) := HB_w6.out.trans ((hb).mono HB_w6.out.size)
    have HAT_w7 : Hid (ChAt w7 F ya yc za zc) := HAT_w6.out.below (hb)
    have HX1_w7 : Hid (Box w7 q1 (chV F ya yc za zc) 40) := HX1_w6.out.below (hb)
    have HBT_w7 : Hid (CoAt w7 Y pp ua) := HBT_w6.out.below (hb)
    have HX2_w7 : Hid (Box w7 q2 (coV Y pp pq ua uc) 34) := HX2_w6.out.below (hb)
    have HCT_w7 : Hid (ChAt w7 D va vc none 0) := HCT_w6.out.below (hb)
    have HX3_w7 : Hid (Box w7 q3 (chV D va vc none 0) 40) := HX3_w6.out.below (hb)
    clear HB_w6 HAT_w6 HX1_w6 HBT_w6 HX2_w6 HCT_w6 HX3_w6
    clear hb
    rw [coV_nil HY2.out]
    clear hc3
    have HET_w7 : Hid (CoAt w7 Y tp ta) := coAt_bare HY1.out HY2.out htr.row
    clear htr
    have HZ : Hid ((w7.alloc (.cells (coA cz (.slice none 0 0) (.slice none 0 0)) 34)).heap[w7.heap.size]? = some (.cells (coA cz (.slice none 0 0) (.slice none 0 0)) 34 (0, 0))) := heap_alloc_new _ _
    have HS : Hid (Below w7.heap.size w7 ((w7.alloc (.cells (coA cz (.slice none 0 0) (.slice none 0 0)) 34)).setRow w7.heap.size (coV Y tp tq ta tc))) := below_setRow ((Below.refl _ _).alloc (Nat.le_refl _) _) (Nat.le_refl _) _
    have HN : Hid (Box ((w7.alloc (.cells (coA cz (.slice none 0 0) (.slice none 0 0)) 34)).setRow w7.heap.size (coV Y tp tq ta tc)) w7.heap.size (coV Y tp tq ta tc) 34) := setRow_heap _ _ _ _ _ _ HZ.out
    go_wp2_with (first
      | (refine wpList_store_row rfl 34 _ _ rfl w7.heap.size (coV Y tp tq ta tc) rfl rfl 34 (coA cz (.slice none 0 0) (.slice none 0 0)) HZ.out (info_coA Y _ _ HY20.out) (by unfold coV; rw [coA_size _ _ _ cz_20, coA_size _ _ _ HY20.out]) (coA_one _ _ _ rfl rfl) ?_
         obtain ⟨w8, hw⟩ : ∃ zz, (w7.alloc (.cells (coA cz (.slice none 0 0) (.slice none 0 0)) 34)).setRow w7.heap.size (coV Y tp tq ta tc) = zz := ⟨_, rfl⟩
         rw [hw] at HS HN ⊢
         obtain ⟨q4, hq⟩ : ∃ q, w7.heap.size = q := ⟨_, rfl⟩
         rw [hq] at HN ⊢
         clear hw HZ
         have HB_w8 : Hid (Below w.heap.size w w8) := HB_w7.out.trans ((HS.out).mono HB_w7.out.size)
         have HAT_w8 : Hid (ChAt w8 F ya yc za zc) := HAT_w7.out.below (HS.out)
         have HX1_w8 : Hid (Box w8 q1 (chV F ya yc za zc) 40) := HX1_w7.out.below (HS.out)
         have HBT_w8 : Hid (CoAt w8 Y pp ua) := HBT_w7.out.below (HS.out)
         have HX2_w8 : Hid (Box w8 q2 (coV Y pp pq ua uc) 34) := HX2_w7.out.below (HS.out)
         have HCT_w8 : Hid (ChAt w8 D va vc none 0) := HCT_w7.out.below (HS.out)
         have HX3_w8 : Hid (Box w8 q3 (chV D va vc none 0) 40) := HX3_w7.out.below (HS.out)
         have HET_w8 : Hid (CoAt w8 Y tp ta) := HET_w7.out.below (HS.out)
         clear HB_w7 HAT_w7 HX1_w7 HBT_w7 HX2_w7 HCT_w7 HX3_w7 HET_w7
         have HX4_w8 : Hid (Box w8 q4 (coV Y tp tq ta tc) 34) := HN.out
         clear HS HN hq))
    refine wp_region_noPanic ?_
    refine wp_region_held_drew (S := fun W => Below w8.heap.size w8 W) (by kernel_rfl) ?_ (fun hHeld => ?_)
    · exact (Below.refl _ _).drew
    refine wpAnyH_ready (rs := [0]) (by kernel_rfl) (by simp) ?_
    refine AllReadyH.cons (by simp only [List.getElem?_toArray, List.getElem?_cons_zero]; rfl) (fun K hK => ?_) AllReadyH.nil
    go_simp
    refine (known_any _ (HE.out.below (HB_w8.out.trans ((Below.refl _ _).drew.mono HB_w8.out.size)))).mono ?_
    rintro e v1 ⟨rfl, hb⟩
    have hvv1 : Below w8.heap.size w8 v1 := (Below.refl _ _).drew.trans hb
    have HVv1 := Lib.hid hvv1
    clear hb hvv1
    go_wp2_with fail
    refine hK.out _ _ (HVv1.out) (fun hHeld2 => ?_)
    clear hK K hHeld
    have hHeld := hHeld2
    clear hHeld2
    try simp only [Act.put, List.setIfInBounds_toArray, List.set_cons_zero, List.set_cons_succ]
    refine wpAnyH_take (i := 1) (v := ?_) (by simp only [List.getElem?_toArray, List.getElem?_cons_succ, List.getElem?_cons_zero]; rfl) (by kernel_rfl) (by kernel_rfl) (by kernel_rfl) (fun _ _ _ h => h) (Or.inl ⟨by rfl, ?_⟩) (by assumption) ?_
    rotate_left
    · intro W hSW
      go_simp
      try with_reducible rfl
    try simp only [Act.put, List.setIfInBounds_toArray, List.set_cons_zero, List.set_cons_succ]
    refine wpAnyH_take (i := 2) (v := ?_) (by simp only [List.getElem?_toArray, List.getElem?_cons_succ, List.getElem?_cons_zero]; rfl) (by kernel_rfl) (by kernel_rfl) (by kernel_rfl) (fun _ _ _ h => h) (Or.inl ⟨by rfl, ?_⟩) (by assumption) ?_
    rotate_left
    · intro W hSW
      go_simp
      try with_reducible rfl
    try simp only [Act.put, List.setIfInBounds_toArray, List.set_cons_zero, List.set_cons_succ]
    refine wpAnyH_take (i := 3) (v := ?_) (by simp only [List.getElem?_toArray, List.getElem?_cons_succ, List.getElem?_cons_zero]; rfl) (by kernel_rfl) (by kernel_rfl) (by kernel_rfl) (fun _ _ _ h => h) (Or.inl ⟨by rfl, ?_⟩) (by assumption) ?_
    rotate_left
    · intro W hSW
      go_simp
      try with_reducible rfl
    try simp only [Act.put, List.setIfInBounds_toArray, List.set_cons_zero, List.set_cons_succ]
    refine wpAnyH_take (i := 4) (v := ?_) (by simp only [List.getElem?_toArray, List.getElem?_cons_succ, List.getElem?_cons_zero]; rfl) (by kernel_rfl) (by kernel_rfl) (by kernel_rfl) (fun _ _ _ h => h) (Or.inl ⟨by rfl, ?_⟩) (by assumption) ?_
    rotate_left
    · intro W hSW
      go_simp
      try with_reducible rfl
    try simp only [Act.put, List.setIfInBounds_toArray, List.set_cons_zero, List.set_cons_succ]
    refine wpAnyH_take (i := 5) (v := ?_) (by simp only [List.getElem?_toArray, List.getElem?_cons_succ, List.getElem?_cons_zero]; rfl) (by kernel_rfl) (by kernel_rfl) (by kernel_rfl) (fun _ _ _ h => h) (Or.inl ⟨by rfl, ?_⟩) (by assumption) ?_
    rotate_left
    · intro W hSW
      go_simp
      try with_reducible rfl
    try simp only [Act.put, List.setIfInBounds_toArray, List.set_cons_zero, List.set_cons_succ]
    refine wpAnyH_take (i := 6) (by simp only [List.getElem?_toArray, List.getElem?_cons_succ, List.getElem?_cons_zero]; rfl) (by kernel_rfl) (by kernel_rfl) (by kernel_rfl) (fun _ _ _ h => h) (yieldsIf_load_mid (by rfl) 40 _ rfl q3 0 rfl (chL D (.slice va D.xs.length vc) (.slice none D.fs.length 0)) _ (fun W hSW => Box.range (HX3_w8.out.below hSW)) Tryz.underlying40 rfl (info_ch D _ _ HD20.out)) (by assumption) ?_
    try simp only [Act.put, List.setIfInBounds_toArray, List.set_cons_zero, List.set_cons_succ]
    refine wpAnyH_take (i := 8) (by simp only [List.getElem?_toArray, List.getElem?_cons_succ, List.getElem?_cons_zero]; rfl) (by kernel_rfl) (by kernel_rfl) (by kernel_rfl) (fun _ _ _ h => h) (yieldsIf_load_mid (by rfl) 40 _ rfl q1 0 rfl (chL F (.slice ya F.xs.length yc) (.slice za F.fs.length zc)) _ (fun W hSW => Box.range (HX1_w8.out.below hSW)) Tryz.underlying40 rfl (info_ch F _ _ HF20.out)) (by assumption) ?_
    try simp only [Act.put, List.setIfInBounds_toArray, List.set_cons_zero, List.set_cons_succ]
    refine wpAnyH_ready (rs := [7]) (by kernel_rfl) (by simp) ?_
    refine AllReadyH.cons (by simp only [List.getElem?_toArray, List.getElem?_cons_succ, List.getElem?_cons_zero]; rfl) (fun K hK => ?_) AllReadyH.nil
    go_simp
    refine (chof_any D va vc none 0 _ (HCT_w8.out.below HVv1.out) HDL.out.2 HDL.out.1).mono ?_
    rintro e v2 ⟨⟨ga, gb, gc, gd, rfl, hr1, hr2⟩, hb⟩
    have hvv2 : Below w8.heap.size w8 v2 := HVv1.out.trans (hb.mono HVv1.out.size)
    have HVv2 := Lib.hid hvv2
    have HG1 := Lib.hid hr1
    have HG2 := Lib.hid hr2
    clear hr2
    clear hb hvv2 hr1
    go_wp2_with fail
    refine hK.out _ _ (HVv2.out) (fun hHeld2 => ?_)
    clear hK K hHeld
    have hHeld := hHeld2
    clear hHeld2
    try simp only [Act.put, List.setIfInBounds_toArray, List.set_cons_zero, List.set_cons_succ]
    refine wpAnyH_ready (rs := [9]) (by kernel_rfl) (by simp) ?_
    refine AllReadyH.cons (by simp only [List.getElem?_toArray, List.getElem?_cons_succ, List.getElem?_cons_zero]; rfl) (fun K hK => ?_) AllReadyH.nil
    go_simp
    refine (chof_any F ya yc za zc _ (HAT_w8.out.below HVv2.out) HLN.out.2 HLN.out.1).mono ?_
    rintro e v3 ⟨⟨ka, kb, kc, kd, rfl, hr1, hr2⟩, hb⟩
    have hvv3 : Below w8.heap.size w8 v3 := HVv2.out.trans (hb.mono HVv2.out.size)
    have HVv3 := Lib.hid hvv3
    have HH1 := Lib.hid hr1
    have HG1' := Lib.hid (HG1.out.below hb)
    have HH2 := Lib.hid hr2
    have HG2' := Lib.hid (HG2.out.below hb)
    clear hr2
    clear hb hvv3 hr1
    go_wp2_with fail
    refine hK.out _ _ (HVv3.out) (fun hHeld2 => ?_)
    clear hK K hHeld
    have hHeld := hHeld2
    clear hHeld2
    try simp only [Act.put, List.setIfInBounds_toArray, List.set_cons_zero, List.set_cons_succ]
    refine wpAnyH_ready (rs := [10]) (by kernel_rfl) (by simp) ?_
    refine AllReadyH.cons (by simp only [List.getElem?_toArray, List.getElem?_cons_succ, List.getElem?_cons_zero]; rfl) (fun K hK => ?_) AllReadyH.nil
    go_simp
    refine (own_any F (.slice kc F.fs.length kd) ka kb _ HF20.out).mono ?_
    rintro e v4 ⟨rfl, hbb⟩
    have hvv4 : Below w8.heap.size w8 v4 := HVv3.out.trans (hbb.mono HVv3.out.size)
    have HVv4 := Lib.hid hvv4
    have HH1' := Lib.hid (HH1.out.below hbb)
    have HG1'' := Lib.hid (HG1'.out.below hbb)
    have HH2' := Lib.hid (HH2.out.below hbb)
    have HG2'' := Lib.hid (HG2'.out.below hbb)
    clear hbb hvv4
    go_wp2_with fail
    refine hK.out _ _ (HVv4.out) (fun hHeld2 => ?_)
    clear hK K hHeld
    have hHeld := hHeld2
    clear hHeld2
    try simp only [Act.put, List.setIfInBounds_toArray, List.set_cons_zero, List.set_cons_succ]
    refine wpAnyH_ready (rs := [11]) (by kernel_rfl) (by simp) ?_
    refine AllReadyH.cons (by simp only [List.getElem?_toArray, List.getElem?_cons_succ, List.getElem?_cons_zero]; rfl) (fun K hK => ?_) AllReadyH.nil
    go_simp
    have hsm := chsame_any D ga gb gc gd ka kb none 0 v4 HD20.out HG1''.out HG2''.out (by rw [← HDE.out]; exact HH1'.out) (by rw [← HDE.out]; exact .inl rfl) HDL.out.2 HDL.out.1
    rw [show chV D ka kb none 0 = chA (ownX F) (.slice ka F.xs.length kb) (.slice none 0 0) by rw [← HDE.out]; rfl] at hsm
    refine hsm.mono ?_
    clear hsm
    rintro e v5 ⟨rfl, hbb⟩
    have hvv5 : Below w8.heap.size w8 v5 := HVv4.out.trans (hbb.mono HVv4.out.size)
    have HVv5 := Lib.hid hvv5
    clear hbb hvv5
    go_wp2_with fail
    refine hK.out _ _ (HVv5.out) (fun hHeld2 => ?_)
    clear hK K hHeld
    have hHeld := hHeld2
    clear hHeld2
    try simp only [Act.put, List.setIfInBounds_toArray, List.set_cons_zero, List.set_cons_succ]
    refine wpAnyH_take (i := 12) (v := ?_) (by simp only [List.getElem?_toArray, List.getElem?_cons_succ, List.getElem?_cons_zero]; rfl) (by kernel_rfl) (by kernel_rfl) (by kernel_rfl) (fun _ _ _ h => h) (Or.inl ⟨by rfl, ?_⟩) (by assumption) ?_
    rotate_left
    · intro W hSW
      go_simp
      try with_reducible rfl
    try simp only [Act.put, List.setIfInBounds_toArray, List.set_cons_zero, List.set_cons_succ]
    refine wpAnyH_take (i := 13) (v := ?_) (by simp only [List.getElem?_toArray, List.getElem?_cons_succ, List.getElem?_cons_zero]; rfl) (by kernel_rfl) (by kernel_rfl) (by kernel_rfl) (fun _ _ _ h => h) (Or.inl ⟨by rfl, ?_⟩) (by assumption) ?_
    rotate_left
    · intro W hSW
      go_simp
      try with_reducible rfl
    try simp only [Act.put, List.setIfInBounds_toArray, List.set_cons_zero, List.set_cons_succ]
    refine wpAnyH_take (i := 14) (v := ?_) (by simp only [List.getElem?_toArray, List.getElem?_cons_succ, List.getElem?_cons_zero]; rfl) (by kernel_rfl) (by kernel_rfl) (by kernel_rfl) (fun _ _ _ h => h) (Or.inl ⟨by rfl, ?_⟩) (by assumption) ?_
    rotate_left
    · intro W hSW
      go_simp
      try with_reducible rfl
    try simp only [Act.put, List.setIfInBounds_toArray, List.set_cons_zero, List.set_cons_succ]
    refine wpAnyH_take (i := 15) (v := ?_) (by simp only [List.getElem?_toArray, List.getElem?_cons_succ, List.getElem?_cons_zero]; rfl) (by kernel_rfl) (by kernel_rfl) (by kernel_rfl) (fun _ _ _ h => h) (Or.inl ⟨by rfl, ?_⟩) (by assumption) ?_
    rotate_left
    · intro W hSW
      go_simp
      try with_reducible rfl
    try simp only [Act.put, List.setIfInBounds_toArray, List.set_cons_zero, List.set_cons_succ]
    refine wpAnyH_take (i := 16) (v := ?_) (by simp only [List.getElem?_toArray, List.getElem?_cons_succ, List.getElem?_cons_zero]; rfl) (by kernel_rfl) (by kernel_rfl) (by kernel_rfl) (fun _ _ _ h => h) (Or.inl ⟨by rfl, ?_⟩) (by assumption) ?_
    rotate_left
    · intro W hSW
      go_simp
      try with_reducible rfl
    try simp only [Act.put, List.setIfInBounds_toArray, List.set_cons_zero, List.set_cons_succ]
    refine wpAnyH_take (i := 17) (v := ?_) (by simp only [List.getElem?_toArray, List.getElem?_cons_succ, List.getElem?_cons_zero]; rfl) (by kernel_rfl) (by kernel_rfl) (by kernel_rfl) (fun _ _ _ h => h) (Or.inl ⟨by rfl, ?_⟩) (by assumption) ?_
    rotate_left
    · intro W hSW
      go_simp
      try with_reducible rfl
    try simp only [Act.put, List.setIfInBounds_toArray, List.set_cons_zero, List.set_cons_succ]
    refine wpAnyH_take (i := 18) (by simp only [List.getElem?_toArray, List.getElem?_cons_succ, List.getElem?_cons_zero]; rfl) (by kernel_rfl) (by kernel_rfl) (by kernel_rfl) (fun _ _ _ h => h) (yieldsIf_load_mid (by rfl) 34 _ rfl q4 0 rfl (coL Y (.slice tp Y.ps.length tq) (.slice ta Y.xs.length tc)) _ (fun W hSW => Box.range (HX4_w8.out.below hSW)) Tryz.underlying34 rfl (info_co Y _ _ HY20.out)) (by assumption) ?_
    try simp only [Act.put, List.setIfInBounds_toArray, List.set_cons_zero, List.set_cons_succ]
    refine wpAnyH_take (i := 20) (by simp only [List.getElem?_toArray, List.getElem?_cons_succ, List.getElem?_cons_zero]; rfl) (by kernel_rfl) (by kernel_rfl) (by kernel_rfl) (fun _ _ _ h => h) (yieldsIf_load_mid (by rfl) 34 _ rfl q2 0 rfl (coL Y (.slice pp Y.ps.length pq) (.slice ua Y.xs.length uc)) _ (fun W hSW => Box.range (HX2_w8.out.below hSW)) Tryz.underlying34 rfl (info_co Y _ _ HY20.out)) (by assumption) ?_
    try simp only [Act.put, List.setIfInBounds_toArray, List.set_cons_zero, List.set_cons_succ]
    refine wpAnyH_ready (rs := [19]) (by kernel_rfl) (by simp) ?_
    refine AllReadyH.cons (by simp only [List.getElem?_toArray, List.getElem?_cons_succ, List.getElem?_cons_zero]; rfl) (fun K hK => ?_) AllReadyH.nil
    go_simp
    refine (coof_any Y tp tq ta tc _ (HET_w8.out.below HVv5.out) (by rw [HY2.out]; exact Nat.zero_le _) HYL.out).mono ?_
    rintro e v6 ⟨⟨ma, mb, mc, md, rfl, hr1⟩, hb⟩
    have hvv6 : Below w8.heap.size w8 v6 := HVv5.out.trans (hb.mono HVv5.out.size)
    have HVv6 := Lib.hid hvv6
    have HM1 := Lib.hid hr1
    clear hvv6 hr1
    go_wp2_with fail
    refine hK.out _ _ (HVv6.out) (fun hHeld2 => ?_)
    clear hK K hHeld
    have hHeld := hHeld2
    clear hHeld2
    try simp only [Act.put, List.setIfInBounds_toArray, List.set_cons_zero, List.set_cons_succ]
    refine wpAnyH_ready (rs := [21]) (by kernel_rfl) (by simp) ?_
    refine AllReadyH.cons (by simp only [List.getElem?_toArray, List.getElem?_cons_succ, List.getElem?_cons_zero]; rfl) (fun K hK => ?_) AllReadyH.nil
    go_simp
    refine (coof_any Y pp pq ua uc _ (HBT_w8.out.below HVv6.out) (by rw [HY2.out]; exact Nat.zero_le _) HYL.out).mono ?_
    rintro e v7 ⟨⟨na, nb, nc, nd, rfl, hr1⟩, hb⟩
    have hvv7 : Below w8.heap.size w8 v7 := HVv6.out.trans (hb.mono HVv6.out.size)
    have HVv7 := Lib.hid hvv7
    have HN1 := Lib.hid hr1
    have HM1' := Lib.hid (HM1.out.below hb)
    clear hvv7 hr1
    go_wp2_with fail
    refine hK.out _ _ (HVv7.out) (fun hHeld2 => ?_)
    clear hK K hHeld
    have hHeld := hHeld2
    clear hHeld2
    try simp only [Act.put, List.setIfInBounds_toArray, List.set_cons_zero, List.set_cons_succ]
    refine wpAnyH_ready (rs := [22]) (by kernel_rfl) (by simp) ?_
    refine AllReadyH.cons (by simp only [List.getElem?_toArray, List.getElem?_cons_succ, List.getElem?_cons_zero]; rfl) (fun K hK => ?_) AllReadyH.nil
    go_simp
    refine (cosame_any Y ma mb mc md na nb nc nd _ HM1'.out HN1.out (by rw [HY2.out]; exact Nat.zero_le _) HYL.out).mono ?_
    rintro e v8 ⟨rfl, hbb⟩
    have hvv8 : Below w8.heap.size w8 v8 := HVv7.out.trans (hbb.mono HVv7.out.size)
    have HVv8 := Lib.hid hvv8
    clear hbb hvv8
    go_wp2_with fail
    refine hK.out _ _ (HVv8.out) (fun hHeld2 => ?_)
    clear hK K hHeld
    have hHeld := hHeld2
    clear hHeld2
    try simp only [Act.put, List.setIfInBounds_toArray, List.set_cons_zero, List.set_cons_succ]
    refine wpAnyH_take (i := 23) (v := ?_) (by simp only [List.getElem?_toArray, List.getElem?_cons_succ, List.getElem?_cons_zero]; rfl) (by kernel_rfl) (by kernel_rfl) (by kernel_rfl) (fun _ _ _ h => h) (Or.inl ⟨by rfl, ?_⟩) (by assumption) ?_
    rotate_left
    · intro W hSW
      go_simp
      try with_reducible rfl
    try simp only [Act.put, List.setIfInBounds_toArray, List.set_cons_zero, List.set_cons_succ]
    refine wpAnyH_take (i := 24) (v := ?_) (by simp only [List.getElem?_toArray, List.getElem?_cons_succ, List.getElem?_cons_zero]; rfl) (by kernel_rfl) (by kernel_rfl) (by kernel_rfl) (fun _ _ _ h => h) (Or.inl ⟨by rfl, ?_⟩) (by assumption) ?_
    rotate_left
    · intro W hSW
      go_simp
      try with_reducible rfl
    try simp only [Act.put, List.setIfInBounds_toArray, List.set_cons_zero, List.set_cons_succ]
    refine wpAnyH_done (by kernel_rfl) ?_ _
    refine NoPanic.normal ?_
    clear hHeld
    go_wp2_with fail
    go_ret
    exact ⟨rfl, HB_w8.out.trans (HVv8.out.mono HB_w8.out.size)⟩
end Go.Proofs.YtkpiinjhcckhfaaGreatDoor
