/- trans.Change and trans.Commit, which call each other: the walks. -/
import Derived.Test.YtkpiinjhcckhfaaGreatDoorTrInC
import Derived.Test.YtkpiinjhcckhfaaGreatDoorTrInX
namespace Go.Proofs.YtkpiinjhcckhfaaGreatDoor
open Go.RowKit Plain Go.ChangeShapes Go.WideShapes Go.ChangeAt Go.Great
set_option linter.unusedVariables false
set_option linter.unusedSimpArgs false
theorem coA_tree (c : CC) (pv xv : Value) (h20 : c.tr.length = 20) : setAll (coA c pv xv) 0 (V8 zeros20).toList = coA ⟨zeros20, c.ps, c.a, c.c, c.xs, c.m⟩ pv xv := by
  apply Array.ext'
  have e : (V8 zeros20).toList = U8 zeros20 := rfl
  have hl : (U8 zeros20).length = 20 := by rw [U8_length, zeros_20]
  rw [e, setAll_list _ _ _ (by rw [coA_size _ _ _ h20, hl]; omega), hl, List.take_zero]
  show [] ++ U8 zeros20 ++ (U8 c.tr ++ _).drop (0 + 20) = _
  rw [Nat.zero_add, show (20 : Nat) = (U8 c.tr).length by rw [U8_length, h20], List.drop_left]
  rfl
theorem chA_tree (c : CX) (xv fv : Value) (h20 : c.n.length = 20) : setAll (chA c xv fv) 0 (V8 zeros20).toList = chA ⟨zeros20, c.u, c.t, c.z, c.xs, c.fs, c.d⟩ xv fv := by
  apply Array.ext'
  have e : (V8 zeros20).toList = U8 zeros20 := rfl
  have hl : (U8 zeros20).length = 20 := by rw [U8_length, zeros_20]
  rw [e, setAll_list _ _ _ (by rw [chA_size _ _ _ h20, hl]; omega), hl, List.take_zero]
  show [] ++ U8 zeros20 ++ (U8 c.n ++ _).drop (0 + 20) = _
  rw [Nat.zero_add, show (20 : Nat) = (U8 c.n).length by rw [U8_length, h20], List.drop_left]
  rfl
theorem id_infoV : (Tryz.prog.info? 29).map (·.size) = some (V8 zeros20).size := by rw [V8_size, zeros_20]; kernel_rfl
set_option maxRecDepth 100000 in
set_option maxHeartbeats 32000000 in
theorem change_step (f : Nat) (ih : IHX f) : IHC (f + 1) := fun c xa xc pv w h20 hpv hx hs hz hE => by
  have HE := Lib.hid hE
  have HX := Lib.hid hx
  have H20 : Hid (c.tr.length = 20) := h20
  have HPV := Lib.hid hpv
  have HIN := Lib.hid (fun W (hW : Below w.heap.size w W) => changein_any f ih c xa xc W (hx.below hW) hs hz (hE.below hW))
  have HOV := Lib.hid (fun W (hW : Below w.heap.size w W) => fun hr => changeover_any c xa xc W (hx.below hW) hs.1 hr (hE.below hW))
  have HPR := Lib.hid (fun W (hW : Below w.heap.size w W) => coprint_any ⟨zeros20, [], c.a, c.c, c.xs, c.m⟩ none 0 xa xc W ⟨zeros_20, zeros_ok.2, (fun p hp => by cases hp), .inl rfl, hx.below hW⟩ hs.1 (hE.below hW))
  obtain ⟨o, ho⟩ : ∃ o, stepC (both f).2 c = o := ⟨_, rfl⟩
  show Calls Tryz.prog 11 _ w fun e w' => XRes w.heap.size e w' (stepC (both f).2 c) ∧ _
  rw [ho]
  have HO := Lib.hid ho
  obtain ⟨n, hN⟩ : ∃ n, c.xs.length = n := ⟨_, rfl⟩
  have HPR2 : Hid (∀ W, Below w.heap.size w W → Calls Tryz.prog 29 #[.agg (coA ⟨zeros20, [], c.a, c.c, c.xs, c.m⟩ (.slice none 0 0) (.slice xa n xc))] W fun e w' => CoPrint e w' ⟨zeros20, [], c.a, c.c, c.xs, c.m⟩ ∧ Below W.heap.size W w') := fun W hW => by
    have h := HPR.out W hW
    unfold coV at h
    rwa [show (⟨zeros20, [], c.a, c.c, c.xs, c.m⟩ : CC).xs.length = n from hN] at h
  rw [hN] at HIN ⊢
  rw [hN] at HOV
  have hzc := zero_ch
  have hzo := zero_co
  clear hN ho hx hs hz hE hpv h20 HPR ih
  have HB_0 : Hid (Below w.heap.size w ((w.alloc (.cells (coA c pv (.slice xa n xc)) 34)).alloc (.cells (chA czero (.slice none 0 0) (.slice none 0 0)) 40))) := ((Below.refl _ _).alloc (Nat.le_refl _) _).alloc (by simp) _
  have HA_0 : Hid (Box ((w.alloc (.cells (coA c pv (.slice xa n xc)) 34)).alloc (.cells (chA czero (.slice none 0 0) (.slice none 0 0)) 40)) w.heap.size (coA c pv (.slice xa n xc)) 34) := (Box.new _ _ _).alloc _
  have HRS_0 : Hid (Box ((w.alloc (.cells (coA c pv (.slice xa n xc)) 34)).alloc (.cells (chA czero (.slice none 0 0) (.slice none 0 0)) 40)) (w.heap.size + 1) (chA czero (.slice none 0 0) (.slice none 0 0)) 40) := by
    have h := Box.new (w.alloc (.cells (coA c pv (.slice xa n xc)) 34)) (chA czero (.slice none 0 0) (.slice none 0 0)) 40
    rwa [show (w.alloc (.cells (coA c pv (.slice xa n xc)) 34)).heap.size = w.heap.size + 1 by simp] at h
  go_enter Tryz.func11, Tryz.ntmps11
  go_wp2_with ((with_reducible refine (show wpList _ _ _ (⟨some 8, _, _, _, _, _⟩ :: _) _ _ from ?_)); refine Hid.out ?_)
  refine unhid ?_
  obtain ⟨w0, hw0⟩ : ∃ X, (w.alloc (.cells (coA c pv (.slice xa n xc)) 34)).alloc (.cells (chA czero (.slice none 0 0) (.slice none 0 0)) 40) = X := ⟨_, rfl⟩
  rw [hw0] at HB_0 HA_0 HRS_0 ⊢
  obtain ⟨p0, hp0⟩ : ∃ p, w.heap.size = p := ⟨_, rfl⟩
  obtain ⟨p1, hp1⟩ : ∃ p, p0 + 1 = p := ⟨_, rfl⟩
  rw [hp0] at HA_0 HRS_0
  rw [hp1] at HRS_0
  simp only [hp0, hp1]
  have HP : Hid (w.heap.size = p0 ∧ p0 + 1 = p1) := ⟨hp0, hp1⟩
  have HB_w0 : Hid (Below w.heap.size w w0) := HB_0.out
  have HA_w0 := HA_0
  have HRS_w0 := HRS_0
  clear hw0 hp0 hp1 HB_0 HA_0 HRS_0
  obtain ⟨ZI, hZI⟩ : ∃ z, V8 zeros20 = z := ⟨_, rfl⟩
  have HBI : Hid (∀ W, (Instr.build 29 #[]).run Tryz.prog W = .ok (.agg ZI) W) := fun W => by rw [← hZI]; exact build_id0 W
  have HZ1 : Hid ((Tryz.prog.info? 29).map (·.size) = some ZI.size ∧ ZI.all (·.oneCell') = true) := by rw [← hZI]; exact ⟨id_infoV, V8_one _⟩
  have htree := coA_tree c pv (.slice xa n xc) H20.out
  rw [hZI] at htree
  have HTR := Lib.hid htree
  clear htree
  have HTH : Hid (w0.there p0 0 (V8 zeros20).size) := HA_w0.out.there 0 (by rw [V8_size, zeros_20, coA_size _ _ _ H20.out]; decide)
  rw [hZI] at HTH
  clear hZI
  have HB1_X : Hid (Below w.heap.size w (w0.setCells p0 0 ZI.toList)) := below_setCells p0 (Nat.le_of_eq HP.out.1) _ _ _ HB_w0.out
  have HA1_X : Hid (Box (w0.setCells p0 0 ZI.toList) p0 (coA ⟨zeros20, c.ps, c.a, c.c, c.xs, c.m⟩ pv (.slice xa n xc)) 34) := HA_w0.out.setCells HTR.out
  have HRS1_X : Hid (Box (w0.setCells p0 0 ZI.toList) p1 (chA czero (.slice none 0 0) (.slice none 0 0)) 40) := HRS_w0.out.setCells_ne (by have := HP.out.2; omega)
  have HB2_X : Hid (Below w.heap.size w ((w0.setCells p0 0 ZI.toList).setCell ⟨p0, 20, none⟩ (.slice none 0 0))) := HB1_X.out.setCell (p := ⟨p0, 20, none⟩) (Nat.le_of_eq HP.out.1) _
  have HA2_X : Hid (Box ((w0.setCells p0 0 ZI.toList).setCell ⟨p0, 20, none⟩ (.slice none 0 0)) p0 (coA ⟨zeros20, [], c.a, c.c, c.xs, c.m⟩ (.slice none 0 0) (.slice xa n xc)) 34) := HA1_X.out.setCell (coA_set ⟨zeros20, c.ps, c.a, c.c, c.xs, c.m⟩ _ _ zeros_20 0 _)
  have HRS2_X : Hid (Box ((w0.setCells p0 0 ZI.toList).setCell ⟨p0, 20, none⟩ (.slice none 0 0)) p1 (chA czero (.slice none 0 0) (.slice none 0 0)) 40) := HRS1_X.out.setCell_ne (by have := HP.out.2; omega)
  clear HB_w0 HA_w0 HRS_w0
  refine wpList_buildQ rfl 29 #[] rfl #[] (by simp) _ HBI.out ?_
  go_wp2_with (first
    | (refine wpList_store_mid rfl 29 _ _ rfl p0 0 ZI rfl rfl HTH.out HZ1.out.1 HZ1.out.2 ?_
       have hpp := (HA1_X.out.co zeros_20).pars
       have hfo := frozen_of_row _ p0 20 _ _ HA1_X.out
       obtain ⟨wm, hwm⟩ : ∃ X, (w0.setCells p0 0 ZI.toList) = X := ⟨_, rfl⟩
       rw [hwm] at HB1_X HA1_X HRS1_X HB2_X HA2_X HRS2_X hpp hfo ⊢
       clear hwm)
    | refine wpList_load_row rfl 34 _ rfl p0 rfl 34 (coA ⟨zeros20, [], c.a, c.c, c.xs, c.m⟩ (.slice none 0 0) (.slice xa n xc)) (0, 0) _ HA2_X.out Tryz.underlying34 rfl (info_coA ⟨zeros20, [], c.a, c.c, c.xs, c.m⟩ _ _ zeros_20) ?_)
  obtain ⟨w1, hw⟩ : ∃ X, (wm.setCell ⟨p0, 20, none⟩ (.slice none 0 0)) = X := ⟨_, rfl⟩
  rw [hw] at HB2_X HA2_X HRS2_X ⊢
  have HB_w1 := HB2_X
  have HA_w1 := HA2_X
  have HRS_w1 := HRS2_X
  clear hw hpp hfo HB1_X HA1_X HRS1_X HB2_X HA2_X HRS2_X HTH
  refine (HPR2.out w1 HB_w1.out).mono ?_
  rintro e w2 ⟨hpr, hb⟩
  have HB_w2 : Hid (Below w.heap.size w w2) := HB_w1.out.trans ((hb).mono HB_w1.out.size)
  have HA_w2 : Hid (Box w2 p0 (coA ⟨zeros20, [], c.a, c.c, c.xs, c.m⟩ (.slice none 0 0) (.slice xa n xc)) 34) := HA_w1.out.below (hb)
  have HRS_w2 : Hid (Box w2 p1 (chA czero (.slice none 0 0) (.slice none 0 0)) 40) := HRS_w1.out.below (hb)
  clear HB_w1 HA_w1 HRS_w1
  clear hb
  rcases hpr with ⟨hrt, a, cap, rfl, -⟩ | ⟨hrt, rfl⟩
  rotate_left
  · have HNO : Hid (o = none) := by show _ = _; rw [← HO.out]; unfold stepC; rw [if_neg (by rw [show coR c = false from hrt]; simp)]
    clear hrt
    go_wp2_with (first
      | refine wpList_buildQ rfl 40 _ rfl #[] (by rfl) _ build_ch0 ?_
      | refine wpList_store_row rfl 40 _ _ rfl p1 (chA czero (.slice none 0 0) (.slice none 0 0)) rfl rfl 40 (chA czero (.slice none 0 0) (.slice none 0 0)) HRS_w2.out (info_chA czero _ _ czero_20) rfl (chA_one _ _ _ rfl rfl) ?_)
    refine bodyPost_ret (results_row_tmp Tryz.results11 _ _ p1 40 (chA czero (.slice none 0 0) (.slice none 0 0)) (0, 0) _ rfl (Box.setRow HRS_w2.out) Tryz.underlying40 rfl (info_chA czero _ _ czero_20)) rfl ⟨by rw [HNO.out] <;> rfl, below_setRow HB_w2.out (by have := HP.out.1; have := HP.out.2; omega) _⟩
  have HRT := Lib.hid hrt
  have HOS : Hid (o = some ((inC (both f).2 c).getD (overC c))) := by show _ = _; rw [← HO.out]; unfold stepC; rw [if_pos (show coR c = true from hrt)]
  clear hrt
  have HLT : Hid (p1 < w2.heap.size ∧ w.heap.size ≤ w2.heap.size) := ⟨HRS_w2.out.lt, HB_w2.out.size⟩
  go_wp2_with (first
    | refine wpList_load_row rfl 34 _ rfl p0 rfl 34 (coA ⟨zeros20, [], c.a, c.c, c.xs, c.m⟩ (.slice none 0 0) (.slice xa n xc)) (0, 0) _ HA_w2.out Tryz.underlying34 rfl (info_coA ⟨zeros20, [], c.a, c.c, c.xs, c.m⟩ _ _ zeros_20) ?_)
  refine (HIN.out w2 HB_w2.out).mono ?_
  rintro e w3 ⟨hin, hb⟩
  have HB_w3 : Hid (Below w.heap.size w w3) := HB_w2.out.trans ((hb).mono HB_w2.out.size)
  have HA_w3 : Hid (Box w3 p0 (coA ⟨zeros20, [], c.a, c.c, c.xs, c.m⟩ (.slice none 0 0) (.slice xa n xc)) 34) := HA_w2.out.below (hb)
  have HRS_w3 : Hid (Box w3 p1 (chA czero (.slice none 0 0) (.slice none 0 0)) 40) := HRS_w2.out.below (hb)
  clear HB_w2 HA_w2 HRS_w2
  clear hb
  rcases hin with ⟨y, ya, yc, hi, rfl, hy1, hy2, hyr⟩ | ⟨hi, y, xv, rfl, hy20, hyo⟩
  rotate_left
  · have HOR : Hid (o = some (overC c)) := by show _ = _; rw [HOS.out, hi]; rfl
    have HY20 := Lib.hid hy20
    have HYO := Lib.hid hyo
    clear hi hy20 hyo
    have HZ : Hid ((w3.alloc (.cells (chA czero (.slice none 0 0) (.slice none 0 0)) 40)).heap[w3.heap.size]? = some (.cells (chA czero (.slice none 0 0) (.slice none 0 0)) 40 (0, 0))) := heap_alloc_new _ _
    have HS : Hid (Below w3.heap.size w3 ((w3.alloc (.cells (chA czero (.slice none 0 0) (.slice none 0 0)) 40)).setRow w3.heap.size (chA y xv (.slice none 0 0)))) := below_setRow ((Below.refl _ _).alloc (Nat.le_refl _) _) (Nat.le_refl _) _
    have HN : Hid (Box ((w3.alloc (.cells (chA czero (.slice none 0 0) (.slice none 0 0)) 40)).setRow w3.heap.size (chA y xv (.slice none 0 0))) w3.heap.size (chA y xv (.slice none 0 0)) 40) := setRow_heap _ _ _ _ _ _ HZ.out
    go_wp2_with (first
      | (refine wpList_store_row rfl 40 _ _ rfl w3.heap.size (chA y xv (.slice none 0 0)) rfl rfl 40 (chA czero (.slice none 0 0) (.slice none 0 0)) HZ.out (info_chA y _ _ HY20.out) (by rw [chA_size _ _ _ czero_20, chA_size _ _ _ HY20.out]) (chA_one _ _ _ HYO.out rfl) ?_
         obtain ⟨w4, hw⟩ : ∃ X, (w3.alloc (.cells (chA czero (.slice none 0 0) (.slice none 0 0)) 40)).setRow w3.heap.size (chA y xv (.slice none 0 0)) = X := ⟨_, rfl⟩
         rw [hw] at HS HN ⊢
         obtain ⟨q, hq⟩ : ∃ q, w3.heap.size = q := ⟨_, rfl⟩
         rw [hq] at HN ⊢
         clear hw HZ
         have HB_w4 : Hid (Below w.heap.size w w4) := HB_w3.out.trans ((HS.out).mono HB_w3.out.size)
         have HA_w4 : Hid (Box w4 p0 (coA ⟨zeros20, [], c.a, c.c, c.xs, c.m⟩ (.slice none 0 0) (.slice xa n xc)) 34) := HA_w3.out.below (HS.out)
         have HRS_w4 : Hid (Box w4 p1 (chA czero (.slice none 0 0) (.slice none 0 0)) 40) := HRS_w3.out.below (HS.out)
         clear HB_w3 HA_w3 HRS_w3
         have HXB_w4 : Hid (Box w4 q (chA y xv (.slice none 0 0)) 40) := HN.out
         clear HS HN hq)
      | refine wpList_load_row rfl 34 _ rfl p0 rfl 34 (coA ⟨zeros20, [], c.a, c.c, c.xs, c.m⟩ (.slice none 0 0) (.slice xa n xc)) (0, 0) _ HA_w4.out Tryz.underlying34 rfl (info_coA ⟨zeros20, [], c.a, c.c, c.xs, c.m⟩ _ _ zeros_20) ?_)
    have HLT4 : Hid (p1 < w4.heap.size ∧ w.heap.size ≤ w4.heap.size) := ⟨HRS_w4.out.lt, HB_w4.out.size⟩
    refine (HOV.out w4 HB_w4.out HRT.out).mono ?_
    rintro e w5 ⟨⟨ya, yc, rfl, hrw⟩, hb⟩
    have HRW := Lib.hid hrw
    clear hrw
    have HB_w5 : Hid (Below w.heap.size w w5) := HB_w4.out.trans ((hb).mono HB_w4.out.size)
    have HA_w5 : Hid (Box w5 p0 (coA ⟨zeros20, [], c.a, c.c, c.xs, c.m⟩ (.slice none 0 0) (.slice xa n xc)) 34) := HA_w4.out.below (hb)
    have HRS_w5 : Hid (Box w5 p1 (chA czero (.slice none 0 0) (.slice none 0 0)) 40) := HRS_w4.out.below (hb)
    have HXB_w5 : Hid (Box w5 q (chA y xv (.slice none 0 0)) 40) := HXB_w4.out.below (hb)
    clear HB_w4 HA_w4 HRS_w4 HXB_w4
    clear hb
    obtain ⟨OV, hOV⟩ : ∃ y, overC c = y := ⟨_, rfl⟩
    have HOV1 : Hid (OV.xs.length = 1 ∧ OV.n = zeros20 ∧ OV.fs = []) := by rw [← hOV]; exact ⟨rfl, rfl, rfl⟩
    rw [hOV] at HRW HOR ⊢
    clear hOV
    have HO20 : Hid (OV.n.length = 20) := by rw [HOV1.out.2.1]; exact zeros_20
    go_wp2_with (first
      | refine wpList_store_row rfl 40 _ _ rfl p1 (chA OV (.slice ya 1 yc) (.slice none 0 0)) rfl rfl 40 (chA czero (.slice none 0 0) (.slice none 0 0)) HRS_w5.out (info_chA OV _ _ HO20.out) (by rw [chA_size _ _ _ czero_20, chA_size _ _ _ HO20.out]) (chA_one _ _ _ rfl rfl) ?_)
    have HFW : Hid (Rw w.heap.size (w5.setRow p1 (chA OV (.slice ya 1 yc) (.slice none 0 0))) ya OV.xs) := (HRW.out.setRow HLT4.out.1).lower HLT4.out.2
    refine bodyPost_ret (results_row_tmp Tryz.results11 _ _ p1 40 (chA OV (.slice ya 1 yc) (.slice none 0 0)) (0, 0) _ rfl (Box.setRow HRS_w5.out) Tryz.underlying40 rfl (info_chA OV _ _ HO20.out)) rfl ⟨?_, below_setRow HB_w5.out (by have := HP.out.1; have := HP.out.2; omega) _⟩
    rw [HOR.out]
    exact ⟨ya, yc, by rw [HOV1.out.1] <;> rfl, HOV1.out.2.1, HOV1.out.2.2, HFW.out⟩
  have HOR : Hid (o = some y) := by show _ = _; rw [HOS.out, hi]; rfl
  have HY : Hid (y.n = zeros20 ∧ y.fs = []) := ⟨hy1, hy2⟩
  have HY20 : Hid (y.n.length = 20) := by rw [hy1]; exact zeros_20
  have HRW_w3 : Hid (Rw w2.heap.size w3 ya y.xs) := hyr
  clear hi hy1 hy2 hyr
  obtain ⟨m, hM⟩ : ∃ m, y.xs.length = m := ⟨_, rfl⟩
  have HM := Lib.hid hM
  rw [hM]
  clear hM
  have HZ : Hid ((w3.alloc (.cells (chA czero (.slice none 0 0) (.slice none 0 0)) 40)).heap[w3.heap.size]? = some (.cells (chA czero (.slice none 0 0) (.slice none 0 0)) 40 (0, 0))) := heap_alloc_new _ _
  have HS : Hid (Below w3.heap.size w3 ((w3.alloc (.cells (chA czero (.slice none 0 0) (.slice none 0 0)) 40)).setRow w3.heap.size (chA y (.slice ya m yc) (.slice none 0 0)))) := below_setRow ((Below.refl _ _).alloc (Nat.le_refl _) _) (Nat.le_refl _) _
  have HN : Hid (Box ((w3.alloc (.cells (chA czero (.slice none 0 0) (.slice none 0 0)) 40)).setRow w3.heap.size (chA y (.slice ya m yc) (.slice none 0 0))) w3.heap.size (chA y (.slice ya m yc) (.slice none 0 0)) 40) := setRow_heap _ _ _ _ _ _ HZ.out
  go_wp2_with (first
    | (refine wpList_store_row rfl 40 _ _ rfl w3.heap.size (chA y (.slice ya m yc) (.slice none 0 0)) rfl rfl 40 (chA czero (.slice none 0 0) (.slice none 0 0)) HZ.out (info_chA y _ _ HY20.out) (by rw [chA_size _ _ _ czero_20, chA_size _ _ _ HY20.out]) (chA_one _ _ _ rfl rfl) ?_
       obtain ⟨w4, hw⟩ : ∃ X, (w3.alloc (.cells (chA czero (.slice none 0 0) (.slice none 0 0)) 40)).setRow w3.heap.size (chA y (.slice ya m yc) (.slice none 0 0)) = X := ⟨_, rfl⟩
       rw [hw] at HS HN ⊢
       obtain ⟨q, hq⟩ : ∃ q, w3.heap.size = q := ⟨_, rfl⟩
       rw [hq] at HN ⊢
       clear hw HZ
       have HB_w4 : Hid (Below w.heap.size w w4) := HB_w3.out.trans ((HS.out).mono HB_w3.out.size)
       have HA_w4 : Hid (Box w4 p0 (coA ⟨zeros20, [], c.a, c.c, c.xs, c.m⟩ (.slice none 0 0) (.slice xa n xc)) 34) := HA_w3.out.below (HS.out)
       have HRS_w4 : Hid (Box w4 p1 (chA czero (.slice none 0 0) (.slice none 0 0)) 40) := HRS_w3.out.below (HS.out)
       have HRW_w4 : Hid (Rw w2.heap.size w4 ya y.xs) := HRW_w3.out.below (HS.out)
       clear HB_w3 HA_w3 HRS_w3 HRW_w3
       have HXB_w4 : Hid (Box w4 q (chA y (.slice ya m yc) (.slice none 0 0)) 40) := HN.out
       clear HS HN hq)
    | refine wpList_load_row rfl 40 _ rfl q rfl 40 (chA y (.slice ya m yc) (.slice none 0 0)) (0, 0) _ HXB_w4.out Tryz.underlying40 rfl (info_chA y _ _ HY20.out) ?_
    | refine wpList_store_row rfl 40 _ _ rfl p1 (chA y (.slice ya m yc) (.slice none 0 0)) rfl rfl 40 (chA czero (.slice none 0 0) (.slice none 0 0)) HRS_w4.out (info_chA y _ _ HY20.out) (by rw [chA_size _ _ _ czero_20, chA_size _ _ _ HY20.out]) (chA_one _ _ _ rfl rfl) ?_)
  (try simp only [Exit.inBlock, Exit.then])
  have HFW : Hid (Rw w.heap.size (w4.setRow p1 (chA y (.slice ya m yc) (.slice none 0 0))) ya y.xs) := (HRW_w4.out.setRow HLT.out.1).lower HLT.out.2
  refine bodyPost_ret (results_row_tmp Tryz.results11 _ _ p1 40 (chA y (.slice ya m yc) (.slice none 0 0)) (0, 0) _ rfl (Box.setRow HRS_w4.out) Tryz.underlying40 rfl (info_chA y _ _ HY20.out)) rfl ⟨?_, below_setRow HB_w4.out (by have := HP.out.1; have := HP.out.2; omega) _⟩
  rw [HOR.out]
  exact ⟨ya, yc, by rw [HM.out] <;> rfl, HY.out.1, HY.out.2, HFW.out⟩
set_option maxRecDepth 100000 in
set_option maxHeartbeats 32000000 in
theorem commit_step (f : Nat) (ih : IHC f) : IHX (f + 1) := fun x xa xc pv w h20 hpv hx hs hz hE => by
  have HE := Lib.hid hE
  have HX := Lib.hid hx
  have H20 : Hid (x.n.length = 20) := h20
  have HPV := Lib.hid hpv
  have HIN := Lib.hid (fun W (hW : Below w.heap.size w W) => commitin_any f ih x xa xc W (hx.below hW) hs hz (hE.below hW))
  have HOV := Lib.hid (fun W (hW : Below w.heap.size w W) => (show Calls Tryz.prog 37 #[.agg (chA ⟨zeros20, x.u, x.t, x.z, x.xs, [], x.d⟩ (.slice xa (⟨zeros20, x.u, x.t, x.z, x.xs, [], x.d⟩ : CX).xs.length xc) (.slice none 0 0))] W fun e w' => (∃ ya yc, e = .returned (.agg (coA (overX x) (.slice none 0 0) (.slice ya 1 yc))) ∧ Rw W.heap.size w' ya (overX x).xs) ∧ Below W.heap.size W w' from commitover_any ⟨zeros20, x.u, x.t, x.z, x.xs, [], x.d⟩ xa xc (.slice none 0 0) W zeros_20 (hx.below hW) hs.1 (hE.below hW)))
  have HPR := Lib.hid (fun W (hW : Below w.heap.size w W) => chprint_any ⟨zeros20, x.u, x.t, x.z, x.xs, [], x.d⟩ xa xc none 0 W ⟨zeros_20, zeros_ok.2, hx.below hW, .inl rfl, fun _ => ⟨rfl, rfl⟩⟩ hs.1 (hE.below hW))
  obtain ⟨o, ho⟩ : ∃ o, stepX (both f).1 x = o := ⟨_, rfl⟩
  show Calls Tryz.prog 19 _ w fun e w' => CRes w.heap.size e w' (stepX (both f).1 x) ∧ _
  rw [ho]
  have HO := Lib.hid ho
  obtain ⟨n, hN⟩ : ∃ n, x.xs.length = n := ⟨_, rfl⟩
  have HPR2 : Hid (∀ W, Below w.heap.size w W → Calls Tryz.prog 35 #[.agg (chA ⟨zeros20, x.u, x.t, x.z, x.xs, [], x.d⟩ (.slice xa n xc) (.slice none 0 0))] W fun e w' => ChPrint e w' ⟨zeros20, x.u, x.t, x.z, x.xs, [], x.d⟩ ∧ Below W.heap.size W w') := fun W hW => by
    have h := HPR.out W hW
    unfold chV at h
    rwa [show (⟨zeros20, x.u, x.t, x.z, x.xs, [], x.d⟩ : CX).xs.length = n from hN] at h
  rw [hN] at HIN ⊢
  rw [show (⟨zeros20, x.u, x.t, x.z, x.xs, [], x.d⟩ : CX).xs.length = n from hN] at HOV
  have hzc := zero_ch
  have hzo := zero_co
  clear hN ho hx hs hz hE hpv h20 HPR ih
  have HB_0 : Hid (Below w.heap.size w ((w.alloc (.cells (chA x (.slice xa n xc) pv) 40)).alloc (.cells (coA cz (.slice none 0 0) (.slice none 0 0)) 34))) := ((Below.refl _ _).alloc (Nat.le_refl _) _).alloc (by simp) _
  have HA_0 : Hid (Box ((w.alloc (.cells (chA x (.slice xa n xc) pv) 40)).alloc (.cells (coA cz (.slice none 0 0) (.slice none 0 0)) 34)) w.heap.size (chA x (.slice xa n xc) pv) 40) := (Box.new _ _ _).alloc _
  have HRS_0 : Hid (Box ((w.alloc (.cells (chA x (.slice xa n xc) pv) 40)).alloc (.cells (coA cz (.slice none 0 0) (.slice none 0 0)) 34)) (w.heap.size + 1) (coA cz (.slice none 0 0) (.slice none 0 0)) 34) := by
    have h := Box.new (w.alloc (.cells (chA x (.slice xa n xc) pv) 40)) (coA cz (.slice none 0 0) (.slice none 0 0)) 34
    rwa [show (w.alloc (.cells (chA x (.slice xa n xc) pv) 40)).heap.size = w.heap.size + 1 by simp] at h
  go_enter Tryz.func19, Tryz.ntmps19
  go_wp2_with ((with_reducible refine (show wpList _ _ _ (⟨some 8, _, _, _, _, _⟩ :: _) _ _ from ?_)); refine Hid.out ?_)
  refine unhid ?_
  obtain ⟨w0, hw0⟩ : ∃ X, (w.alloc (.cells (chA x (.slice xa n xc) pv) 40)).alloc (.cells (coA cz (.slice none 0 0) (.slice none 0 0)) 34) = X := ⟨_, rfl⟩
  rw [hw0] at HB_0 HA_0 HRS_0 ⊢
  obtain ⟨p0, hp0⟩ : ∃ p, w.heap.size = p := ⟨_, rfl⟩
  obtain ⟨p1, hp1⟩ : ∃ p, p0 + 1 = p := ⟨_, rfl⟩
  rw [hp0] at HA_0 HRS_0
  rw [hp1] at HRS_0
  simp only [hp0, hp1]
  have HP : Hid (w.heap.size = p0 ∧ p0 + 1 = p1) := ⟨hp0, hp1⟩
  have HB_w0 : Hid (Below w.heap.size w w0) := HB_0.out
  have HA_w0 := HA_0
  have HRS_w0 := HRS_0
  clear hw0 hp0 hp1 HB_0 HA_0 HRS_0
  obtain ⟨ZI, hZI⟩ : ∃ z, V8 zeros20 = z := ⟨_, rfl⟩
  have HBI : Hid (∀ W, (Instr.build 29 #[]).run Tryz.prog W = .ok (.agg ZI) W) := fun W => by rw [← hZI]; exact build_id0 W
  have HZ1 : Hid ((Tryz.prog.info? 29).map (·.size) = some ZI.size ∧ ZI.all (·.oneCell') = true) := by rw [← hZI]; exact ⟨id_infoV, V8_one _⟩
  have htree := chA_tree x (.slice xa n xc) pv H20.out
  rw [hZI] at htree
  have HTR := Lib.hid htree
  clear htree
  have HTH : Hid (w0.there p0 0 (V8 zeros20).size) := HA_w0.out.there 0 (by rw [V8_size, zeros_20, chA_size _ _ _ H20.out]; decide)
  rw [hZI] at HTH
  clear hZI
  have HB1_X : Hid (Below w.heap.size w (w0.setCells p0 0 ZI.toList)) := below_setCells p0 (Nat.le_of_eq HP.out.1) _ _ _ HB_w0.out
  have HA1_X : Hid (Box (w0.setCells p0 0 ZI.toList) p0 (chA ⟨zeros20, x.u, x.t, x.z, x.xs, x.fs, x.d⟩ (.slice xa n xc) pv) 40) := HA_w0.out.setCells HTR.out
  have HRS1_X : Hid (Box (w0.setCells p0 0 ZI.toList) p1 (coA cz (.slice none 0 0) (.slice none 0 0)) 34) := HRS_w0.out.setCells_ne (by have := HP.out.2; omega)
  have HB2_X : Hid (Below w.heap.size w ((w0.setCells p0 0 ZI.toList).setCell ⟨p0, 24, none⟩ (.slice none 0 0))) := HB1_X.out.setCell (p := ⟨p0, 24, none⟩) (Nat.le_of_eq HP.out.1) _
  have HA2_X : Hid (Box ((w0.setCells p0 0 ZI.toList).setCell ⟨p0, 24, none⟩ (.slice none 0 0)) p0 (chA ⟨zeros20, x.u, x.t, x.z, x.xs, [], x.d⟩ (.slice xa n xc) (.slice none 0 0)) 40) := HA1_X.out.setCell (chA_set ⟨zeros20, x.u, x.t, x.z, x.xs, x.fs, x.d⟩ _ _ zeros_20 4 _ _ rfl)
  have HRS2_X : Hid (Box ((w0.setCells p0 0 ZI.toList).setCell ⟨p0, 24, none⟩ (.slice none 0 0)) p1 (coA cz (.slice none 0 0) (.slice none 0 0)) 34) := HRS1_X.out.setCell_ne (by have := HP.out.2; omega)
  clear HB_w0 HA_w0 HRS_w0
  refine wpList_buildQ rfl 29 #[] rfl #[] (by simp) _ HBI.out ?_
  go_wp2_with (first
    | (refine wpList_store_mid rfl 29 _ _ rfl p0 0 ZI rfl rfl HTH.out HZ1.out.1 HZ1.out.2 ?_
       have hpp := (HA1_X.out.ch zeros_20).fs
       have hfo := frozen_of_row _ p0 24 _ _ HA1_X.out
       obtain ⟨wm, hwm⟩ : ∃ X, (w0.setCells p0 0 ZI.toList) = X := ⟨_, rfl⟩
       rw [hwm] at HB1_X HA1_X HRS1_X HB2_X HA2_X HRS2_X hpp hfo ⊢
       clear hwm)
    | refine wpList_load_row rfl 40 _ rfl p0 rfl 40 (chA ⟨zeros20, x.u, x.t, x.z, x.xs, [], x.d⟩ (.slice xa n xc) (.slice none 0 0)) (0, 0) _ HA2_X.out Tryz.underlying40 rfl (info_chA ⟨zeros20, x.u, x.t, x.z, x.xs, [], x.d⟩ _ _ zeros_20) ?_)
  obtain ⟨w1, hw⟩ : ∃ X, (wm.setCell ⟨p0, 24, none⟩ (.slice none 0 0)) = X := ⟨_, rfl⟩
  rw [hw] at HB2_X HA2_X HRS2_X ⊢
  have HB_w1 := HB2_X
  have HA_w1 := HA2_X
  have HRS_w1 := HRS2_X
  clear hw hpp hfo HB1_X HA1_X HRS1_X HB2_X HA2_X HRS2_X HTH
  refine (HPR2.out w1 HB_w1.out).mono ?_
  rintro e w2 ⟨hpr, hb⟩
  have HB_w2 : Hid (Below w.heap.size w w2) := HB_w1.out.trans ((hb).mono HB_w1.out.size)
  have HA_w2 : Hid (Box w2 p0 (chA ⟨zeros20, x.u, x.t, x.z, x.xs, [], x.d⟩ (.slice xa n xc) (.slice none 0 0)) 40) := HA_w1.out.below (hb)
  have HRS_w2 : Hid (Box w2 p1 (coA cz (.slice none 0 0) (.slice none 0 0)) 34) := HRS_w1.out.below (hb)
  clear HB_w1 HA_w1 HRS_w1
  clear hb
  rcases hpr with ⟨hrt, a, cap, rfl, -⟩ | ⟨hrt, rfl⟩
  rotate_left
  · have HNO : Hid (o = none) := by show _ = _; rw [← HO.out]; unfold stepX; rw [if_neg (by rw [show rightC (ownX x) = false from hrt]; simp)]
    clear hrt
    go_wp2_with (first
      | refine wpList_buildQ rfl 34 _ rfl #[] (by rfl) _ build_co0 ?_
      | refine wpList_store_row rfl 34 _ _ rfl p1 (coA cz (.slice none 0 0) (.slice none 0 0)) rfl rfl 34 (coA cz (.slice none 0 0) (.slice none 0 0)) HRS_w2.out (info_coA cz _ _ cz_20) rfl (coA_one _ _ _ rfl rfl) ?_)
    refine bodyPost_ret (results_row_tmp Tryz.results19 _ _ p1 34 (coA cz (.slice none 0 0) (.slice none 0 0)) (0, 0) _ rfl (Box.setRow HRS_w2.out) Tryz.underlying34 rfl (info_coA cz _ _ cz_20)) rfl ⟨by rw [HNO.out] <;> rfl, below_setRow HB_w2.out (by have := HP.out.1; have := HP.out.2; omega) _⟩
  have HRT := Lib.hid hrt
  have HOS : Hid (o = some ((inX (both f).1 x).getD (overX x))) := by show _ = _; rw [← HO.out]; unfold stepX; rw [if_pos (show rightC (ownX x) = true from hrt)]
  clear hrt
  have HLT : Hid (p1 < w2.heap.size ∧ w.heap.size ≤ w2.heap.size) := ⟨HRS_w2.out.lt, HB_w2.out.size⟩
  go_wp2_with (first
    | refine wpList_load_row rfl 40 _ rfl p0 rfl 40 (chA ⟨zeros20, x.u, x.t, x.z, x.xs, [], x.d⟩ (.slice xa n xc) (.slice none 0 0)) (0, 0) _ HA_w2.out Tryz.underlying40 rfl (info_chA ⟨zeros20, x.u, x.t, x.z, x.xs, [], x.d⟩ _ _ zeros_20) ?_)
  refine (HIN.out w2 HB_w2.out).mono ?_
  rintro e w3 ⟨hin, hb⟩
  have HB_w3 : Hid (Below w.heap.size w w3) := HB_w2.out.trans ((hb).mono HB_w2.out.size)
  have HA_w3 : Hid (Box w3 p0 (chA ⟨zeros20, x.u, x.t, x.z, x.xs, [], x.d⟩ (.slice xa n xc) (.slice none 0 0)) 40) := HA_w2.out.below (hb)
  have HRS_w3 : Hid (Box w3 p1 (coA cz (.slice none 0 0) (.slice none 0 0)) 34) := HRS_w2.out.below (hb)
  clear HB_w2 HA_w2 HRS_w2
  clear hb
  rcases hin with ⟨y, pp, pq, ya, yc, hi, rfl, hy1, hy2, hyr⟩ | ⟨hi, y, pv2, xv, rfl, hy20, hyp, hyo⟩
  rotate_left
  · have HOR : Hid (o = some (overX x)) := by show _ = _; rw [HOS.out, hi]; rfl
    have HY20 := Lib.hid hy20
    have HYO := Lib.hid hyo
    clear hi hy20 hyo
    have HYP := Lib.hid hyp
    clear hyp
    have HZ : Hid ((w3.alloc (.cells (coA cz (.slice none 0 0) (.slice none 0 0)) 34)).heap[w3.heap.size]? = some (.cells (coA cz (.slice none 0 0) (.slice none 0 0)) 34 (0, 0))) := heap_alloc_new _ _
    have HS : Hid (Below w3.heap.size w3 ((w3.alloc (.cells (coA cz (.slice none 0 0) (.slice none 0 0)) 34)).setRow w3.heap.size (coA y pv2 xv))) := below_setRow ((Below.refl _ _).alloc (Nat.le_refl _) _) (Nat.le_refl _) _
    have HN : Hid (Box ((w3.alloc (.cells (coA cz (.slice none 0 0) (.slice none 0 0)) 34)).setRow w3.heap.size (coA y pv2 xv)) w3.heap.size (coA y pv2 xv) 34) := setRow_heap _ _ _ _ _ _ HZ.out
    go_wp2_with (first
      | (refine wpList_store_row rfl 34 _ _ rfl w3.heap.size (coA y pv2 xv) rfl rfl 34 (coA cz (.slice none 0 0) (.slice none 0 0)) HZ.out (info_coA y _ _ HY20.out) (by rw [coA_size _ _ _ cz_20, coA_size _ _ _ HY20.out]) (coA_one _ _ _ HYP.out HYO.out) ?_
         obtain ⟨w4, hw⟩ : ∃ X, (w3.alloc (.cells (coA cz (.slice none 0 0) (.slice none 0 0)) 34)).setRow w3.heap.size (coA y pv2 xv) = X := ⟨_, rfl⟩
         rw [hw] at HS HN ⊢
         obtain ⟨q, hq⟩ : ∃ q, w3.heap.size = q := ⟨_, rfl⟩
         rw [hq] at HN ⊢
         clear hw HZ
         have HB_w4 : Hid (Below w.heap.size w w4) := HB_w3.out.trans ((HS.out).mono HB_w3.out.size)
         have HA_w4 : Hid (Box w4 p0 (chA ⟨zeros20, x.u, x.t, x.z, x.xs, [], x.d⟩ (.slice xa n xc) (.slice none 0 0)) 40) := HA_w3.out.below (HS.out)
         have HRS_w4 : Hid (Box w4 p1 (coA cz (.slice none 0 0) (.slice none 0 0)) 34) := HRS_w3.out.below (HS.out)
         clear HB_w3 HA_w3 HRS_w3
         have HXB_w4 : Hid (Box w4 q (coA y pv2 xv) 34) := HN.out
         clear HS HN hq)
      | refine wpList_load_row rfl 40 _ rfl p0 rfl 40 (chA ⟨zeros20, x.u, x.t, x.z, x.xs, [], x.d⟩ (.slice xa n xc) (.slice none 0 0)) (0, 0) _ HA_w4.out Tryz.underlying40 rfl (info_chA ⟨zeros20, x.u, x.t, x.z, x.xs, [], x.d⟩ _ _ zeros_20) ?_)
    have HLT4 : Hid (p1 < w4.heap.size ∧ w.heap.size ≤ w4.heap.size) := ⟨HRS_w4.out.lt, HB_w4.out.size⟩
    refine (HOV.out w4 HB_w4.out).mono ?_
    rintro e w5 ⟨⟨ya, yc, rfl, hrw⟩, hb⟩
    have HRW := Lib.hid hrw
    clear hrw
    have HB_w5 : Hid (Below w.heap.size w w5) := HB_w4.out.trans ((hb).mono HB_w4.out.size)
    have HA_w5 : Hid (Box w5 p0 (chA ⟨zeros20, x.u, x.t, x.z, x.xs, [], x.d⟩ (.slice xa n xc) (.slice none 0 0)) 40) := HA_w4.out.below (hb)
    have HRS_w5 : Hid (Box w5 p1 (coA cz (.slice none 0 0) (.slice none 0 0)) 34) := HRS_w4.out.below (hb)
    have HXB_w5 : Hid (Box w5 q (coA y pv2 xv) 34) := HXB_w4.out.below (hb)
    clear HB_w4 HA_w4 HRS_w4 HXB_w4
    clear hb
    obtain ⟨OV, hOV⟩ : ∃ y, overX x = y := ⟨_, rfl⟩
    have HOV1 : Hid (OV.xs.length = 1 ∧ OV.tr = zeros20 ∧ OV.ps = []) := by rw [← hOV]; exact ⟨rfl, rfl, rfl⟩
    rw [hOV] at HRW HOR ⊢
    clear hOV
    have HO20 : Hid (OV.tr.length = 20) := by rw [HOV1.out.2.1]; exact zeros_20
    go_wp2_with (first
      | refine wpList_store_row rfl 34 _ _ rfl p1 (coA OV (.slice none 0 0) (.slice ya 1 yc)) rfl rfl 34 (coA cz (.slice none 0 0) (.slice none 0 0)) HRS_w5.out (info_coA OV _ _ HO20.out) (by rw [coA_size _ _ _ cz_20, coA_size _ _ _ HO20.out]) (coA_one _ _ _ rfl rfl) ?_)
    have HFW : Hid (Rw w.heap.size (w5.setRow p1 (coA OV (.slice none 0 0) (.slice ya 1 yc))) ya OV.xs) := (HRW.out.setRow HLT4.out.1).lower HLT4.out.2
    refine bodyPost_ret (results_row_tmp Tryz.results19 _ _ p1 34 (coA OV (.slice none 0 0) (.slice ya 1 yc)) (0, 0) _ rfl (Box.setRow HRS_w5.out) Tryz.underlying34 rfl (info_coA OV _ _ HO20.out)) rfl ⟨?_, below_setRow HB_w5.out (by have := HP.out.1; have := HP.out.2; omega) _⟩
    rw [HOR.out]
    exact ⟨none, 0, ya, yc, by rw [HOV1.out.1] <;> rfl, HOV1.out.2.1, HOV1.out.2.2, HFW.out⟩
  have HOR : Hid (o = some y) := by show _ = _; rw [HOS.out, hi]; rfl
  have HY : Hid (y.tr = zeros20 ∧ y.ps = []) := ⟨hy1, hy2⟩
  have HY20 : Hid (y.tr.length = 20) := by rw [hy1]; exact zeros_20
  have HRW_w3 : Hid (Rw w2.heap.size w3 ya y.xs) := hyr
  clear hi hy1 hy2 hyr
  obtain ⟨m, hM⟩ : ∃ m, y.xs.length = m := ⟨_, rfl⟩
  have HM := Lib.hid hM
  rw [hM]
  clear hM
  have HZ : Hid ((w3.alloc (.cells (coA cz (.slice none 0 0) (.slice none 0 0)) 34)).heap[w3.heap.size]? = some (.cells (coA cz (.slice none 0 0) (.slice none 0 0)) 34 (0, 0))) := heap_alloc_new _ _
  have HS : Hid (Below w3.heap.size w3 ((w3.alloc (.cells (coA cz (.slice none 0 0) (.slice none 0 0)) 34)).setRow w3.heap.size (coA y (.slice pp 0 pq) (.slice ya m yc)))) := below_setRow ((Below.refl _ _).alloc (Nat.le_refl _) _) (Nat.le_refl _) _
  have HN : Hid (Box ((w3.alloc (.cells (coA cz (.slice none 0 0) (.slice none 0 0)) 34)).setRow w3.heap.size (coA y (.slice pp 0 pq) (.slice ya m yc))) w3.heap.size (coA y (.slice pp 0 pq) (.slice ya m yc)) 34) := setRow_heap _ _ _ _ _ _ HZ.out
  go_wp2_with (first
    | (refine wpList_store_row rfl 34 _ _ rfl w3.heap.size (coA y (.slice pp 0 pq) (.slice ya m yc)) rfl rfl 34 (coA cz (.slice none 0 0) (.slice none 0 0)) HZ.out (info_coA y _ _ HY20.out) (by rw [coA_size _ _ _ cz_20, coA_size _ _ _ HY20.out]) (coA_one _ _ _ rfl rfl) ?_
       obtain ⟨w4, hw⟩ : ∃ X, (w3.alloc (.cells (coA cz (.slice none 0 0) (.slice none 0 0)) 34)).setRow w3.heap.size (coA y (.slice pp 0 pq) (.slice ya m yc)) = X := ⟨_, rfl⟩
       rw [hw] at HS HN ⊢
       obtain ⟨q, hq⟩ : ∃ q, w3.heap.size = q := ⟨_, rfl⟩
       rw [hq] at HN ⊢
       clear hw HZ
       have HB_w4 : Hid (Below w.heap.size w w4) := HB_w3.out.trans ((HS.out).mono HB_w3.out.size)
       have HA_w4 : Hid (Box w4 p0 (chA ⟨zeros20, x.u, x.t, x.z, x.xs, [], x.d⟩ (.slice xa n xc) (.slice none 0 0)) 40) := HA_w3.out.below (HS.out)
       have HRS_w4 : Hid (Box w4 p1 (coA cz (.slice none 0 0) (.slice none 0 0)) 34) := HRS_w3.out.below (HS.out)
       have HRW_w4 : Hid (Rw w2.heap.size w4 ya y.xs) := HRW_w3.out.below (HS.out)
       clear HB_w3 HA_w3 HRS_w3 HRW_w3
       have HXB_w4 : Hid (Box w4 q (coA y (.slice pp 0 pq) (.slice ya m yc)) 34) := HN.out
       clear HS HN hq)
    | refine wpList_load_row rfl 34 _ rfl q rfl 34 (coA y (.slice pp 0 pq) (.slice ya m yc)) (0, 0) _ HXB_w4.out Tryz.underlying34 rfl (info_coA y _ _ HY20.out) ?_
    | refine wpList_store_row rfl 34 _ _ rfl p1 (coA y (.slice pp 0 pq) (.slice ya m yc)) rfl rfl 34 (coA cz (.slice none 0 0) (.slice none 0 0)) HRS_w4.out (info_coA y _ _ HY20.out) (by rw [coA_size _ _ _ cz_20, coA_size _ _ _ HY20.out]) (coA_one _ _ _ rfl rfl) ?_)
  (try simp only [Exit.inBlock, Exit.then])
  have HFW : Hid (Rw w.heap.size (w4.setRow p1 (coA y (.slice pp 0 pq) (.slice ya m yc))) ya y.xs) := (HRW_w4.out.setRow HLT.out.1).lower HLT.out.2
  refine bodyPost_ret (results_row_tmp Tryz.results19 _ _ p1 34 (coA y (.slice pp 0 pq) (.slice ya m yc)) (0, 0) _ rfl (Box.setRow HRS_w4.out) Tryz.underlying34 rfl (info_coA y _ _ HY20.out)) rfl ⟨?_, below_setRow HB_w4.out (by have := HP.out.1; have := HP.out.2; omega) _⟩
  rw [HOR.out]
  exact ⟨pp, pq, ya, yc, by rw [HM.out] <;> rfl, HY.out.1, HY.out.2, HFW.out⟩
theorem both_any : ∀ f : Nat, IHC f ∧ IHX f
  | 0 => ⟨fun c xa xc pv w h1 h2 h3 h4 h5 _ => absurd h5 (Nat.not_lt_zero _), fun x xa xc fv w h1 h2 h3 h4 h5 _ => absurd h5 (Nat.not_lt_zero _)⟩
  | f + 1 => ⟨change_step f (both_any f).2, commit_step f (both_any f).1⟩
theorem change_any (c : CC) (xa : Option Addr) (xc : Nat) (pv : Value) (w : World) (h20 : c.tr.length = 20) (hpv : pv.oneCell' = true) (hx : RowAt 2 extE w xa c.xs) (hs : TC c) (hE : EnvC w) :
    Calls Tryz.prog 11 #[.agg (coA c pv (.slice xa c.xs.length xc))] w fun e w' => XRes w.heap.size e w' (chY c) ∧ Below w.heap.size w w' := (both_any (szE c.xs + 1)).1 c xa xc pv w h20 hpv hx hs (Nat.lt_succ_self _) hE
theorem commit_any (x : CX) (xa : Option Addr) (xc : Nat) (fv : Value) (w : World) (h20 : x.n.length = 20) (hfv : fv.oneCell' = true) (hx : RowAt 2 extE w xa x.xs) (hs : TX x) (hE : EnvC w) :
    Calls Tryz.prog 19 #[.agg (chA x (.slice xa x.xs.length xc) fv)] w fun e w' => CRes w.heap.size e w' (coY x) ∧ Below w.heap.size w w' := (both_any (szE x.xs + 1)).2 x xa xc fv w h20 hfv hx hs (Nat.lt_succ_self _) hE
end Go.Proofs.YtkpiinjhcckhfaaGreatDoor
