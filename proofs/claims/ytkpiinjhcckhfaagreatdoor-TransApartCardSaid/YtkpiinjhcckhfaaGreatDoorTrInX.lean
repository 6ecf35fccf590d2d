/- trans.commitIn: the walk. -/
import Derived.Test.YtkpiinjhcckhfaaGreatDoorTrSize
namespace Go.Proofs.YtkpiinjhcckhfaaGreatDoor
open Go.RowKit Plain Go.ChangeShapes Go.WideShapes Go.ChangeAt Go.Great
set_option linter.unusedVariables false
set_option linter.unusedSimpArgs false
set_option maxRecDepth 100000 in
set_option maxHeartbeats 32000000 in
theorem commitin_any (f : Nat) (ih : IHC f) (x : CX) (xa : Option Addr) (xc : Nat) (w : World) (hx : RowAt 2 extE w xa x.xs) (hs : TX x) (hz : szE x.xs < f + 1) (hE : EnvC w) :
    Calls Tryz.prog 36 #[.agg (chA ⟨zeros20, x.u, x.t, x.z, x.xs, [], x.d⟩ (.slice xa x.xs.length xc) (.slice none 0 0))] w fun e w' => InX w.heap.size e w' (inX (both f).1 x) ∧ Below w.heap.size w w' := by
  have HE := Lib.hid hE
  have HX := Lib.hid hx
  have HTC := Lib.hid hs
  have IH := Lib.hid ih
  have HSZ := Lib.hid hz
  have hzc := zero_ch
  have hzo := zero_co
  clear hx hs hE hz ih
  obtain ⟨o, ho⟩ : ∃ o, inX (both f).1 x = o := ⟨_, rfl⟩
  rw [ho]
  have HO := Lib.hid ho
  clear ho
  by_cases h1 : x.xs.length = 1
  rotate_left
  · have HNO : Hid (o = none) := by
      show _ = _
      rw [← HO.out]
      unfold inX
      split
      · rename_i e he; rw [he] at h1; exact absurd rfl h1
      · rfl
    obtain ⟨n, hN⟩ : ∃ n, x.xs.length = n := ⟨_, rfl⟩
    rw [hN] at h1 ⊢
    have g1 : ¬ (n : Int) = 1 := by omega
    have g2 : ((n : Int) != 1) = true := bne_iff_ne.2 g1
    clear hN h1
    have HB_0 : Hid (Below w.heap.size w ((w.alloc (.cells (chA ⟨zeros20, x.u, x.t, x.z, x.xs, [], x.d⟩ (.slice xa n xc) (.slice none 0 0)) 40)).alloc (.cells (coA cz (.slice none 0 0) (.slice none 0 0)) 34))) := ((Below.refl _ _).alloc (Nat.le_refl _) _).alloc (by simp) _
    have HA_0 : Hid (Box ((w.alloc (.cells (chA ⟨zeros20, x.u, x.t, x.z, x.xs, [], x.d⟩ (.slice xa n xc) (.slice none 0 0)) 40)).alloc (.cells (coA cz (.slice none 0 0) (.slice none 0 0)) 34)) w.heap.size (chA ⟨zeros20, x.u, x.t, x.z, x.xs, [], x.d⟩ (.slice xa n xc) (.slice none 0 0)) 40) := (Box.new _ _ _).alloc _
    have HRS_0 : Hid (Box ((w.alloc (.cells (chA ⟨zeros20, x.u, x.t, x.z, x.xs, [], x.d⟩ (.slice xa n xc) (.slice none 0 0)) 40)).alloc (.cells (coA cz (.slice none 0 0) (.slice none 0 0)) 34)) (w.heap.size + 1) (coA cz (.slice none 0 0) (.slice none 0 0)) 34) := by
      have h := Box.new (w.alloc (.cells (chA ⟨zeros20, x.u, x.t, x.z, x.xs, [], x.d⟩ (.slice xa n xc) (.slice none 0 0)) 40)) (coA cz (.slice none 0 0) (.slice none 0 0)) 34
      rwa [show (w.alloc (.cells (chA ⟨zeros20, x.u, x.t, x.z, x.xs, [], x.d⟩ (.slice xa n xc) (.slice none 0 0)) 40)).heap.size = w.heap.size + 1 by simp] at h
    go_enter Tryz.func36, Tryz.ntmps36
    go_wp2_with ((with_reducible refine (show wpList _ _ _ (⟨some 7, _, _, _, _, _⟩ :: _) _ _ from ?_)); refine Hid.out ?_)
    refine unhid ?_
    obtain ⟨w0, hw0⟩ : ∃ X, (w.alloc (.cells (chA ⟨zeros20, x.u, x.t, x.z, x.xs, [], x.d⟩ (.slice xa n xc) (.slice none 0 0)) 40)).alloc (.cells (coA cz (.slice none 0 0) (.slice none 0 0)) 34) = X := ⟨_, rfl⟩
    rw [hw0] at HB_0 HA_0 HRS_0 ⊢
    obtain ⟨p0, hp0⟩ : ∃ p, w.heap.size = p := ⟨_, rfl⟩
    obtain ⟨p1, hp1⟩ : ∃ p, p0 + 1 = p := ⟨_, rfl⟩
    rw [hp0] at HA_0 HRS_0
    rw [hp1] at HRS_0
    simp only [hp0, hp1]
    have HP : Hid (w.heap.size = p0 ∧ p0 + 1 = p1) := ⟨hp0, hp1⟩
    have HB_w0 : Hid (Below w.heap.size w w0) := HB_0.out
    have HA_w0 := HA_0
    have HRS_w0 := HRS_0
    clear hw0 hp0 hp1 HB_0 HA_0 HRS_0
    have hcx := (HA_w0.out.ch zeros_20).xs
    go_wp2_with (first
      | refine wpList_buildQ rfl 34 _ rfl #[] (by rfl) _ build_co0 ?_
      | refine wpList_store_row rfl 34 _ _ rfl p1 (coA cz (.slice none 0 0) (.slice none 0 0)) rfl rfl 34 (coA cz (.slice none 0 0) (.slice none 0 0)) HRS_w0.out (info_coA cz _ _ cz_20) rfl (coA_one _ _ _ rfl rfl) ?_)
    refine bodyPost_ret (results_row_tmp Tryz.results36 _ _ p1 34 (coA cz (.slice none 0 0) (.slice none 0 0)) (0, 0) _ rfl (Box.setRow HRS_w0.out) Tryz.underlying34 rfl (info_coA cz _ _ cz_20)) rfl ⟨.inr ⟨HNO.out, cz, (.slice none 0 0), (.slice none 0 0), rfl, cz_20, rfl, rfl⟩, below_setRow HB_w0.out (by have := HP.out.1; have := HP.out.2; omega) _⟩
  obtain ⟨⟨K, V⟩, he⟩ : ∃ e, x.xs = [e] := by
    match hc : x.xs, h1 with
    | [e], _ => exact ⟨e, rfl⟩
  obtain ⟨L, rfl⟩ : ∃ L, V = txt L := ⟨V.data.toList, (txt_of _).symm⟩
  have HL : Hid (L.length ≤ 15000) := by have := HTC.out.2.1 (K, txt L) (by rw [he]; simp); rw [txt_list] at this; exact this
  have HSL : Hid (szE x.xs = L.length) := by show _ = _; rw [he, szE_one, txt_list]
  have HEX := Lib.hid he
  obtain ⟨b, off, rfl, HBL, HRX⟩ : ∃ b off, xa = some ⟨b, off, none⟩ ∧ Hid (b < w.heap.size) ∧ Hid (w.rangeAt b off (extE (K, txt L))) := by
    rcases HX.out with h0 | ⟨b, off, e, hl, hc⟩
    · rw [h1] at h0; cases h0
    · have := hc 0 (K, txt L) (by rw [he]; rfl)
      rw [show off + 0 * 2 = off by omega] at this
      exact ⟨b, off, e, hl, this⟩
  have HX1 : Hid (RowAt 2 extE w (some ⟨b, off, none⟩) [(K, txt L)]) := by rw [← HEX.out]; exact HX.out
  have HCD : Hid ((ownX x) = ⟨zeros20, x.u, x.t, x.z, [(K, txt L)], [], x.d⟩) := by show _ = _; unfold ownX; rw [HEX.out]
  rw [h1]
  have HDD : Hid ((⟨zeros20, x.u, x.t, x.z, x.xs, [], x.d⟩ : CX) = ⟨zeros20, x.u, x.t, x.z, [(K, txt L)], [], x.d⟩) := HCD.out
  rw [HDD.out]
  clear he h1 HDD HX
  by_cases hk : K = ⟨#[103, 105, 116]⟩
  rotate_left
  · have HNO : Hid (o = none) := by
      show _ = _
      rw [← HO.out]
      unfold inX
      rw [HEX.out]
      dsimp only
      rw [if_neg fun h => hk (bytes_ext (by rw [h]))]
    have HKN : Hid (∀ W, (binOp .neq 9 (.string K) (.string ⟨#[103, 105, 116]⟩)).run Tryz.prog W = .ok (.bool true) W) := fun W => by rw [neq_strs, decide_eq_false hk]; rfl
    clear hk
    have HB_0 : Hid (Below w.heap.size w ((w.alloc (.cells (chA ⟨zeros20, x.u, x.t, x.z, [(K, txt L)], [], x.d⟩ (.slice (some ⟨b, off, none⟩) 1 xc) (.slice none 0 0)) 40)).alloc (.cells (coA cz (.slice none 0 0) (.slice none 0 0)) 34))) := ((Below.refl _ _).alloc (Nat.le_refl _) _).alloc (by simp) _
    have HA_0 : Hid (Box ((w.alloc (.cells (chA ⟨zeros20, x.u, x.t, x.z, [(K, txt L)], [], x.d⟩ (.slice (some ⟨b, off, none⟩) 1 xc) (.slice none 0 0)) 40)).alloc (.cells (coA cz (.slice none 0 0) (.slice none 0 0)) 34)) w.heap.size (chA ⟨zeros20, x.u, x.t, x.z, [(K, txt L)], [], x.d⟩ (.slice (some ⟨b, off, none⟩) 1 xc) (.slice none 0 0)) 40) := (Box.new _ _ _).alloc _
    have HRS_0 : Hid (Box ((w.alloc (.cells (chA ⟨zeros20, x.u, x.t, x.z, [(K, txt L)], [], x.d⟩ (.slice (some ⟨b, off, none⟩) 1 xc) (.slice none 0 0)) 40)).alloc (.cells (coA cz (.slice none 0 0) (.slice none 0 0)) 34)) (w.heap.size + 1) (coA cz (.slice none 0 0) (.slice none 0 0)) 34) := by
      have h := Box.new (w.alloc (.cells (chA ⟨zeros20, x.u, x.t, x.z, [(K, txt L)], [], x.d⟩ (.slice (some ⟨b, off, none⟩) 1 xc) (.slice none 0 0)) 40)) (coA cz (.slice none 0 0) (.slice none 0 0)) 34
      rwa [show (w.alloc (.cells (chA ⟨zeros20, x.u, x.t, x.z, [(K, txt L)], [], x.d⟩ (.slice (some ⟨b, off, none⟩) 1 xc) (.slice none 0 0)) 40)).heap.size = w.heap.size + 1 by simp] at h
    go_enter Tryz.func36, Tryz.ntmps36
    go_wp2_with ((with_reducible refine (show wpList _ _ _ (⟨some 7, _, _, _, _, _⟩ :: _) _ _ from ?_)); refine Hid.out ?_)
    refine unhid ?_
    obtain ⟨w0, hw0⟩ : ∃ X, (w.alloc (.cells (chA ⟨zeros20, x.u, x.t, x.z, [(K, txt L)], [], x.d⟩ (.slice (some ⟨b, off, none⟩) 1 xc) (.slice none 0 0)) 40)).alloc (.cells (coA cz (.slice none 0 0) (.slice none 0 0)) 34) = X := ⟨_, rfl⟩
    rw [hw0] at HB_0 HA_0 HRS_0 ⊢
    obtain ⟨p0, hp0⟩ : ∃ p, w.heap.size = p := ⟨_, rfl⟩
    obtain ⟨p1, hp1⟩ : ∃ p, p0 + 1 = p := ⟨_, rfl⟩
    rw [hp0] at HA_0 HRS_0
    rw [hp1] at HRS_0
    simp only [hp0, hp1]
    have HP : Hid (w.heap.size = p0 ∧ p0 + 1 = p1) := ⟨hp0, hp1⟩
    have HB_w0 : Hid (Below w.heap.size w w0) := HB_0.out
    have HA_w0 := HA_0
    have HRS_w0 := HRS_0
    clear hw0 hp0 hp1 HB_0 HA_0 HRS_0
    have HRX0 : Hid (w0.rangeAt b off (extE (K, txt L))) := range_below HRX.out HB_w0.out HBL.out
    have hcx := (HA_w0.out.ch zeros_20).xs
    have hck := range_key HRX0.out
    have hcv := range_val HRX0.out
    go_wp2_with (first
      | refine wpList_eql (by rfl) .neq 9 _ _ _ rfl (.string K) (.string ⟨#[103, 105, 116]⟩) rfl rfl (.bool true) (guard_ne _ _ _ _) HKN.out ?_
      | refine wpList_buildQ rfl 34 _ rfl #[] (by rfl) _ build_co0 ?_
      | refine wpList_store_row rfl 34 _ _ rfl p1 (coA cz (.slice none 0 0) (.slice none 0 0)) rfl rfl 34 (coA cz (.slice none 0 0) (.slice none 0 0)) HRS_w0.out (info_coA cz _ _ cz_20) rfl (coA_one _ _ _ rfl rfl) ?_)
    refine bodyPost_ret (results_row_tmp Tryz.results36 _ _ p1 34 (coA cz (.slice none 0 0) (.slice none 0 0)) (0, 0) _ rfl (Box.setRow HRS_w0.out) Tryz.underlying34 rfl (info_coA cz _ _ cz_20)) rfl ⟨.inr ⟨HNO.out, cz, (.slice none 0 0), (.slice none 0 0), rfl, cz_20, rfl, rfl⟩, below_setRow HB_w0.out (by have := HP.out.1; have := HP.out.2; omega) _⟩
  have HKN : Hid (∀ W, (binOp .neq 9 (.string K) (.string ⟨#[103, 105, 116]⟩)).run Tryz.prog W = .ok (.bool false) W) := fun W => by rw [neq_strs, decide_eq_true hk]; rfl
  have HOS : Hid (o = match parseC L with
      | some c => if bareC c then (if (both f).1 { c with m := x.d } = some (ownX x) then some { c with m := x.d } else none) else none
      | none => none) := by
    show _ = _
    rw [← HO.out]
    unfold inX
    rw [HEX.out]
    dsimp only
    rw [if_pos (by rw [hk]), txt_list]
    cases parseC L with
    | none => rfl
    | some x => rfl
  clear hk
  have HB_0 : Hid (Below w.heap.size w ((w.alloc (.cells (chA ⟨zeros20, x.u, x.t, x.z, [(K, txt L)], [], x.d⟩ (.slice (some ⟨b, off, none⟩) 1 xc) (.slice none 0 0)) 40)).alloc (.cells (coA cz (.slice none 0 0) (.slice none 0 0)) 34))) := ((Below.refl _ _).alloc (Nat.le_refl _) _).alloc (by simp) _
  have HA_0 : Hid (Box ((w.alloc (.cells (chA ⟨zeros20, x.u, x.t, x.z, [(K, txt L)], [], x.d⟩ (.slice (some ⟨b, off, none⟩) 1 xc) (.slice none 0 0)) 40)).alloc (.cells (coA cz (.slice none 0 0) (.slice none 0 0)) 34)) w.heap.size (chA ⟨zeros20, x.u, x.t, x.z, [(K, txt L)], [], x.d⟩ (.slice (some ⟨b, off, none⟩) 1 xc) (.slice none 0 0)) 40) := (Box.new _ _ _).alloc _
  have HRS_0 : Hid (Box ((w.alloc (.cells (chA ⟨zeros20, x.u, x.t, x.z, [(K, txt L)], [], x.d⟩ (.slice (some ⟨b, off, none⟩) 1 xc) (.slice none 0 0)) 40)).alloc (.cells (coA cz (.slice none 0 0) (.slice none 0 0)) 34)) (w.heap.size + 1) (coA cz (.slice none 0 0) (.slice none 0 0)) 34) := by
    have h := Box.new (w.alloc (.cells (chA ⟨zeros20, x.u, x.t, x.z, [(K, txt L)], [], x.d⟩ (.slice (some ⟨b, off, none⟩) 1 xc) (.slice none 0 0)) 40)) (coA cz (.slice none 0 0) (.slice none 0 0)) 34
    rwa [show (w.alloc (.cells (chA ⟨zeros20, x.u, x.t, x.z, [(K, txt L)], [], x.d⟩ (.slice (some ⟨b, off, none⟩) 1 xc) (.slice none 0 0)) 40)).heap.size = w.heap.size + 1 by simp] at h
  go_enter Tryz.func36, Tryz.ntmps36
  go_wp2_with ((with_reducible refine (show wpList _ _ _ (⟨some 7, _, _, _, _, _⟩ :: _) _ _ from ?_)); refine Hid.out ?_)
  refine unhid ?_
  obtain ⟨w0, hw0⟩ : ∃ X, (w.alloc (.cells (chA ⟨zeros20, x.u, x.t, x.z, [(K, txt L)], [], x.d⟩ (.slice (some ⟨b, off, none⟩) 1 xc) (.slice none 0 0)) 40)).alloc (.cells (coA cz (.slice none 0 0) (.slice none 0 0)) 34) = X := ⟨_, rfl⟩
  rw [hw0] at HB_0 HA_0 HRS_0 ⊢
  obtain ⟨p0, hp0⟩ : ∃ p, w.heap.size = p := ⟨_, rfl⟩
  obtain ⟨p1, hp1⟩ : ∃ p, p0 + 1 = p := ⟨_, rfl⟩
  rw [hp0] at HA_0 HRS_0
  rw [hp1] at HRS_0
  simp only [hp0, hp1]
  have HP : Hid (w.heap.size = p0 ∧ p0 + 1 = p1) := ⟨hp0, hp1⟩
  have HB_w0 : Hid (Below w.heap.size w w0) := HB_0.out
  have HA_w0 := HA_0
  have HRS_w0 := HRS_0
  clear hw0 hp0 hp1 HB_0 HA_0 HRS_0
  have HRX0 : Hid (w0.rangeAt b off (extE (K, txt L))) := range_below HRX.out HB_w0.out HBL.out
  have hcx := (HA_w0.out.ch zeros_20).xs
  have hck := range_key HRX0.out
  have hcv := range_val HRX0.out
  obtain ⟨cap, hcap, hcv2⟩ := conv_bytes w0 (txt L)
  have HBY := Lib.hid (bytes_new w0 (txt L) (by rw [txt_size]; have := HL.out; omega))
  have HBB : Hid (Below w0.heap.size w0 (Lib.bytesWorld w0 5 (txt L))) := Lib.bytesWorld_below _ _ _
  go_wp2_with (first
    | refine wpList_eql (by rfl) .neq 9 _ _ _ rfl (.string K) (.string ⟨#[103, 105, 116]⟩) rfl rfl (.bool false) (guard_ne _ _ _ _) HKN.out ?_)
  obtain ⟨wz, hw⟩ : ∃ X, Lib.bytesWorld w0 5 (txt L) = X := ⟨_, rfl⟩
  rw [hw] at HBY HBB ⊢
  have HW0S : Hid (p1 < w0.heap.size ∧ w0.heap.size ≤ wz.heap.size) := ⟨HRS_w0.out.lt, HBB.out.size⟩
  clear hcx hck hcv HRX0 hcv2 hw hcap
  have HB_wz : Hid (Below w.heap.size w wz) := HB_w0.out.trans ((HBB.out).mono HB_w0.out.size)
  have HA_wz : Hid (Box wz p0 (chA ⟨zeros20, x.u, x.t, x.z, [(K, txt L)], [], x.d⟩ (.slice (some ⟨b, off, none⟩) 1 xc) (.slice none 0 0)) 40) := HA_w0.out.below (HBB.out)
  have HRS_wz : Hid (Box wz p1 (coA cz (.slice none 0 0) (.slice none 0 0)) 34) := HRS_w0.out.below (HBB.out)
  clear HB_w0 HA_w0 HRS_w0
  obtain ⟨r0, hr0⟩ : ∃ r, parseC L = r := ⟨_, rfl⟩
  have hpz := coparse_any _ _ cap L wz HBY.out (by rw [txt_size]; exact HL.out) (HE.out.below HB_wz.out)
  rw [hr0] at hpz HOS
  have HR0 := Lib.hid hr0
  clear hr0
  refine (hpz).mono ?_
  rintro e w1 ⟨hpo, hb⟩
  have HB_w1 : Hid (Below w.heap.size w w1) := HB_wz.out.trans ((hb).mono HB_wz.out.size)
  have HA_w1 : Hid (Box w1 p0 (chA ⟨zeros20, x.u, x.t, x.z, [(K, txt L)], [], x.d⟩ (.slice (some ⟨b, off, none⟩) 1 xc) (.slice none 0 0)) 40) := HA_wz.out.below (hb)
  have HRS_w1 : Hid (Box w1 p1 (coA cz (.slice none 0 0) (.slice none 0 0)) 34) := HRS_wz.out.below (hb)
  clear HB_wz HA_wz HRS_wz
  clear hb
  clear hpz
  cases r0 with
  | none =>
    have HNO : Hid (o = none) := HOS.out
    obtain rfl := hpo
    have HZ : Hid ((w1.alloc (.cells (coA cz (.slice none 0 0) (.slice none 0 0)) 34)).heap[w1.heap.size]? = some (.cells (coA cz (.slice none 0 0) (.slice none 0 0)) 34 (0, 0))) := heap_alloc_new _ _
    have HS : Hid (Below w1.heap.size w1 ((w1.alloc (.cells (coA cz (.slice none 0 0) (.slice none 0 0)) 34)).setRow w1.heap.size (coA cz (.slice none 0 0) (.slice none 0 0)))) := below_setRow ((Below.refl _ _).alloc (Nat.le_refl _) _) (Nat.le_refl _) _
    have HN : Hid (Box ((w1.alloc (.cells (coA cz (.slice none 0 0) (.slice none 0 0)) 34)).setRow w1.heap.size (coA cz (.slice none 0 0) (.slice none 0 0))) w1.heap.size (coA cz (.slice none 0 0) (.slice none 0 0)) 34) := setRow_heap _ _ _ _ _ _ HZ.out
    go_wp2_with (first
      | (refine wpList_store_row rfl 34 _ _ rfl w1.heap.size (coA cz (.slice none 0 0) (.slice none 0 0)) rfl rfl 34 (coA cz (.slice none 0 0) (.slice none 0 0)) HZ.out (info_coA cz _ _ cz_20) rfl (coA_one _ _ _ rfl rfl) ?_
         obtain ⟨w2, hw⟩ : ∃ X, (w1.alloc (.cells (coA cz (.slice none 0 0) (.slice none 0 0)) 34)).setRow w1.heap.size (coA cz (.slice none 0 0) (.slice none 0 0)) = X := ⟨_, rfl⟩
         rw [hw] at HS HN ⊢
         obtain ⟨q, hq⟩ : ∃ q, w1.heap.size = q := ⟨_, rfl⟩
         rw [hq] at HN ⊢
         clear hw HZ
         have HB_w2 : Hid (Below w.heap.size w w2) := HB_w1.out.trans ((HS.out).mono HB_w1.out.size)
         have HA_w2 : Hid (Box w2 p0 (chA ⟨zeros20, x.u, x.t, x.z, [(K, txt L)], [], x.d⟩ (.slice (some ⟨b, off, none⟩) 1 xc) (.slice none 0 0)) 40) := HA_w1.out.below (HS.out)
         have HRS_w2 : Hid (Box w2 p1 (coA cz (.slice none 0 0) (.slice none 0 0)) 34) := HRS_w1.out.below (HS.out)
         clear HB_w1 HA_w1 HRS_w1
         have HXB_w2 : Hid (Box w2 q (coA cz (.slice none 0 0) (.slice none 0 0)) 34) := HN.out
         clear HS HN hq)
      | refine wpList_buildQ rfl 34 _ rfl #[] (by rfl) _ build_co0 ?_
      | refine wpList_store_row rfl 34 _ _ rfl p1 (coA cz (.slice none 0 0) (.slice none 0 0)) rfl rfl 34 (coA cz (.slice none 0 0) (.slice none 0 0)) HRS_w2.out (info_coA cz _ _ cz_20) rfl (coA_one _ _ _ rfl rfl) ?_)
    refine bodyPost_ret (results_row_tmp Tryz.results36 _ _ p1 34 (coA cz (.slice none 0 0) (.slice none 0 0)) (0, 0) _ rfl (Box.setRow HRS_w2.out) Tryz.underlying34 rfl (info_coA cz _ _ cz_20)) rfl ⟨.inr ⟨HNO.out, cz, (.slice none 0 0), (.slice none 0 0), rfl, cz_20, rfl, rfl⟩, below_setRow HB_w2.out (by have := HP.out.1; have := HP.out.2; omega) _⟩
  | some c =>
    obtain ⟨pa, pc, ya, yc, rfl, hat, -, hnew⟩ := hpo
    have HC20 := Lib.hid hat.n20
    have HRW_w1 : Hid (Rw wz.heap.size w1 ya c.xs) := ⟨hat.exts, hnew⟩
    have HTX := Lib.hid (par_size HR0.out HL.out x.d HTC.out.2.2)
    have HZX : Hid (szE c.xs < f) := by have h1 := szE_print c; rw [(parse_back HR0.out).1] at h1; have h2 := HSZ.out; have h3 := HSL.out; show _ < _; omega
    have HLT : Hid (p0 < wz.heap.size ∧ p1 < wz.heap.size ∧ w.heap.size ≤ wz.heap.size) := by have h1 := HP.out.1; have h2 := HP.out.2; have h3 := HW0S.out; exact ⟨by omega, by omega, by omega⟩
    clear hat hnew
    unfold coV
    obtain ⟨n, hN⟩ : ∃ n, c.xs.length = n := ⟨_, rfl⟩
    have HN := Lib.hid hN
    obtain ⟨pn, hPN⟩ : ∃ n, c.ps.length = n := ⟨_, rfl⟩
    have HPN := Lib.hid hPN
    rw [hN, hPN]
    clear hN hPN
    have HZ : Hid ((w1.alloc (.cells (coA cz (.slice none 0 0) (.slice none 0 0)) 34)).heap[w1.heap.size]? = some (.cells (coA cz (.slice none 0 0) (.slice none 0 0)) 34 (0, 0))) := heap_alloc_new _ _
    have HS : Hid (Below w1.heap.size w1 ((w1.alloc (.cells (coA cz (.slice none 0 0) (.slice none 0 0)) 34)).setRow w1.heap.size (coA c (.slice pa pn pc) (.slice ya n yc)))) := below_setRow ((Below.refl _ _).alloc (Nat.le_refl _) _) (Nat.le_refl _) _
    have HN : Hid (Box ((w1.alloc (.cells (coA cz (.slice none 0 0) (.slice none 0 0)) 34)).setRow w1.heap.size (coA c (.slice pa pn pc) (.slice ya n yc))) w1.heap.size (coA c (.slice pa pn pc) (.slice ya n yc)) 34) := setRow_heap _ _ _ _ _ _ HZ.out
    by_cases ht : c.tr = zeros20
    rotate_left
    · have HNO : Hid (o = none) := by show _ = _; rw [HOS.out]; exact if_neg fun h => ht h.1
      have HNI : Hid (∀ W, (binOp .neq 29 (.agg (V8 c.tr)) (.agg (V8 zeros20))).run Tryz.prog W = .ok (.bool true) W) := fun W => by rw [neq_idX _ HC20.out, beq_eq_false_iff_ne.2 ht]; rfl
      clear ht
      go_wp2_with (first
        | (refine wpList_store_row rfl 34 _ _ rfl w1.heap.size (coA c (.slice pa pn pc) (.slice ya n yc)) rfl rfl 34 (coA cz (.slice none 0 0) (.slice none 0 0)) HZ.out (info_coA c _ _ HC20.out) (by rw [coA_size _ _ _ cz_20, coA_size _ _ _ HC20.out]) (coA_one _ _ _ rfl rfl) ?_
           obtain ⟨w2, hw⟩ : ∃ X, (w1.alloc (.cells (coA cz (.slice none 0 0) (.slice none 0 0)) 34)).setRow w1.heap.size (coA c (.slice pa pn pc) (.slice ya n yc)) = X := ⟨_, rfl⟩
           rw [hw] at HS HN ⊢
           obtain ⟨q, hq⟩ : ∃ q, w1.heap.size = q := ⟨_, rfl⟩
           rw [hq] at HN ⊢
           clear hw HZ
           have HQ : Hid (p0 < q ∧ p1 < q ∧ w.heap.size ≤ q) := by rw [← hq]; exact ⟨HA_w1.out.lt, HRS_w1.out.lt, HB_w1.out.size⟩
           have HRQ : Hid (∀ W, Below q w1 W → Rw wz.heap.size W ya c.xs) := fun W hW => HRW_w1.out.below (hW.mono (Nat.le_of_eq hq))
           have HBq : Hid (Below q w1 w2) := by have h := HS.out; rw [hq] at h; exact h
           have HB_w2 : Hid (Below w.heap.size w w2) := HB_w1.out.trans ((HS.out).mono HB_w1.out.size)
           have HA_w2 : Hid (Box w2 p0 (chA ⟨zeros20, x.u, x.t, x.z, [(K, txt L)], [], x.d⟩ (.slice (some ⟨b, off, none⟩) 1 xc) (.slice none 0 0)) 40) := HA_w1.out.below (HS.out)
           have HRS_w2 : Hid (Box w2 p1 (coA cz (.slice none 0 0) (.slice none 0 0)) 34) := HRS_w1.out.below (HS.out)
           have HRW_w2 : Hid (Rw wz.heap.size w2 ya c.xs) := HRW_w1.out.below (HS.out)
           clear HB_w1 HA_w1 HRS_w1 HRW_w1
           have HXB_w2 : Hid (Box w2 q (coA c (.slice pa pn pc) (.slice ya n yc)) 34) := HN.out
           have hpp := (HXB_w2.out.co HC20.out).pars
           have hpm := (HXB_w2.out.co HC20.out).msg
           clear HS HN hq)
        | refine wpList_load_mid_g rfl 29 _ rfl q 0 rfl (U8 c.tr) _ (HXB_w2.out.co HC20.out).tree Tryz.underlying29 rfl (id_info8 _ HC20.out) ?_
        | refine wpList_buildQ rfl 29 _ rfl #[] (by rfl) _ build_id0 ?_
        | refine wpList_eql (by rfl) .neq 29 _ _ _ rfl (.agg (V8 c.tr)) (.agg (V8 zeros20)) rfl rfl (.bool true) (guardn_id _ _ _ _) HNI.out ?_
        | refine wpList_buildQ rfl 34 _ rfl #[] (by rfl) _ build_co0 ?_
        | refine wpList_store_row rfl 34 _ _ rfl p1 (coA cz (.slice none 0 0) (.slice none 0 0)) rfl rfl 34 (coA cz (.slice none 0 0) (.slice none 0 0)) HRS_w2.out (info_coA cz _ _ cz_20) rfl (coA_one _ _ _ rfl rfl) ?_)
      refine bodyPost_ret (results_row_tmp Tryz.results36 _ _ p1 34 (coA cz (.slice none 0 0) (.slice none 0 0)) (0, 0) _ rfl (Box.setRow HRS_w2.out) Tryz.underlying34 rfl (info_coA cz _ _ cz_20)) rfl ⟨.inr ⟨HNO.out, cz, (.slice none 0 0), (.slice none 0 0), rfl, cz_20, rfl, rfl⟩, below_setRow HB_w2.out (by have := HP.out.1; have := HP.out.2; omega) _⟩
    have HNI : Hid (∀ W, (binOp .neq 29 (.agg (V8 c.tr)) (.agg (V8 zeros20))).run Tryz.prog W = .ok (.bool false) W) := fun W => by rw [neq_idX _ HC20.out, ht, beq_self_eq_true]; rfl
    have HT := Lib.hid ht
    clear ht
    by_cases hp : pn = 0
    rotate_left
    · have HNO : Hid (o = none) := by show _ = _; rw [HOS.out]; exact if_neg fun h => hp (by rw [← HPN.out, h.2.1]; rfl)
      have g1 : (0 : Int) < (pn : Int) := by omega
      have g2 : 0 < pn := by omega
      clear hp
      go_wp2_with (first
        | (refine wpList_store_row rfl 34 _ _ rfl w1.heap.size (coA c (.slice pa pn pc) (.slice ya n yc)) rfl rfl 34 (coA cz (.slice none 0 0) (.slice none 0 0)) HZ.out (info_coA c _ _ HC20.out) (by rw [coA_size _ _ _ cz_20, coA_size _ _ _ HC20.out]) (coA_one _ _ _ rfl rfl) ?_
           obtain ⟨w2, hw⟩ : ∃ X, (w1.alloc (.cells (coA cz (.slice none 0 0) (.slice none 0 0)) 34)).setRow w1.heap.size (coA c (.slice pa pn pc) (.slice ya n yc)) = X := ⟨_, rfl⟩
           rw [hw] at HS HN ⊢
           obtain ⟨q, hq⟩ : ∃ q, w1.heap.size = q := ⟨_, rfl⟩
           rw [hq] at HN ⊢
           clear hw HZ
           have HQ : Hid (p0 < q ∧ p1 < q ∧ w.heap.size ≤ q) := by rw [← hq]; exact ⟨HA_w1.out.lt, HRS_w1.out.lt, HB_w1.out.size⟩
           have HRQ : Hid (∀ W, Below q w1 W → Rw wz.heap.size W ya c.xs) := fun W hW => HRW_w1.out.below (hW.mono (Nat.le_of_eq hq))
           have HBq : Hid (Below q w1 w2) := by have h := HS.out; rw [hq] at h; exact h
           have HB_w2 : Hid (Below w.heap.size w w2) := HB_w1.out.trans ((HS.out).mono HB_w1.out.size)
           have HA_w2 : Hid (Box w2 p0 (chA ⟨zeros20, x.u, x.t, x.z, [(K, txt L)], [], x.d⟩ (.slice (some ⟨b, off, none⟩) 1 xc) (.slice none 0 0)) 40) := HA_w1.out.below (HS.out)
           have HRS_w2 : Hid (Box w2 p1 (coA cz (.slice none 0 0) (.slice none 0 0)) 34) := HRS_w1.out.below (HS.out)
           have HRW_w2 : Hid (Rw wz.heap.size w2 ya c.xs) := HRW_w1.out.below (HS.out)
           clear HB_w1 HA_w1 HRS_w1 HRW_w1
           have HXB_w2 : Hid (Box w2 q (coA c (.slice pa pn pc) (.slice ya n yc)) 34) := HN.out
           have hpp := (HXB_w2.out.co HC20.out).pars
           have hpm := (HXB_w2.out.co HC20.out).msg
           clear HS HN hq)
        | refine wpList_load_mid_g rfl 29 _ rfl q 0 rfl (U8 c.tr) _ (HXB_w2.out.co HC20.out).tree Tryz.underlying29 rfl (id_info8 _ HC20.out) ?_
        | refine wpList_buildQ rfl 29 _ rfl #[] (by rfl) _ build_id0 ?_
        | refine wpList_eql (by rfl) .neq 29 _ _ _ rfl (.agg (V8 c.tr)) (.agg (V8 zeros20)) rfl rfl (.bool false) (guardn_id _ _ _ _) HNI.out ?_
        | refine wpList_buildQ rfl 34 _ rfl #[] (by rfl) _ build_co0 ?_
        | refine wpList_store_row rfl 34 _ _ rfl p1 (coA cz (.slice none 0 0) (.slice none 0 0)) rfl rfl 34 (coA cz (.slice none 0 0) (.slice none 0 0)) HRS_w2.out (info_coA cz _ _ cz_20) rfl (coA_one _ _ _ rfl rfl) ?_)
      refine bodyPost_ret (results_row_tmp Tryz.results36 _ _ p1 34 (coA cz (.slice none 0 0) (.slice none 0 0)) (0, 0) _ rfl (Box.setRow HRS_w2.out) Tryz.underlying34 rfl (info_coA cz _ _ cz_20)) rfl ⟨.inr ⟨HNO.out, cz, (.slice none 0 0), (.slice none 0 0), rfl, cz_20, rfl, rfl⟩, below_setRow HB_w2.out (by have := HP.out.1; have := HP.out.2; omega) _⟩
    subst hp
    skip
    by_cases hm : c.m = ⟨#[]⟩
    rotate_left
    · have HNO : Hid (o = none) := by show _ = _; rw [HOS.out]; exact if_neg fun h => hm (bytes_ext h.2.2)
      have HNM : Hid (∀ W, (binOp .neq 9 (.string c.m) (.string ⟨#[]⟩)).run Tryz.prog W = .ok (.bool true) W) := fun W => by rw [neq_strs, decide_eq_false hm]; rfl
      clear hm
      go_wp2_with (first
        | (refine wpList_store_row rfl 34 _ _ rfl w1.heap.size (coA c (.slice pa 0 pc) (.slice ya n yc)) rfl rfl 34 (coA cz (.slice none 0 0) (.slice none 0 0)) HZ.out (info_coA c _ _ HC20.out) (by rw [coA_size _ _ _ cz_20, coA_size _ _ _ HC20.out]) (coA_one _ _ _ rfl rfl) ?_
           obtain ⟨w2, hw⟩ : ∃ X, (w1.alloc (.cells (coA cz (.slice none 0 0) (.slice none 0 0)) 34)).setRow w1.heap.size (coA c (.slice pa 0 pc) (.slice ya n yc)) = X := ⟨_, rfl⟩
           rw [hw] at HS HN ⊢
           obtain ⟨q, hq⟩ : ∃ q, w1.heap.size = q := ⟨_, rfl⟩
           rw [hq] at HN ⊢
           clear hw HZ
           have HQ : Hid (p0 < q ∧ p1 < q ∧ w.heap.size ≤ q) := by rw [← hq]; exact ⟨HA_w1.out.lt, HRS_w1.out.lt, HB_w1.out.size⟩
           have HRQ : Hid (∀ W, Below q w1 W → Rw wz.heap.size W ya c.xs) := fun W hW => HRW_w1.out.below (hW.mono (Nat.le_of_eq hq))
           have HBq : Hid (Below q w1 w2) := by have h := HS.out; rw [hq] at h; exact h
           have HB_w2 : Hid (Below w.heap.size w w2) := HB_w1.out.trans ((HS.out).mono HB_w1.out.size)
           have HA_w2 : Hid (Box w2 p0 (chA ⟨zeros20, x.u, x.t, x.z, [(K, txt L)], [], x.d⟩ (.slice (some ⟨b, off, none⟩) 1 xc) (.slice none 0 0)) 40) := HA_w1.out.below (HS.out)
           have HRS_w2 : Hid (Box w2 p1 (coA cz (.slice none 0 0) (.slice none 0 0)) 34) := HRS_w1.out.below (HS.out)
           have HRW_w2 : Hid (Rw wz.heap.size w2 ya c.xs) := HRW_w1.out.below (HS.out)
           clear HB_w1 HA_w1 HRS_w1 HRW_w1
           have HXB_w2 : Hid (Box w2 q (coA c (.slice pa 0 pc) (.slice ya n yc)) 34) := HN.out
           have hpp := (HXB_w2.out.co HC20.out).pars
           have hpm := (HXB_w2.out.co HC20.out).msg
           clear HS HN hq)
        | refine wpList_load_mid_g rfl 29 _ rfl q 0 rfl (U8 c.tr) _ (HXB_w2.out.co HC20.out).tree Tryz.underlying29 rfl (id_info8 _ HC20.out) ?_
        | refine wpList_buildQ rfl 29 _ rfl #[] (by rfl) _ build_id0 ?_
        | refine wpList_eql (by rfl) .neq 29 _ _ _ rfl (.agg (V8 c.tr)) (.agg (V8 zeros20)) rfl rfl (.bool false) (guardn_id _ _ _ _) HNI.out ?_
        | refine wpList_eql (by rfl) .neq 9 _ _ _ rfl (.string c.m) (.string ⟨#[]⟩) rfl rfl (.bool true) (guard_ne _ _ _ _) HNM.out ?_
        | refine wpList_buildQ rfl 34 _ rfl #[] (by rfl) _ build_co0 ?_
        | refine wpList_store_row rfl 34 _ _ rfl p1 (coA cz (.slice none 0 0) (.slice none 0 0)) rfl rfl 34 (coA cz (.slice none 0 0) (.slice none 0 0)) HRS_w2.out (info_coA cz _ _ cz_20) rfl (coA_one _ _ _ rfl rfl) ?_)
      refine bodyPost_ret (results_row_tmp Tryz.results36 _ _ p1 34 (coA cz (.slice none 0 0) (.slice none 0 0)) (0, 0) _ rfl (Box.setRow HRS_w2.out) Tryz.underlying34 rfl (info_coA cz _ _ cz_20)) rfl ⟨.inr ⟨HNO.out, cz, (.slice none 0 0), (.slice none 0 0), rfl, cz_20, rfl, rfl⟩, below_setRow HB_w2.out (by have := HP.out.1; have := HP.out.2; omega) _⟩
    have HNM : Hid (∀ W, (binOp .neq 9 (.string c.m) (.string ⟨#[]⟩)).run Tryz.prog W = .ok (.bool false) W) := fun W => by rw [neq_strs, decide_eq_true hm]; rfl
    have HBC : Hid (bareC c) := ⟨HT.out, List.length_eq_zero_iff.1 HPN.out, by rw [hm]⟩
    clear hm
    go_wp2_with (first
      | (refine wpList_store_row rfl 34 _ _ rfl w1.heap.size (coA c (.slice pa 0 pc) (.slice ya n yc)) rfl rfl 34 (coA cz (.slice none 0 0) (.slice none 0 0)) HZ.out (info_coA c _ _ HC20.out) (by rw [coA_size _ _ _ cz_20, coA_size _ _ _ HC20.out]) (coA_one _ _ _ rfl rfl) ?_
         obtain ⟨w2, hw⟩ : ∃ X, (w1.alloc (.cells (coA cz (.slice none 0 0) (.slice none 0 0)) 34)).setRow w1.heap.size (coA c (.slice pa 0 pc) (.slice ya n yc)) = X := ⟨_, rfl⟩
         rw [hw] at HS HN ⊢
         obtain ⟨q, hq⟩ : ∃ q, w1.heap.size = q := ⟨_, rfl⟩
         rw [hq] at HN ⊢
         clear hw HZ
         have HQ : Hid (p0 < q ∧ p1 < q ∧ w.heap.size ≤ q) := by rw [← hq]; exact ⟨HA_w1.out.lt, HRS_w1.out.lt, HB_w1.out.size⟩
         have HRQ : Hid (∀ W, Below q w1 W → Rw wz.heap.size W ya c.xs) := fun W hW => HRW_w1.out.below (hW.mono (Nat.le_of_eq hq))
         have HBq : Hid (Below q w1 w2) := by have h := HS.out; rw [hq] at h; exact h
         have HB_w2 : Hid (Below w.heap.size w w2) := HB_w1.out.trans ((HS.out).mono HB_w1.out.size)
         have HA_w2 : Hid (Box w2 p0 (chA ⟨zeros20, x.u, x.t, x.z, [(K, txt L)], [], x.d⟩ (.slice (some ⟨b, off, none⟩) 1 xc) (.slice none 0 0)) 40) := HA_w1.out.below (HS.out)
         have HRS_w2 : Hid (Box w2 p1 (coA cz (.slice none 0 0) (.slice none 0 0)) 34) := HRS_w1.out.below (HS.out)
         have HRW_w2 : Hid (Rw wz.heap.size w2 ya c.xs) := HRW_w1.out.below (HS.out)
         clear HB_w1 HA_w1 HRS_w1 HRW_w1
         have HXB_w2 : Hid (Box w2 q (coA c (.slice pa 0 pc) (.slice ya n yc)) 34) := HN.out
         have hpp := (HXB_w2.out.co HC20.out).pars
         have hpm := (HXB_w2.out.co HC20.out).msg
         have hxd := (HA_w2.out.ch zeros_20).d
         have hfo := frozen_of_row w2 q 30 _ _ HXB_w2.out
         have HB_X : Hid (Below w.heap.size w (w2.setCell ⟨q, 30, none⟩ (.string x.d))) := HB_w2.out.setCell (p := ⟨q, 30, none⟩) HQ.out.2.2 _
         have HA_X : Hid (Box (w2.setCell ⟨q, 30, none⟩ (.string x.d)) p0 (chA ⟨zeros20, x.u, x.t, x.z, [(K, txt L)], [], x.d⟩ (.slice (some ⟨b, off, none⟩) 1 xc) (.slice none 0 0)) 40) := HA_w2.out.setCell_ne (Nat.ne_of_lt HQ.out.1)
         have HRS_X : Hid (Box (w2.setCell ⟨q, 30, none⟩ (.string x.d)) p1 (coA cz (.slice none 0 0) (.slice none 0 0)) 34) := HRS_w2.out.setCell_ne (Nat.ne_of_lt HQ.out.2.1)
         have HXB_X : Hid (Box (w2.setCell ⟨q, 30, none⟩ (.string x.d)) q (coA ⟨c.tr, c.ps, c.a, c.c, c.xs, x.d⟩ (.slice pa 0 pc) (.slice ya n yc)) 34) := HXB_w2.out.setCell (coA_set c _ _ HC20.out 10 _)
         have HRW_X : Hid (Rw wz.heap.size (w2.setCell ⟨q, 30, none⟩ (.string x.d)) ya c.xs) := HRQ.out _ (HBq.out.setCell (p := ⟨q, 30, none⟩) (Nat.le_refl _) _)
         clear HS HN hq)
      | refine wpList_load_mid_g rfl 29 _ rfl q 0 rfl (U8 c.tr) _ (HXB_w2.out.co HC20.out).tree Tryz.underlying29 rfl (id_info8 _ HC20.out) ?_
      | refine wpList_buildQ rfl 29 _ rfl #[] (by rfl) _ build_id0 ?_
      | refine wpList_eql (by rfl) .neq 29 _ _ _ rfl (.agg (V8 c.tr)) (.agg (V8 zeros20)) rfl rfl (.bool false) (guardn_id _ _ _ _) HNI.out ?_
      | refine wpList_eql (by rfl) .neq 9 _ _ _ rfl (.string c.m) (.string ⟨#[]⟩) rfl rfl (.bool false) (guard_ne _ _ _ _) HNM.out ?_
      | refine wpList_load_row rfl 34 _ rfl q rfl 34 (coA ⟨c.tr, c.ps, c.a, c.c, c.xs, x.d⟩ (.slice pa 0 pc) (.slice ya n yc)) (0, 0) _ HXB_X.out Tryz.underlying34 rfl (info_coA ⟨c.tr, c.ps, c.a, c.c, c.xs, x.d⟩ _ _ HC20.out) ?_)
    clear hpp hpm hxd hfo HB_w2 HA_w2 HRS_w2 HXB_w2 HRW_w2 HRQ HBq
    obtain ⟨w3, hw⟩ : ∃ X, (w2.setCell ⟨q, 30, none⟩ (.string x.d)) = X := ⟨_, rfl⟩
    rw [hw] at HB_X HA_X HRS_X HXB_X HRW_X ⊢
    have HB_w3 := HB_X
    have HA_w3 := HA_X
    have HRS_w3 := HRS_X
    have HXB_w3 := HXB_X
    have HRW_w3 := HRW_X
    clear hw HB_X HA_X HRS_X HXB_X HRW_X
    have hcall := IH.out ⟨c.tr, c.ps, c.a, c.c, c.xs, x.d⟩ ya yc (.slice pa 0 pc) w3 HC20.out rfl HRW_w3.out.row HTX.out HZX.out (HE.out.below HB_w3.out)
    obtain ⟨r, hr⟩ : ∃ r, (both f).1 ⟨c.tr, c.ps, c.a, c.c, c.xs, x.d⟩ = r := ⟨_, rfl⟩
    rw [hr, show (⟨c.tr, c.ps, c.a, c.c, c.xs, x.d⟩ : CC).xs.length = n from HN.out] at hcall
    have HOR : Hid (o = if r = some (ownX x) then some ⟨c.tr, c.ps, c.a, c.c, c.xs, x.d⟩ else none) := by show _ = _; rw [HOS.out]; show (if bareC c then (if (both f).1 (⟨c.tr, c.ps, c.a, c.c, c.xs, x.d⟩ : CC) = some (ownX x) then some (⟨c.tr, c.ps, c.a, c.c, c.xs, x.d⟩ : CC) else none) else none) = _; rw [if_pos HBC.out, hr]
    have HYB : Hid (∀ y, r = some y → y.xs.length ≤ 100000) := fun y hy => by have h := both_lenC (hr.trans hy) HTX.out.2.1; omega
    clear hr HOS
    refine (hcall).mono ?_
    rintro e w4 ⟨hcr, hb⟩
    have HB_w4 : Hid (Below w.heap.size w w4) := HB_w3.out.trans ((hb).mono HB_w3.out.size)
    have HA_w4 : Hid (Box w4 p0 (chA ⟨zeros20, x.u, x.t, x.z, [(K, txt L)], [], x.d⟩ (.slice (some ⟨b, off, none⟩) 1 xc) (.slice none 0 0)) 40) := HA_w3.out.below (hb)
    have HRS_w4 : Hid (Box w4 p1 (coA cz (.slice none 0 0) (.slice none 0 0)) 34) := HRS_w3.out.below (hb)
    have HXB_w4 : Hid (Box w4 q (coA ⟨c.tr, c.ps, c.a, c.c, c.xs, x.d⟩ (.slice pa 0 pc) (.slice ya n yc)) 34) := HXB_w3.out.below (hb)
    have HRW_w4 : Hid (Rw wz.heap.size w4 ya c.xs) := HRW_w3.out.below (hb)
    clear HB_w3 HA_w3 HRS_w3 HXB_w3 HRW_w3
    clear hb
    clear hcall
    cases r with
    | none =>
      obtain rfl := hcr
      have HNO : Hid (o = none) := by show _ = _; rw [HOR.out, if_neg (by simp)]
      have HZ : Hid ((w4.alloc (.cells (chA czero (.slice none 0 0) (.slice none 0 0)) 40)).heap[w4.heap.size]? = some (.cells (chA czero (.slice none 0 0) (.slice none 0 0)) 40 (0, 0))) := heap_alloc_new _ _
      have HS : Hid (Below w4.heap.size w4 ((w4.alloc (.cells (chA czero (.slice none 0 0) (.slice none 0 0)) 40)).setRow w4.heap.size (chA czero (.slice none 0 0) (.slice none 0 0)))) := below_setRow ((Below.refl _ _).alloc (Nat.le_refl _) _) (Nat.le_refl _) _
      have HN : Hid (Box ((w4.alloc (.cells (chA czero (.slice none 0 0) (.slice none 0 0)) 40)).setRow w4.heap.size (chA czero (.slice none 0 0) (.slice none 0 0))) w4.heap.size (chA czero (.slice none 0 0) (.slice none 0 0)) 40) := setRow_heap _ _ _ _ _ _ HZ.out
      go_wp2_with (first
        | (refine wpList_store_row rfl 40 _ _ rfl w4.heap.size (chA czero (.slice none 0 0) (.slice none 0 0)) rfl rfl 40 (chA czero (.slice none 0 0) (.slice none 0 0)) HZ.out (info_chA czero _ _ czero_20) rfl (chA_one _ _ _ rfl rfl) ?_
           obtain ⟨w5, hw⟩ : ∃ X, (w4.alloc (.cells (chA czero (.slice none 0 0) (.slice none 0 0)) 40)).setRow w4.heap.size (chA czero (.slice none 0 0) (.slice none 0 0)) = X := ⟨_, rfl⟩
           rw [hw] at HS HN ⊢
           obtain ⟨rr, hq⟩ : ∃ q, w4.heap.size = q := ⟨_, rfl⟩
           rw [hq] at HN ⊢
           clear hw HZ
           have HR1 : Hid (p1 < rr) := by rw [← hq]; exact HRS_w4.out.lt
           have HB_w5 : Hid (Below w.heap.size w w5) := HB_w4.out.trans ((HS.out).mono HB_w4.out.size)
           have HA_w5 : Hid (Box w5 p0 (chA ⟨zeros20, x.u, x.t, x.z, [(K, txt L)], [], x.d⟩ (.slice (some ⟨b, off, none⟩) 1 xc) (.slice none 0 0)) 40) := HA_w4.out.below (HS.out)
           have HRS_w5 : Hid (Box w5 p1 (coA cz (.slice none 0 0) (.slice none 0 0)) 34) := HRS_w4.out.below (HS.out)
           have HXB_w5 : Hid (Box w5 q (coA ⟨c.tr, c.ps, c.a, c.c, c.xs, x.d⟩ (.slice pa 0 pc) (.slice ya n yc)) 34) := HXB_w4.out.below (HS.out)
           have HRW_w5 : Hid (Rw wz.heap.size w5 ya c.xs) := HRW_w4.out.below (HS.out)
           clear HB_w4 HA_w4 HRS_w4 HXB_w4 HRW_w4
           have HBK_w5 : Hid (Box w5 rr (chA czero (.slice none 0 0) (.slice none 0 0)) 40) := HN.out
           clear HS HN hq))
      refine wp_region_noPanic ?_
      refine wp_region_held_drew (S := fun W => Box W q (coA ⟨c.tr, c.ps, c.a, c.c, c.xs, x.d⟩ (.slice pa 0 pc) (.slice ya n yc)) 34 ∧ Box W rr (chA czero (.slice none 0 0) (.slice none 0 0)) 40 ∧ Box W p0 (chA ⟨zeros20, x.u, x.t, x.z, [(K, txt L)], [], x.d⟩ (.slice (some ⟨b, off, none⟩) 1 xc) (.slice none 0 0)) 40) (by kernel_rfl) ?_ (fun hHeld => ?_)
      · exact ⟨HXB_w5.out, HBK_w5.out, HA_w5.out⟩
      refine tkY 0 (hy := (yieldsIf_load_mid (by rfl) 34 _ rfl q 0 rfl (coL ⟨c.tr, c.ps, c.a, c.c, c.xs, x.d⟩ (.slice pa 0 pc) (.slice ya n yc)) _ (fun W hSW => Box.range hSW.1) Tryz.underlying34 rfl (info_co ⟨c.tr, c.ps, c.a, c.c, c.xs, x.d⟩ _ _ HC20.out))) (h := ?_)
      try simp only [Act.put, List.setIfInBounds_toArray, List.set_cons_zero, List.set_cons_succ]
      refine tkV 1 (v := ?_) (hw := ?_) (h := ?_)
      rotate_left
      · intro W hSW
        go_simp
        try with_reducible rfl
      try simp only [Act.put, List.setIfInBounds_toArray, List.set_cons_zero, List.set_cons_succ]
      refine tkV 2 (v := ?_) (hw := ?_) (h := ?_)
      rotate_left
      · intro W hSW
        go_simp
        try with_reducible rfl
      try simp only [Act.put, List.setIfInBounds_toArray, List.set_cons_zero, List.set_cons_succ]
      refine tkV 3 (v := ?_) (hw := ?_) (h := ?_)
      rotate_left
      · intro W hSW
        go_simp
        try with_reducible rfl
      try simp only [Act.put, List.setIfInBounds_toArray, List.set_cons_zero, List.set_cons_succ]
      refine tkN 4 (h := ?_)
      try simp only [Act.put, List.setIfInBounds_toArray, List.set_cons_zero, List.set_cons_succ]
      refine tkN 5 (h := ?_)
      try simp only [Act.put, List.setIfInBounds_toArray, List.set_cons_zero, List.set_cons_succ]
      refine tkN 6 (h := ?_)
      try simp only [Act.put, List.setIfInBounds_toArray, List.set_cons_zero, List.set_cons_succ]
      refine tkV 7 (v := ?_) (hw := ?_) (h := ?_)
      rotate_left
      · intro W hSW
        go_simp
        try with_reducible rfl
      try simp only [Act.put, List.setIfInBounds_toArray, List.set_cons_zero, List.set_cons_succ]
      refine wpAnyH_ready (rs := [8]) (by kernel_rfl) (by simp) ?_
      refine AllReadyH.cons (by simp only [List.getElem?_toArray, List.getElem?_cons_succ, List.getElem?_cons_zero]; rfl) (fun K hK => ?_) AllReadyH.nil
      refine step_store_row (by rfl) 34 _ _ rfl p1 (coA ⟨c.tr, c.ps, c.a, c.c, c.xs, x.d⟩ (.slice pa 0 pc) (.slice ya n yc)) rfl rfl 34 (coA cz (.slice none 0 0) (.slice none 0 0)) HRS_w5.out (info_coA ⟨c.tr, c.ps, c.a, c.c, c.xs, x.d⟩ _ _ HC20.out) (by rw [coA_size _ _ _ cz_20, coA_size _ _ _ (show (⟨c.tr, c.ps, c.a, c.c, c.xs, x.d⟩ : CC).tr.length = 20 from HC20.out)]) (coA_one _ _ _ rfl rfl) ?_
      refine hK.out _ _ (⟨Box.setRow_ne HXB_w5.out (Nat.ne_of_gt HQ.out.2.1), Box.setRow_ne HBK_w5.out (Nat.ne_of_gt HR1.out), Box.setRow_ne HA_w5.out (by have := HP.out.2; omega)⟩) (fun hHeld2 => ?_)
      clear hK K hHeld
      have hHeld := hHeld2
      clear hHeld2
      try simp only [Act.put, List.setIfInBounds_toArray, List.set_cons_zero, List.set_cons_succ]
      refine tkV 9 (v := ?_) (hw := ?_) (h := ?_)
      rotate_left
      · intro W hSW
        go_simp
        try with_reducible rfl
      try simp only [Act.put, List.setIfInBounds_toArray, List.set_cons_zero, List.set_cons_succ]
      refine wpAnyH_done (by kernel_rfl) ?_ _
      refine NoPanic.normal ?_
      clear hHeld
      go_wp2_with fail
      refine bodyPost_ret (results_row_tmp Tryz.results36 _ _ p1 34 (coA ⟨c.tr, c.ps, c.a, c.c, c.xs, x.d⟩ (.slice pa 0 pc) (.slice ya n yc)) (0, 0) _ rfl (Box.setRow HRS_w5.out) Tryz.underlying34 rfl (info_coA ⟨c.tr, c.ps, c.a, c.c, c.xs, x.d⟩ _ _ HC20.out)) rfl ⟨.inr ⟨HNO.out, ⟨c.tr, c.ps, c.a, c.c, c.xs, x.d⟩, (.slice pa 0 pc), (.slice ya n yc), rfl, HC20.out, rfl, rfl⟩, below_setRow HB_w5.out.drew (by have := HP.out.1; have := HP.out.2; omega) _⟩
    | some y =>
      obtain ⟨va, vc, rfl, hy1, hy2, hyr⟩ := hcr
      have HY20 : Hid (y.n.length = 20) := by rw [hy1]; exact zeros_20
      have HSA := Lib.hid (same_own (x := x) hy1 hy2)
      have HVR_w4 : Hid (Rw w3.heap.size w4 va y.xs) := hyr
      clear hy1 hy2 hyr
      obtain ⟨m, hM⟩ : ∃ m, y.xs.length = m := ⟨_, rfl⟩
      have HM := Lib.hid hM
      rw [hM]
      clear hM
      have HZ : Hid ((w4.alloc (.cells (chA czero (.slice none 0 0) (.slice none 0 0)) 40)).heap[w4.heap.size]? = some (.cells (chA czero (.slice none 0 0) (.slice none 0 0)) 40 (0, 0))) := heap_alloc_new _ _
      have HS : Hid (Below w4.heap.size w4 ((w4.alloc (.cells (chA czero (.slice none 0 0) (.slice none 0 0)) 40)).setRow w4.heap.size (chA y (.slice va m vc) (.slice none 0 0)))) := below_setRow ((Below.refl _ _).alloc (Nat.le_refl _) _) (Nat.le_refl _) _
      have HN : Hid (Box ((w4.alloc (.cells (chA czero (.slice none 0 0) (.slice none 0 0)) 40)).setRow w4.heap.size (chA y (.slice va m vc) (.slice none 0 0))) w4.heap.size (chA y (.slice va m vc) (.slice none 0 0)) 40) := setRow_heap _ _ _ _ _ _ HZ.out
      go_wp2_with (first
        | (refine wpList_store_row rfl 40 _ _ rfl w4.heap.size (chA y (.slice va m vc) (.slice none 0 0)) rfl rfl 40 (chA czero (.slice none 0 0) (.slice none 0 0)) HZ.out (info_chA y _ _ HY20.out) (by rw [chA_size _ _ _ czero_20, chA_size _ _ _ HY20.out]) (chA_one _ _ _ rfl rfl) ?_
           obtain ⟨w5, hw⟩ : ∃ X, (w4.alloc (.cells (chA czero (.slice none 0 0) (.slice none 0 0)) 40)).setRow w4.heap.size (chA y (.slice va m vc) (.slice none 0 0)) = X := ⟨_, rfl⟩
           rw [hw] at HS HN ⊢
           obtain ⟨rr, hq⟩ : ∃ q, w4.heap.size = q := ⟨_, rfl⟩
           rw [hq] at HN ⊢
           clear hw HZ
           have HR1 : Hid (p1 < rr) := by rw [← hq]; exact HRS_w4.out.lt
           have HB_w5 : Hid (Below w.heap.size w w5) := HB_w4.out.trans ((HS.out).mono HB_w4.out.size)
           have HA_w5 : Hid (Box w5 p0 (chA ⟨zeros20, x.u, x.t, x.z, [(K, txt L)], [], x.d⟩ (.slice (some ⟨b, off, none⟩) 1 xc) (.slice none 0 0)) 40) := HA_w4.out.below (HS.out)
           have HRS_w5 : Hid (Box w5 p1 (coA cz (.slice none 0 0) (.slice none 0 0)) 34) := HRS_w4.out.below (HS.out)
           have HXB_w5 : Hid (Box w5 q (coA ⟨c.tr, c.ps, c.a, c.c, c.xs, x.d⟩ (.slice pa 0 pc) (.slice ya n yc)) 34) := HXB_w4.out.below (HS.out)
           have HRW_w5 : Hid (Rw wz.heap.size w5 ya c.xs) := HRW_w4.out.below (HS.out)
           have HVR_w5 : Hid (Rw w3.heap.size w5 va y.xs) := HVR_w4.out.below (HS.out)
           clear HB_w4 HA_w4 HRS_w4 HXB_w4 HRW_w4 HVR_w4
           have HBK_w5 : Hid (Box w5 rr (chA y (.slice va m vc) (.slice none 0 0)) 40) := HN.out
           clear HS HN hq))
      obtain ⟨bq, hbq⟩ : ∃ b, decide (sameXB y (ownX x)) = b := ⟨_, rfl⟩
      have HSC : Hid (∀ W, Below w5.heap.size w5 W → Calls Tryz.prog 64 #[.agg (chA y (.slice va m vc) (.slice none 0 0)), .agg (chA ⟨zeros20, x.u, x.t, x.z, [(K, txt L)], [], x.d⟩ (.slice (some ⟨b, off, none⟩) 1 xc) (.slice none 0 0))] W fun e w' => e = .returned (.bool bq) ∧ Below W.heap.size W w') := fun W hW => by have h := samechange_any y ⟨zeros20, x.u, x.t, x.z, [(K, txt L)], [], x.d⟩ (.slice none 0 0) (.slice none 0 0) va vc (some ⟨b, off, none⟩) xc W HY20.out zeros_20 (HVR_w5.out.row.below hW) (HX1.out.below (HB_w5.out.trans (hW.mono HB_w5.out.size))) (HYB.out _ rfl) (by show 1 ≤ _; decide); rw [HM.out, ← HCD.out, hbq] at h; rw [HCD.out] at h; exact h
      have HBQ := Lib.hid hbq
      clear hbq
      refine wp_region_noPanic ?_
      refine wp_region_held_drew (S := fun W => Box W q (coA ⟨c.tr, c.ps, c.a, c.c, c.xs, x.d⟩ (.slice pa 0 pc) (.slice ya n yc)) 34 ∧ Box W rr (chA y (.slice va m vc) (.slice none 0 0)) 40 ∧ Box W p0 (chA ⟨zeros20, x.u, x.t, x.z, [(K, txt L)], [], x.d⟩ (.slice (some ⟨b, off, none⟩) 1 xc) (.slice none 0 0)) 40) (by kernel_rfl) ?_ (fun hHeld => ?_)
      · exact ⟨HXB_w5.out, HBK_w5.out, HA_w5.out⟩
      refine tkY 0 (hy := (yieldsIf_load_mid (by rfl) 34 _ rfl q 0 rfl (coL ⟨c.tr, c.ps, c.a, c.c, c.xs, x.d⟩ (.slice pa 0 pc) (.slice ya n yc)) _ (fun W hSW => Box.range hSW.1) Tryz.underlying34 rfl (info_co ⟨c.tr, c.ps, c.a, c.c, c.xs, x.d⟩ _ _ HC20.out))) (h := ?_)
      try simp only [Act.put, List.setIfInBounds_toArray, List.set_cons_zero, List.set_cons_succ]
      refine tkV 1 (v := ?_) (hw := ?_) (h := ?_)
      rotate_left
      · intro W hSW
        go_simp
        try with_reducible rfl
      try simp only [Act.put, List.setIfInBounds_toArray, List.set_cons_zero, List.set_cons_succ]
      refine tkV 2 (v := ?_) (hw := ?_) (h := ?_)
      rotate_left
      · intro W hSW
        go_simp
        try with_reducible rfl
      try simp only [Act.put, List.setIfInBounds_toArray, List.set_cons_zero, List.set_cons_succ]
      refine tkV 3 (v := ?_) (hw := ?_) (h := ?_)
      rotate_left
      · intro W hSW
        go_simp
        try with_reducible rfl
      try simp only [Act.put, List.setIfInBounds_toArray, List.set_cons_zero, List.set_cons_succ]
      refine tkY 4 (hy := (yieldsIf_load_mid (by rfl) 40 _ rfl rr 0 rfl (chL y (.slice va m vc) (.slice none 0 0)) _ (fun W hSW => Box.range hSW.2.1) Tryz.underlying40 rfl (info_ch y _ _ HY20.out))) (h := ?_)
      try simp only [Act.put, List.setIfInBounds_toArray, List.set_cons_zero, List.set_cons_succ]
      refine tkY 5 (hy := (yieldsIf_load_mid (by rfl) 40 _ rfl p0 0 rfl (chL ⟨zeros20, x.u, x.t, x.z, [(K, txt L)], [], x.d⟩ (.slice (some ⟨b, off, none⟩) 1 xc) (.slice none 0 0)) _ (fun W hSW => Box.range hSW.2.2) Tryz.underlying40 rfl (info_ch ⟨zeros20, x.u, x.t, x.z, [(K, txt L)], [], x.d⟩ _ _ zeros_20))) (h := ?_)
      try simp only [Act.put, List.setIfInBounds_toArray, List.set_cons_zero, List.set_cons_succ]
      refine wpAnyH_ready (rs := [6]) (by kernel_rfl) (by simp) ?_
      refine AllReadyH.cons (by simp only [List.getElem?_toArray, List.getElem?_cons_succ, List.getElem?_cons_zero]; rfl) (fun K hK => ?_) AllReadyH.nil
      go_simp
      refine (HSC.out _ ((Below.refl _ _).drew)).mono ?_
      rintro e w6 ⟨rfl, hb⟩
      have hbb : Below w5.heap.size w5 w6 := (Below.refl _ _).drew.trans hb
      have HB_w6 := Lib.hid (HB_w5.out.trans (hbb.mono HB_w5.out.size))
      have HA_w6 := Lib.hid (HA_w5.out.below hbb)
      have HRS_w6 := Lib.hid (HRS_w5.out.below hbb)
      have HXB_w6 := Lib.hid (HXB_w5.out.below hbb)
      have HRW_w6 := Lib.hid (HRW_w5.out.below hbb)
      have HBK_w6 := Lib.hid (HBK_w5.out.below hbb)
      clear hb hbb
      go_wp2_with fail
      refine hK.out _ _ (⟨HXB_w6.out, HBK_w6.out, HA_w6.out⟩) (fun hHeld2 => ?_)
      clear hK K hHeld
      have hHeld := hHeld2
      clear hHeld2
      try simp only [Act.put, List.setIfInBounds_toArray, List.set_cons_zero, List.set_cons_succ]
      refine tkV 7 (v := ?_) (hw := ?_) (h := ?_)
      rotate_left
      · intro W hSW
        go_simp
        try with_reducible rfl
      try simp only [Act.put, List.setIfInBounds_toArray, List.set_cons_zero, List.set_cons_succ]
      refine wpAnyH_ready (rs := [8]) (by kernel_rfl) (by simp) ?_
      refine AllReadyH.cons (by simp only [List.getElem?_toArray, List.getElem?_cons_succ, List.getElem?_cons_zero]; rfl) (fun K hK => ?_) AllReadyH.nil
      refine step_store_row (by rfl) 34 _ _ rfl p1 (coA ⟨c.tr, c.ps, c.a, c.c, c.xs, x.d⟩ (.slice pa 0 pc) (.slice ya n yc)) rfl rfl 34 (coA cz (.slice none 0 0) (.slice none 0 0)) HRS_w6.out (info_coA ⟨c.tr, c.ps, c.a, c.c, c.xs, x.d⟩ _ _ HC20.out) (by rw [coA_size _ _ _ cz_20, coA_size _ _ _ (show (⟨c.tr, c.ps, c.a, c.c, c.xs, x.d⟩ : CC).tr.length = 20 from HC20.out)]) (coA_one _ _ _ rfl rfl) ?_
      refine hK.out _ _ (⟨Box.setRow_ne HXB_w6.out (Nat.ne_of_gt HQ.out.2.1), Box.setRow_ne HBK_w6.out (Nat.ne_of_gt HR1.out), Box.setRow_ne HA_w6.out (by have := HP.out.2; omega)⟩) (fun hHeld2 => ?_)
      clear hK K hHeld
      have hHeld := hHeld2
      clear hHeld2
      try simp only [Act.put, List.setIfInBounds_toArray, List.set_cons_zero, List.set_cons_succ]
      refine tkV 9 (v := ?_) (hw := ?_) (h := ?_)
      rotate_left
      · intro W hSW
        go_simp
        try with_reducible rfl
      try simp only [Act.put, List.setIfInBounds_toArray, List.set_cons_zero, List.set_cons_succ]
      refine wpAnyH_done (by kernel_rfl) ?_ _
      refine NoPanic.normal ?_
      clear hHeld
      go_wp2_with fail
      have HFW : Hid (Rw w.heap.size (w6.setRow p1 (coA ⟨c.tr, c.ps, c.a, c.c, c.xs, x.d⟩ (.slice pa 0 pc) (.slice ya n yc))) ya c.xs) := (HRW_w6.out.setRow HLT.out.2.1).lower HLT.out.2.2
      refine bodyPost_ret (results_row_tmp Tryz.results36 _ _ p1 34 (coA ⟨c.tr, c.ps, c.a, c.c, c.xs, x.d⟩ (.slice pa 0 pc) (.slice ya n yc)) (0, 0) _ rfl (Box.setRow HRS_w6.out) Tryz.underlying34 rfl (info_coA ⟨c.tr, c.ps, c.a, c.c, c.xs, x.d⟩ _ _ HC20.out)) rfl ⟨?_, below_setRow HB_w6.out (by have := HP.out.1; have := HP.out.2; omega) _⟩
      cases bq
      · exact .inr ⟨by rw [HOR.out, if_neg fun h => of_decide_eq_false HBQ.out (HSA.out.2 (Option.some.inj h))], ⟨c.tr, c.ps, c.a, c.c, c.xs, x.d⟩, (.slice pa 0 pc), (.slice ya n yc), rfl, HC20.out, rfl, rfl⟩
      · exact .inl ⟨⟨c.tr, c.ps, c.a, c.c, c.xs, x.d⟩, pa, pc, ya, yc, by rw [HOR.out, if_pos (congrArg some (HSA.out.1 (of_decide_eq_true HBQ.out)))], by rw [show (⟨c.tr, c.ps, c.a, c.c, c.xs, x.d⟩ : CC).xs.length = n from HN.out] <;> rfl, HBC.out.1, HBC.out.2.1, HFW.out⟩
end Go.Proofs.YtkpiinjhcckhfaaGreatDoor
