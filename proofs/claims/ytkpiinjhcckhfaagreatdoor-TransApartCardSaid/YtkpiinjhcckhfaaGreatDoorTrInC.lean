/- trans.changeIn: the walk. -/
import Derived.Test.YtkpiinjhcckhfaaGreatDoorTrSize
namespace Go.Proofs.YtkpiinjhcckhfaaGreatDoor
open Go.RowKit Plain Go.ChangeShapes Go.WideShapes Go.ChangeAt Go.Great
set_option linter.unusedVariables false
set_option linter.unusedSimpArgs false
set_option maxRecDepth 100000 in
set_option maxHeartbeats 32000000 in
theorem changein_any (f : Nat) (ih : IHX f) (c : CC) (xa : Option Addr) (xc : Nat) (w : World) (hx : RowAt 2 extE w xa c.xs) (hs : TC c) (hz : szE c.xs < f + 1) (hE : EnvC w) :
    Calls Tryz.prog 30 #[.agg (coA ⟨zeros20, [], c.a, c.c, c.xs, c.m⟩ (.slice none 0 0) (.slice xa c.xs.length xc))] w fun e w' => InC w.heap.size e w' (inC (both f).2 c) ∧ Below w.heap.size w w' := by
  have HE := Lib.hid hE
  have HX := Lib.hid hx
  have HTC := Lib.hid hs
  have IH := Lib.hid ih
  have HSZ := Lib.hid hz
  have hzc := zero_ch
  have hzo := zero_co
  clear hx hs hE hz ih
  obtain ⟨o, ho⟩ : ∃ o, inC (both f).2 c = o := ⟨_, rfl⟩
  rw [ho]
  have HO := Lib.hid ho
  clear ho
  by_cases h1 : c.xs.length = 1
  rotate_left
  · have HNO : Hid (o = none) := by
      show _ = _
      rw [← HO.out]
      unfold inC
      split
      · rename_i e he; rw [he] at h1; exact absurd rfl h1
      · rfl
    obtain ⟨n, hN⟩ : ∃ n, c.xs.length = n := ⟨_, rfl⟩
    rw [hN] at h1 ⊢
    have g1 : ¬ (n : Int) = 1 := by omega
    have g2 : ((n : Int) != 1) = true := bne_iff_ne.2 g1
    clear hN h1
    have HB_0 : Hid (Below w.heap.size w ((w.alloc (.cells (coA ⟨zeros20, [], c.a, c.c, c.xs, c.m⟩ (.slice none 0 0) (.slice xa n xc)) 34)).alloc (.cells (chA czero (.slice none 0 0) (.slice none 0 0)) 40))) := ((Below.refl _ _).alloc (Nat.le_refl _) _).alloc (by simp) _
    have HA_0 : Hid (Box ((w.alloc (.cells (coA ⟨zeros20, [], c.a, c.c, c.xs, c.m⟩ (.slice none 0 0) (.slice xa n xc)) 34)).alloc (.cells (chA czero (.slice none 0 0) (.slice none 0 0)) 40)) w.heap.size (coA ⟨zeros20, [], c.a, c.c, c.xs, c.m⟩ (.slice none 0 0) (.slice xa n xc)) 34) := (Box.new _ _ _).alloc _
    have HRS_0 : Hid (Box ((w.alloc (.cells (coA ⟨zeros20, [], c.a, c.c, c.xs, c.m⟩ (.slice none 0 0) (.slice xa n xc)) 34)).alloc (.cells (chA czero (.slice none 0 0) (.slice none 0 0)) 40)) (w.heap.size + 1) (chA czero (.slice none 0 0) (.slice none 0 0)) 40) := by
      have h := Box.new (w.alloc (.cells (coA ⟨zeros20, [], c.a, c.c, c.xs, c.m⟩ (.slice none 0 0) (.slice xa n xc)) 34)) (chA czero (.slice none 0 0) (.slice none 0 0)) 40
      rwa [show (w.alloc (.cells (coA ⟨zeros20, [], c.a, c.c, c.xs, c.m⟩ (.slice none 0 0) (.slice xa n xc)) 34)).heap.size = w.heap.size + 1 by simp] at h
    go_enter Tryz.func30, Tryz.ntmps30
    go_wp2_with ((with_reducible refine (show wpList _ _ _ (⟨some 8, _, _, _, _, _⟩ :: _) _ _ from ?_)); refine Hid.out ?_)
    refine unhid ?_
    obtain ⟨w0, hw0⟩ : ∃ X, (w.alloc (.cells (coA ⟨zeros20, [], c.a, c.c, c.xs, c.m⟩ (.slice none 0 0) (.slice xa n xc)) 34)).alloc (.cells (chA czero (.slice none 0 0) (.slice none 0 0)) 40) = X := ⟨_, rfl⟩
    rw [hw0] at HB_0 HA_0 HRS_0 ⊢
    obtain ⟨p0, hp0⟩ : ∃ p, w.heap.size = p := ⟨_, rfl⟩
    obtain ⟨p1, hp1⟩ : ∃ p, p0 + 1 = p := ⟨_, rfl⟩
    rw [hp0] at HA_0 HRS_0
    rw [hp1] at HRS_0
    simp only [hp0, hp1]
    have HP : Hid (w.heap.size = p0 ∧ p0 + 1 = p1) := ⟨hp0, hp1⟩
    have HB_w0 : Hid (Below w.heap.size w w0) := HB_0.out
    have HA_w0 := HA_0
    have HRS_w0 := HRS_0
    clear hw0 hp0 hp1 HB_0 HA_0 HRS_0
    have hcx := (HA_w0.out.co zeros_20).exts
    go_wp2_with (first
      | refine wpList_buildQ rfl 40 _ rfl #[] (by rfl) _ build_ch0 ?_
      | refine wpList_store_row rfl 40 _ _ rfl p1 (chA czero (.slice none 0 0) (.slice none 0 0)) rfl rfl 40 (chA czero (.slice none 0 0) (.slice none 0 0)) HRS_w0.out (info_chA czero _ _ czero_20) rfl (chA_one _ _ _ rfl rfl) ?_)
    refine bodyPost_ret (results_row_tmp Tryz.results30 _ _ p1 40 (chA czero (.slice none 0 0) (.slice none 0 0)) (0, 0) _ rfl (Box.setRow HRS_w0.out) Tryz.underlying40 rfl (info_chA czero _ _ czero_20)) rfl ⟨.inr ⟨HNO.out, czero, (.slice none 0 0), rfl, czero_20, rfl⟩, below_setRow HB_w0.out (by have := HP.out.1; have := HP.out.2; omega) _⟩
  obtain ⟨⟨K, V⟩, he⟩ : ∃ e, c.xs = [e] := by
    match hc : c.xs, h1 with
    | [e], _ => exact ⟨e, rfl⟩
  obtain ⟨L, rfl⟩ : ∃ L, V = txt L := ⟨V.data.toList, (txt_of _).symm⟩
  have HL : Hid (L.length ≤ 15000) := by have := HTC.out.2.1 (K, txt L) (by rw [he]; simp); rw [txt_list] at this; exact this
  have HSL : Hid (szE c.xs = L.length) := by show _ = _; rw [he, szE_one, txt_list]
  have HEX := Lib.hid he
  obtain ⟨b, off, rfl, HBL, HRX⟩ : ∃ b off, xa = some ⟨b, off, none⟩ ∧ Hid (b < w.heap.size) ∧ Hid (w.rangeAt b off (extE (K, txt L))) := by
    rcases HX.out with h0 | ⟨b, off, e, hl, hc⟩
    · rw [h1] at h0; cases h0
    · have := hc 0 (K, txt L) (by rw [he]; rfl)
      rw [show off + 0 * 2 = off by omega] at this
      exact ⟨b, off, e, hl, this⟩
  have HX1 : Hid (RowAt 2 extE w (some ⟨b, off, none⟩) [(K, txt L)]) := by rw [← HEX.out]; exact HX.out
  have HCD : Hid ((aloneC c) = ⟨zeros20, [], c.a, c.c, [(K, txt L)], c.m⟩) := by show _ = _; unfold aloneC; rw [HEX.out]
  rw [h1]
  have HDD : Hid ((⟨zeros20, [], c.a, c.c, c.xs, c.m⟩ : CC) = ⟨zeros20, [], c.a, c.c, [(K, txt L)], c.m⟩) := HCD.out
  rw [HDD.out]
  clear he h1 HDD HX
  by_cases hk : K = ⟨#[104, 103]⟩
  rotate_left
  · have HNO : Hid (o = none) := by
      show _ = _
      rw [← HO.out]
      unfold inC
      rw [HEX.out]
      dsimp only
      rw [if_neg fun h => hk (bytes_ext (by rw [h]))]
    have HKN : Hid (∀ W, (binOp .neq 9 (.string K) (.string ⟨#[104, 103]⟩)).run Tryz.prog W = .ok (.bool true) W) := fun W => by rw [neq_strs, decide_eq_false hk]; rfl
    clear hk
    have HB_0 : Hid (Below w.heap.size w ((w.alloc (.cells (coA ⟨zeros20, [], c.a, c.c, [(K, txt L)], c.m⟩ (.slice none 0 0) (.slice (some ⟨b, off, none⟩) 1 xc)) 34)).alloc (.cells (chA czero (.slice none 0 0) (.slice none 0 0)) 40))) := ((Below.refl _ _).alloc (Nat.le_refl _) _).alloc (by simp) _
    have HA_0 : Hid (Box ((w.alloc (.cells (coA ⟨zeros20, [], c.a, c.c, [(K, txt L)], c.m⟩ (.slice none 0 0) (.slice (some ⟨b, off, none⟩) 1 xc)) 34)).alloc (.cells (chA czero (.slice none 0 0) (.slice none 0 0)) 40)) w.heap.size (coA ⟨zeros20, [], c.a, c.c, [(K, txt L)], c.m⟩ (.slice none 0 0) (.slice (some ⟨b, off, none⟩) 1 xc)) 34) := (Box.new _ _ _).alloc _
    have HRS_0 : Hid (Box ((w.alloc (.cells (coA ⟨zeros20, [], c.a, c.c, [(K, txt L)], c.m⟩ (.slice none 0 0) (.slice (some ⟨b, off, none⟩) 1 xc)) 34)).alloc (.cells (chA czero (.slice none 0 0) (.slice none 0 0)) 40)) (w.heap.size + 1) (chA czero (.slice none 0 0) (.slice none 0 0)) 40) := by
      have h := Box.new (w.alloc (.cells (coA ⟨zeros20, [], c.a, c.c, [(K, txt L)], c.m⟩ (.slice none 0 0) (.slice (some ⟨b, off, none⟩) 1 xc)) 34)) (chA czero (.slice none 0 0) (.slice none 0 0)) 40
      rwa [show (w.alloc (.cells (coA ⟨zeros20, [], c.a, c.c, [(K, txt L)], c.m⟩ (.slice none 0 0) (.slice (some ⟨b, off, none⟩) 1 xc)) 34)).heap.size = w.heap.size + 1 by simp] at h
    go_enter Tryz.func30, Tryz.ntmps30
    go_wp2_with ((with_reducible refine (show wpList _ _ _ (⟨some 8, _, _, _, _, _⟩ :: _) _ _ from ?_)); refine Hid.out ?_)
    refine unhid ?_
    obtain ⟨w0, hw0⟩ : ∃ X, (w.alloc (.cells (coA ⟨zeros20, [], c.a, c.c, [(K, txt L)], c.m⟩ (.slice none 0 0) (.slice (some ⟨b, off, none⟩) 1 xc)) 34)).alloc (.cells (chA czero (.slice none 0 0) (.slice none 0 0)) 40) = X := ⟨_, rfl⟩
    rw [hw0] at HB_0 HA_0 HRS_0 ⊢
    obtain ⟨p0, hp0⟩ : ∃ p, w.heap.size = p := ⟨_, rfl⟩
    obtain ⟨p1, hp1⟩ : ∃ p, p0 + 1 = p := ⟨_, rfl⟩
    rw [hp0] at HA_0 HRS_0
    rw [hp1] at HRS_0
    simp only [hp0, hp1]
    have HP : Hid (w.heap.size = p0 ∧ p0 + 1 = p1) := ⟨hp0, hp1⟩
    have HB_w0 : Hid (Below w.heap.size w w0) := HB_0.out
    have HA_w0 := HA_0
    have HRS_w0 := HRS_0
    clear hw0 hp0 hp1 HB_0 HA_0 HRS_0
    have HRX0 : Hid (w0.rangeAt b off (extE (K, txt L))) := range_below HRX.out HB_w0.out HBL.out
    have hcx := (HA_w0.out.co zeros_20).exts
    have hck := range_key HRX0.out
    have hcv := range_val HRX0.out
    go_wp2_with (first
      | refine wpList_eql (by rfl) .neq 9 _ _ _ rfl (.string K) (.string ⟨#[104, 103]⟩) rfl rfl (.bool true) (guard_ne _ _ _ _) HKN.out ?_
      | refine wpList_buildQ rfl 40 _ rfl #[] (by rfl) _ build_ch0 ?_
      | refine wpList_store_row rfl 40 _ _ rfl p1 (chA czero (.slice none 0 0) (.slice none 0 0)) rfl rfl 40 (chA czero (.slice none 0 0) (.slice none 0 0)) HRS_w0.out (info_chA czero _ _ czero_20) rfl (chA_one _ _ _ rfl rfl) ?_)
    refine bodyPost_ret (results_row_tmp Tryz.results30 _ _ p1 40 (chA czero (.slice none 0 0) (.slice none 0 0)) (0, 0) _ rfl (Box.setRow HRS_w0.out) Tryz.underlying40 rfl (info_chA czero _ _ czero_20)) rfl ⟨.inr ⟨HNO.out, czero, (.slice none 0 0), rfl, czero_20, rfl⟩, below_setRow HB_w0.out (by have := HP.out.1; have := HP.out.2; omega) _⟩
  have HKN : Hid (∀ W, (binOp .neq 9 (.string K) (.string ⟨#[104, 103]⟩)).run Tryz.prog W = .ok (.bool false) W) := fun W => by rw [neq_strs, decide_eq_true hk]; rfl
  have HOS : Hid (o = match spkC L with
      | some x => if (both f).2 { x with d := c.m } = some (aloneC c) then some { x with d := c.m } else none
      | none => none) := by
    show _ = _
    rw [← HO.out]
    unfold inC
    rw [HEX.out]
    dsimp only
    rw [if_pos (by rw [hk]), txt_list]
    cases spkC L with
    | none => rfl
    | some x => rfl
  clear hk
  have HB_0 : Hid (Below w.heap.size w ((w.alloc (.cells (coA ⟨zeros20, [], c.a, c.c, [(K, txt L)], c.m⟩ (.slice none 0 0) (.slice (some ⟨b, off, none⟩) 1 xc)) 34)).alloc (.cells (chA czero (.slice none 0 0) (.slice none 0 0)) 40))) := ((Below.refl _ _).alloc (Nat.le_refl _) _).alloc (by simp) _
  have HA_0 : Hid (Box ((w.alloc (.cells (coA ⟨zeros20, [], c.a, c.c, [(K, txt L)], c.m⟩ (.slice none 0 0) (.slice (some ⟨b, off, none⟩) 1 xc)) 34)).alloc (.cells (chA czero (.slice none 0 0) (.slice none 0 0)) 40)) w.heap.size (coA ⟨zeros20, [], c.a, c.c, [(K, txt L)], c.m⟩ (.slice none 0 0) (.slice (some ⟨b, off, none⟩) 1 xc)) 34) := (Box.new _ _ _).alloc _
  have HRS_0 : Hid (Box ((w.alloc (.cells (coA ⟨zeros20, [], c.a, c.c, [(K, txt L)], c.m⟩ (.slice none 0 0) (.slice (some ⟨b, off, none⟩) 1 xc)) 34)).alloc (.cells (chA czero (.slice none 0 0) (.slice none 0 0)) 40)) (w.heap.size + 1) (chA czero (.slice none 0 0) (.slice none 0 0)) 40) := by
    have h := Box.new (w.alloc (.cells (coA ⟨zeros20, [], c.a, c.c, [(K, txt L)], c.m⟩ (.slice none 0 0) (.slice (some ⟨b, off, none⟩) 1 xc)) 34)) (chA czero (.slice none 0 0) (.slice none 0 0)) 40
    rwa [show (w.alloc (.cells (coA ⟨zeros20, [], c.a, c.c, [(K, txt L)], c.m⟩ (.slice none 0 0) (.slice (some ⟨b, off, none⟩) 1 xc)) 34)).heap.size = w.heap.size + 1 by simp] at h
  go_enter Tryz.func30, Tryz.ntmps30
  go_wp2_with ((with_reducible refine (show wpList _ _ _ (⟨some 8, _, _, _, _, _⟩ :: _) _ _ from ?_)); refine Hid.out ?_)
  refine unhid ?_
  obtain ⟨w0, hw0⟩ : ∃ X, (w.alloc (.cells (coA ⟨zeros20, [], c.a, c.c, [(K, txt L)], c.m⟩ (.slice none 0 0) (.slice (some ⟨b, off, none⟩) 1 xc)) 34)).alloc (.cells (chA czero (.slice none 0 0) (.slice none 0 0)) 40) = X := ⟨_, rfl⟩
  rw [hw0] at HB_0 HA_0 HRS_0 ⊢
  obtain ⟨p0, hp0⟩ : ∃ p, w.heap.size = p := ⟨_, rfl⟩
  obtain ⟨p1, hp1⟩ : ∃ p, p0 + 1 = p := ⟨_, rfl⟩
  rw [hp0] at HA_0 HRS_0
  rw [hp1] at HRS_0
  simp only [hp0, hp1]
  have HP : Hid (w.heap.size = p0 ∧ p0 + 1 = p1) := ⟨hp0, hp1⟩
  have HB_w0 : Hid (Below w.heap.size w w0) := HB_0.out
  have HA_w0 := HA_0
  have HRS_w0 := HRS_0
  clear hw0 hp0 hp1 HB_0 HA_0 HRS_0
  have HRX0 : Hid (w0.rangeAt b off (extE (K, txt L))) := range_below HRX.out HB_w0.out HBL.out
  have hcx := (HA_w0.out.co zeros_20).exts
  have hck := range_key HRX0.out
  have hcv := range_val HRX0.out
  go_wp2_with (first
    | refine wpList_eql (by rfl) .neq 9 _ _ _ rfl (.string K) (.string ⟨#[104, 103]⟩) rfl rfl (.bool false) (guard_ne _ _ _ _) HKN.out ?_)
  clear hcx hck hcv HRX0
  have HW0S : Hid (p1 < w0.heap.size) := HRS_w0.out.lt
  refine (parsewords_any L w0 (HE.out.below HB_w0.out) HL.out).mono ?_
  rintro e w1 ⟨hsp, hb⟩
  have HB_w1 : Hid (Below w.heap.size w w1) := HB_w0.out.trans ((hb).mono HB_w0.out.size)
  have HA_w1 : Hid (Box w1 p0 (coA ⟨zeros20, [], c.a, c.c, [(K, txt L)], c.m⟩ (.slice none 0 0) (.slice (some ⟨b, off, none⟩) 1 xc)) 34) := HA_w0.out.below (hb)
  have HRS_w1 : Hid (Box w1 p1 (chA czero (.slice none 0 0) (.slice none 0 0)) 40) := HRS_w0.out.below (hb)
  clear HB_w0 HA_w0 HRS_w0
  clear hb
  rcases hsp with ⟨x, ya, yc, hsp, rfl, hrw⟩ | ⟨hsp, y, xv, rfl, hy20, hyo⟩
  rotate_left
  · have HNO : Hid (o = none) := by show _ = _; rw [HOS.out, hsp]
    have HY := Lib.hid hy20
    have HYO := Lib.hid hyo
    clear hsp hy20 hyo
    have HZ : Hid ((w1.alloc (.cells (chA czero (.slice none 0 0) (.slice none 0 0)) 40)).heap[w1.heap.size]? = some (.cells (chA czero (.slice none 0 0) (.slice none 0 0)) 40 (0, 0))) := heap_alloc_new _ _
    have HS : Hid (Below w1.heap.size w1 ((w1.alloc (.cells (chA czero (.slice none 0 0) (.slice none 0 0)) 40)).setRow w1.heap.size (chA y xv (.slice none 0 0)))) := below_setRow ((Below.refl _ _).alloc (Nat.le_refl _) _) (Nat.le_refl _) _
    have HN : Hid (Box ((w1.alloc (.cells (chA czero (.slice none 0 0) (.slice none 0 0)) 40)).setRow w1.heap.size (chA y xv (.slice none 0 0))) w1.heap.size (chA y xv (.slice none 0 0)) 40) := setRow_heap _ _ _ _ _ _ HZ.out
    go_wp2_with (first
      | (refine wpList_store_row rfl 40 _ _ rfl w1.heap.size (chA y xv (.slice none 0 0)) rfl rfl 40 (chA czero (.slice none 0 0) (.slice none 0 0)) HZ.out (info_chA y _ _ HY.out) (by rw [chA_size _ _ _ czero_20, chA_size _ _ _ HY.out]) (chA_one _ _ _ HYO.out rfl) ?_
         obtain ⟨w2, hw⟩ : ∃ X, (w1.alloc (.cells (chA czero (.slice none 0 0) (.slice none 0 0)) 40)).setRow w1.heap.size (chA y xv (.slice none 0 0)) = X := ⟨_, rfl⟩
         rw [hw] at HS HN ⊢
         obtain ⟨q, hq⟩ : ∃ q, w1.heap.size = q := ⟨_, rfl⟩
         rw [hq] at HN ⊢
         clear hw HZ
         have HB_w2 : Hid (Below w.heap.size w w2) := HB_w1.out.trans ((HS.out).mono HB_w1.out.size)
         have HA_w2 : Hid (Box w2 p0 (coA ⟨zeros20, [], c.a, c.c, [(K, txt L)], c.m⟩ (.slice none 0 0) (.slice (some ⟨b, off, none⟩) 1 xc)) 34) := HA_w1.out.below (HS.out)
         have HRS_w2 : Hid (Box w2 p1 (chA czero (.slice none 0 0) (.slice none 0 0)) 40) := HRS_w1.out.below (HS.out)
         clear HB_w1 HA_w1 HRS_w1
         have HXB_w2 : Hid (Box w2 q (chA y xv (.slice none 0 0)) 40) := HN.out
         clear HS HN hq)
      | refine wpList_buildQ rfl 40 _ rfl #[] (by rfl) _ build_ch0 ?_
      | refine wpList_store_row rfl 40 _ _ rfl p1 (chA czero (.slice none 0 0) (.slice none 0 0)) rfl rfl 40 (chA czero (.slice none 0 0) (.slice none 0 0)) HRS_w2.out (info_chA czero _ _ czero_20) rfl (chA_one _ _ _ rfl rfl) ?_)
    refine bodyPost_ret (results_row_tmp Tryz.results30 _ _ p1 40 (chA czero (.slice none 0 0) (.slice none 0 0)) (0, 0) _ rfl (Box.setRow HRS_w2.out) Tryz.underlying40 rfl (info_chA czero _ _ czero_20)) rfl ⟨.inr ⟨HNO.out, czero, (.slice none 0 0), rfl, czero_20, rfl⟩, below_setRow HB_w2.out (by have := HP.out.1; have := HP.out.2; omega) _⟩
  have HSP := Lib.hid hsp
  have HTX := Lib.hid (spk_size hsp HL.out c.m HTC.out.2.2)
  obtain ⟨hwl, -, xs, hxs⟩ := spk_back hsp
  have HXN : Hid (x.n = zeros20 ∧ x.fs = []) := by rw [hxs]; exact ⟨rfl, rfl⟩
  have HZX : Hid (szE x.xs < f) := by have h1 := szE_words x; rw [hwl] at h1; have h2 := HSZ.out; have h3 := HSL.out; show _ < _; omega
  have HX20 : Hid (x.n.length = 20) := by rw [HXN.out.1]; exact zeros_20
  have HRW_w1 : Hid (Rw w0.heap.size w1 ya x.xs) := hrw
  have HLT : Hid (p0 < w0.heap.size ∧ p1 < w0.heap.size ∧ w.heap.size ≤ w0.heap.size) := by have h1 := HP.out.1; have h2 := HP.out.2; have h3 := HW0S.out; exact ⟨by omega, by omega, by omega⟩
  clear hsp hwl hxs hrw
  obtain ⟨n, hN⟩ : ∃ n, x.xs.length = n := ⟨_, rfl⟩
  have HN := Lib.hid hN
  rw [hN]
  clear hN
  have HZ : Hid ((w1.alloc (.cells (chA czero (.slice none 0 0) (.slice none 0 0)) 40)).heap[w1.heap.size]? = some (.cells (chA czero (.slice none 0 0) (.slice none 0 0)) 40 (0, 0))) := heap_alloc_new _ _
  have HS : Hid (Below w1.heap.size w1 ((w1.alloc (.cells (chA czero (.slice none 0 0) (.slice none 0 0)) 40)).setRow w1.heap.size (chA x (.slice ya n yc) (.slice none 0 0)))) := below_setRow ((Below.refl _ _).alloc (Nat.le_refl _) _) (Nat.le_refl _) _
  have HN : Hid (Box ((w1.alloc (.cells (chA czero (.slice none 0 0) (.slice none 0 0)) 40)).setRow w1.heap.size (chA x (.slice ya n yc) (.slice none 0 0))) w1.heap.size (chA x (.slice ya n yc) (.slice none 0 0)) 40) := setRow_heap _ _ _ _ _ _ HZ.out
  go_wp2_with (first
    | (refine wpList_store_row rfl 40 _ _ rfl w1.heap.size (chA x (.slice ya n yc) (.slice none 0 0)) rfl rfl 40 (chA czero (.slice none 0 0) (.slice none 0 0)) HZ.out (info_chA x _ _ HX20.out) (by rw [chA_size _ _ _ czero_20, chA_size _ _ _ HX20.out]) (chA_one _ _ _ rfl rfl) ?_
       obtain ⟨w2, hw⟩ : ∃ X, (w1.alloc (.cells (chA czero (.slice none 0 0) (.slice none 0 0)) 40)).setRow w1.heap.size (chA x (.slice ya n yc) (.slice none 0 0)) = X := ⟨_, rfl⟩
       rw [hw] at HS HN ⊢
       obtain ⟨q, hq⟩ : ∃ q, w1.heap.size = q := ⟨_, rfl⟩
       rw [hq] at HN ⊢
       clear hw HZ
       have HQ : Hid (p0 < q ∧ p1 < q ∧ w.heap.size ≤ q) := by rw [← hq]; exact ⟨HA_w1.out.lt, HRS_w1.out.lt, HB_w1.out.size⟩
       have HRQ : Hid (∀ W, Below q w1 W → Rw w0.heap.size W ya x.xs) := fun W hW => HRW_w1.out.below (hW.mono (Nat.le_of_eq hq))
       have HB_w2 : Hid (Below w.heap.size w w2) := HB_w1.out.trans ((HS.out).mono HB_w1.out.size)
       have HA_w2 : Hid (Box w2 p0 (coA ⟨zeros20, [], c.a, c.c, [(K, txt L)], c.m⟩ (.slice none 0 0) (.slice (some ⟨b, off, none⟩) 1 xc)) 34) := HA_w1.out.below (HS.out)
       have HRS_w2 : Hid (Box w2 p1 (chA czero (.slice none 0 0) (.slice none 0 0)) 40) := HRS_w1.out.below (HS.out)
       have HRW_w2 : Hid (Rw w0.heap.size w2 ya x.xs) := HRW_w1.out.below (HS.out)
       clear HB_w1 HA_w1 HRS_w1 HRW_w1
       have HXB_w2 : Hid (Box w2 q (chA x (.slice ya n yc) (.slice none 0 0)) 40) := HN.out
       have hcm := (HA_w2.out.co zeros_20).msg
       have hcd := (HXB_w2.out.ch HX20.out).d
       have hfo := frozen_of_row w2 q 25 _ _ HXB_w2.out
       have HB_X : Hid (Below w.heap.size w (w2.setCell ⟨q, 25, none⟩ (.string c.m))) := HB_w2.out.setCell (p := ⟨q, 25, none⟩) HQ.out.2.2 _
       have HA_X : Hid (Box (w2.setCell ⟨q, 25, none⟩ (.string c.m)) p0 (coA ⟨zeros20, [], c.a, c.c, [(K, txt L)], c.m⟩ (.slice none 0 0) (.slice (some ⟨b, off, none⟩) 1 xc)) 34) := HA_w2.out.setCell_ne (Nat.ne_of_lt HQ.out.1)
       have HRS_X : Hid (Box (w2.setCell ⟨q, 25, none⟩ (.string c.m)) p1 (chA czero (.slice none 0 0) (.slice none 0 0)) 40) := HRS_w2.out.setCell_ne (Nat.ne_of_lt HQ.out.2.1)
       have HXB_X : Hid (Box (w2.setCell ⟨q, 25, none⟩ (.string c.m)) q (chA ⟨x.n, x.u, x.t, x.z, x.xs, x.fs, c.m⟩ (.slice ya n yc) (.slice none 0 0)) 40) := HXB_w2.out.setCell (chA_set x _ _ HX20.out 5 _ _ rfl)
       have HBq : Hid (Below q w1 (w2.setCell ⟨q, 25, none⟩ (.string c.m))) := by have h := HS.out; rw [hq] at h; exact h.setCell (p := ⟨q, 25, none⟩) (Nat.le_refl _) _
       have HRW_X : Hid (Rw w0.heap.size (w2.setCell ⟨q, 25, none⟩ (.string c.m)) ya x.xs) := HRQ.out _ HBq.out
       clear HBq HRQ
       clear HS HN hq)
    | refine wpList_load_row rfl 40 _ rfl q rfl 40 (chA ⟨x.n, x.u, x.t, x.z, x.xs, x.fs, c.m⟩ (.slice ya n yc) (.slice none 0 0)) (0, 0) _ HXB_X.out Tryz.underlying40 rfl (info_chA ⟨x.n, x.u, x.t, x.z, x.xs, x.fs, c.m⟩ _ _ HX20.out) ?_)
  clear hcm hcd hfo HB_w2 HA_w2 HRS_w2 HXB_w2 HRW_w2
  obtain ⟨w3, hw⟩ : ∃ X, (w2.setCell ⟨q, 25, none⟩ (.string c.m)) = X := ⟨_, rfl⟩
  rw [hw] at HB_X HA_X HRS_X HXB_X HRW_X ⊢
  have HB_w3 := HB_X
  have HA_w3 := HA_X
  have HRS_w3 := HRS_X
  have HXB_w3 := HXB_X
  have HRW_w3 := HRW_X
  clear hw HB_X HA_X HRS_X HXB_X HRW_X
  have hcall := IH.out ⟨x.n, x.u, x.t, x.z, x.xs, x.fs, c.m⟩ ya yc (.slice none 0 0) w3 HX20.out rfl HRW_w3.out.row HTX.out HZX.out (HE.out.below HB_w3.out)
  obtain ⟨r, hr⟩ : ∃ r, (both f).2 ⟨x.n, x.u, x.t, x.z, x.xs, x.fs, c.m⟩ = r := ⟨_, rfl⟩
  rw [hr, show (⟨x.n, x.u, x.t, x.z, x.xs, x.fs, c.m⟩ : CX).xs.length = n from HN.out] at hcall
  have HOR : Hid (o = if r = some (aloneC c) then some ⟨x.n, x.u, x.t, x.z, x.xs, x.fs, c.m⟩ else none) := by show _ = _; rw [HOS.out, HSP.out]; show (if (both f).2 (⟨x.n, x.u, x.t, x.z, x.xs, x.fs, c.m⟩ : CX) = some (aloneC c) then some (⟨x.n, x.u, x.t, x.z, x.xs, x.fs, c.m⟩ : CX) else none) = _; rw [hr]
  have HYB : Hid (∀ y, r = some y → y.xs.length ≤ 100000) := fun y hy => by have h := both_lenX (hr.trans hy) HTX.out.2.1; omega
  clear hr HOS HSP
  refine (hcall).mono ?_
  rintro e w4 ⟨hcr, hb⟩
  have HB_w4 : Hid (Below w.heap.size w w4) := HB_w3.out.trans ((hb).mono HB_w3.out.size)
  have HA_w4 : Hid (Box w4 p0 (coA ⟨zeros20, [], c.a, c.c, [(K, txt L)], c.m⟩ (.slice none 0 0) (.slice (some ⟨b, off, none⟩) 1 xc)) 34) := HA_w3.out.below (hb)
  have HRS_w4 : Hid (Box w4 p1 (chA czero (.slice none 0 0) (.slice none 0 0)) 40) := HRS_w3.out.below (hb)
  have HXB_w4 : Hid (Box w4 q (chA ⟨x.n, x.u, x.t, x.z, x.xs, x.fs, c.m⟩ (.slice ya n yc) (.slice none 0 0)) 40) := HXB_w3.out.below (hb)
  have HRW_w4 : Hid (Rw w0.heap.size w4 ya x.xs) := HRW_w3.out.below (hb)
  clear HB_w3 HA_w3 HRS_w3 HXB_w3 HRW_w3
  clear hb
  clear hcall
  cases r with
  | none =>
    obtain rfl := hcr
    have HNO : Hid (o = none) := by show _ = _; rw [HOR.out, if_neg (by simp)]
    have HZ : Hid ((w4.alloc (.cells (coA cz (.slice none 0 0) (.slice none 0 0)) 34)).heap[w4.heap.size]? = some (.cells (coA cz (.slice none 0 0) (.slice none 0 0)) 34 (0, 0))) := heap_alloc_new _ _
    have HS : Hid (Below w4.heap.size w4 ((w4.alloc (.cells (coA cz (.slice none 0 0) (.slice none 0 0)) 34)).setRow w4.heap.size (coA cz (.slice none 0 0) (.slice none 0 0)))) := below_setRow ((Below.refl _ _).alloc (Nat.le_refl _) _) (Nat.le_refl _) _
    have HN : Hid (Box ((w4.alloc (.cells (coA cz (.slice none 0 0) (.slice none 0 0)) 34)).setRow w4.heap.size (coA cz (.slice none 0 0) (.slice none 0 0))) w4.heap.size (coA cz (.slice none 0 0) (.slice none 0 0)) 34) := setRow_heap _ _ _ _ _ _ HZ.out
    go_wp2_with (first
      | (refine wpList_store_row rfl 34 _ _ rfl w4.heap.size (coA cz (.slice none 0 0) (.slice none 0 0)) rfl rfl 34 (coA cz (.slice none 0 0) (.slice none 0 0)) HZ.out (info_coA cz _ _ cz_20) rfl (coA_one _ _ _ rfl rfl) ?_
         obtain ⟨w5, hw⟩ : ∃ X, (w4.alloc (.cells (coA cz (.slice none 0 0) (.slice none 0 0)) 34)).setRow w4.heap.size (coA cz (.slice none 0 0) (.slice none 0 0)) = X := ⟨_, rfl⟩
         rw [hw] at HS HN ⊢
         obtain ⟨rr, hq⟩ : ∃ q, w4.heap.size = q := ⟨_, rfl⟩
         rw [hq] at HN ⊢
         clear hw HZ
         have HR1 : Hid (p1 < rr) := by rw [← hq]; exact HRS_w4.out.lt
         have HB_w5 : Hid (Below w.heap.size w w5) := HB_w4.out.trans ((HS.out).mono HB_w4.out.size)
         have HA_w5 : Hid (Box w5 p0 (coA ⟨zeros20, [], c.a, c.c, [(K, txt L)], c.m⟩ (.slice none 0 0) (.slice (some ⟨b, off, none⟩) 1 xc)) 34) := HA_w4.out.below (HS.out)
         have HRS_w5 : Hid (Box w5 p1 (chA czero (.slice none 0 0) (.slice none 0 0)) 40) := HRS_w4.out.below (HS.out)
         have HXB_w5 : Hid (Box w5 q (chA ⟨x.n, x.u, x.t, x.z, x.xs, x.fs, c.m⟩ (.slice ya n yc) (.slice none 0 0)) 40) := HXB_w4.out.below (HS.out)
         have HRW_w5 : Hid (Rw w0.heap.size w5 ya x.xs) := HRW_w4.out.below (HS.out)
         clear HB_w4 HA_w4 HRS_w4 HXB_w4 HRW_w4
         have HBK_w5 : Hid (Box w5 rr (coA cz (.slice none 0 0) (.slice none 0 0)) 34) := HN.out
         clear HS HN hq))
    skip
    refine wp_region_noPanic ?_
    refine wp_region_held_drew (S := fun W => Box W q (chA ⟨x.n, x.u, x.t, x.z, x.xs, x.fs, c.m⟩ (.slice ya n yc) (.slice none 0 0)) 40 ∧ Box W rr (coA cz (.slice none 0 0) (.slice none 0 0)) 34 ∧ Box W p0 (coA ⟨zeros20, [], c.a, c.c, [(K, txt L)], c.m⟩ (.slice none 0 0) (.slice (some ⟨b, off, none⟩) 1 xc)) 34) (by kernel_rfl) ?_ (fun hHeld => ?_)
    · exact ⟨HXB_w5.out, HBK_w5.out, HA_w5.out⟩
    refine tkY 0 (hy := (yieldsIf_load_mid (by rfl) 40 _ rfl q 0 rfl (chL ⟨x.n, x.u, x.t, x.z, x.xs, x.fs, c.m⟩ (.slice ya n yc) (.slice none 0 0)) _ (fun W hSW => Box.range hSW.1) Tryz.underlying40 rfl (info_ch ⟨x.n, x.u, x.t, x.z, x.xs, x.fs, c.m⟩ _ _ HX20.out))) (h := ?_)
    try simp only [Act.put, List.setIfInBounds_toArray, List.set_cons_zero, List.set_cons_succ]
    refine tkV 1 (v := ?_) (hw := ?_) (h := ?_)
    rotate_left
    · intro W hSW
      go_simp
      try with_reducible rfl
    try simp only [Act.put, List.setIfInBounds_toArray, List.set_cons_zero, List.set_cons_succ]
    refine tkV 2 (v := ?_) (hw := ?_) (h := ?_)
    rotate_left
    · intro W hSW
      go_simp
      try with_reducible rfl
    try simp only [Act.put, List.setIfInBounds_toArray, List.set_cons_zero, List.set_cons_succ]
    refine tkV 3 (v := ?_) (hw := ?_) (h := ?_)
    rotate_left
    · intro W hSW
      go_simp
      try with_reducible rfl
    try simp only [Act.put, List.setIfInBounds_toArray, List.set_cons_zero, List.set_cons_succ]
    refine tkN 4 (h := ?_)
    try simp only [Act.put, List.setIfInBounds_toArray, List.set_cons_zero, List.set_cons_succ]
    refine tkN 5 (h := ?_)
    try simp only [Act.put, List.setIfInBounds_toArray, List.set_cons_zero, List.set_cons_succ]
    refine tkN 6 (h := ?_)
    try simp only [Act.put, List.setIfInBounds_toArray, List.set_cons_zero, List.set_cons_succ]
    refine tkV 7 (v := ?_) (hw := ?_) (h := ?_)
    rotate_left
    · intro W hSW
      go_simp
      try with_reducible rfl
    try simp only [Act.put, List.setIfInBounds_toArray, List.set_cons_zero, List.set_cons_succ]
    refine wpAnyH_ready (rs := [8]) (by kernel_rfl) (by simp) ?_
    refine AllReadyH.cons (by simp only [List.getElem?_toArray, List.getElem?_cons_succ, List.getElem?_cons_zero]; rfl) (fun K hK => ?_) AllReadyH.nil
    refine step_store_row (by rfl) 40 _ _ rfl p1 (chA ⟨x.n, x.u, x.t, x.z, x.xs, x.fs, c.m⟩ (.slice ya n yc) (.slice none 0 0)) rfl rfl 40 (chA czero (.slice none 0 0) (.slice none 0 0)) HRS_w5.out (info_chA ⟨x.n, x.u, x.t, x.z, x.xs, x.fs, c.m⟩ _ _ HX20.out) (by rw [chA_size _ _ _ czero_20, chA_size _ _ _ (show (⟨x.n, x.u, x.t, x.z, x.xs, x.fs, c.m⟩ : CX).n.length = 20 from HX20.out)]) (chA_one _ _ _ rfl rfl) ?_
    refine hK.out _ _ (⟨Box.setRow_ne HXB_w5.out (Nat.ne_of_gt HQ.out.2.1), Box.setRow_ne HBK_w5.out (Nat.ne_of_gt HR1.out), Box.setRow_ne HA_w5.out (by have := HP.out.2; omega)⟩) (fun hHeld2 => ?_)
    clear hK K hHeld
    have hHeld := hHeld2
    clear hHeld2
    try simp only [Act.put, List.setIfInBounds_toArray, List.set_cons_zero, List.set_cons_succ]
    refine tkV 9 (v := ?_) (hw := ?_) (h := ?_)
    rotate_left
    · intro W hSW
      go_simp
      try with_reducible rfl
    try simp only [Act.put, List.setIfInBounds_toArray, List.set_cons_zero, List.set_cons_succ]
    refine wpAnyH_done (by kernel_rfl) ?_ _
    refine NoPanic.normal ?_
    clear hHeld
    go_wp2_with fail
    refine bodyPost_ret (results_row_tmp Tryz.results30 _ _ p1 40 (chA ⟨x.n, x.u, x.t, x.z, x.xs, x.fs, c.m⟩ (.slice ya n yc) (.slice none 0 0)) (0, 0) _ rfl (Box.setRow HRS_w5.out) Tryz.underlying40 rfl (info_chA ⟨x.n, x.u, x.t, x.z, x.xs, x.fs, c.m⟩ _ _ HX20.out)) rfl ⟨.inr ⟨HNO.out, ⟨x.n, x.u, x.t, x.z, x.xs, x.fs, c.m⟩, (.slice ya n yc), rfl, HX20.out, rfl⟩, below_setRow HB_w5.out.drew (by have := HP.out.1; have := HP.out.2; omega) _⟩
  | some y =>
    obtain ⟨pp, pq, va, vc, rfl, hy1, hy2, hyr⟩ := hcr
    have HY20 : Hid (y.tr.length = 20) := by rw [hy1]; exact zeros_20
    have HSA := Lib.hid (same_alone (c := c) hy1 hy2)
    have HVR_w4 : Hid (Rw w3.heap.size w4 va y.xs) := hyr
    clear hy1 hy2 hyr
    skip
    obtain ⟨m, hM⟩ : ∃ m, y.xs.length = m := ⟨_, rfl⟩
    have HM := Lib.hid hM
    rw [hM]
    clear hM
    have HZ : Hid ((w4.alloc (.cells (coA cz (.slice none 0 0) (.slice none 0 0)) 34)).heap[w4.heap.size]? = some (.cells (coA cz (.slice none 0 0) (.slice none 0 0)) 34 (0, 0))) := heap_alloc_new _ _
    have HS : Hid (Below w4.heap.size w4 ((w4.alloc (.cells (coA cz (.slice none 0 0) (.slice none 0 0)) 34)).setRow w4.heap.size (coA y (.slice pp 0 pq) (.slice va m vc)))) := below_setRow ((Below.refl _ _).alloc (Nat.le_refl _) _) (Nat.le_refl _) _
    have HN : Hid (Box ((w4.alloc (.cells (coA cz (.slice none 0 0) (.slice none 0 0)) 34)).setRow w4.heap.size (coA y (.slice pp 0 pq) (.slice va m vc))) w4.heap.size (coA y (.slice pp 0 pq) (.slice va m vc)) 34) := setRow_heap _ _ _ _ _ _ HZ.out
    go_wp2_with (first
      | (refine wpList_store_row rfl 34 _ _ rfl w4.heap.size (coA y (.slice pp 0 pq) (.slice va m vc)) rfl rfl 34 (coA cz (.slice none 0 0) (.slice none 0 0)) HZ.out (info_coA y _ _ HY20.out) (by rw [coA_size _ _ _ cz_20, coA_size _ _ _ HY20.out]) (coA_one _ _ _ rfl rfl) ?_
         obtain ⟨w5, hw⟩ : ∃ X, (w4.alloc (.cells (coA cz (.slice none 0 0) (.slice none 0 0)) 34)).setRow w4.heap.size (coA y (.slice pp 0 pq) (.slice va m vc)) = X := ⟨_, rfl⟩
         rw [hw] at HS HN ⊢
         obtain ⟨rr, hq⟩ : ∃ q, w4.heap.size = q := ⟨_, rfl⟩
         rw [hq] at HN ⊢
         clear hw HZ
         have HR1 : Hid (p1 < rr) := by rw [← hq]; exact HRS_w4.out.lt
         have HB_w5 : Hid (Below w.heap.size w w5) := HB_w4.out.trans ((HS.out).mono HB_w4.out.size)
         have HA_w5 : Hid (Box w5 p0 (coA ⟨zeros20, [], c.a, c.c, [(K, txt L)], c.m⟩ (.slice none 0 0) (.slice (some ⟨b, off, none⟩) 1 xc)) 34) := HA_w4.out.below (HS.out)
         have HRS_w5 : Hid (Box w5 p1 (chA czero (.slice none 0 0) (.slice none 0 0)) 40) := HRS_w4.out.below (HS.out)
         have HXB_w5 : Hid (Box w5 q (chA ⟨x.n, x.u, x.t, x.z, x.xs, x.fs, c.m⟩ (.slice ya n yc) (.slice none 0 0)) 40) := HXB_w4.out.below (HS.out)
         have HRW_w5 : Hid (Rw w0.heap.size w5 ya x.xs) := HRW_w4.out.below (HS.out)
         have HVR_w5 : Hid (Rw w3.heap.size w5 va y.xs) := HVR_w4.out.below (HS.out)
         clear HB_w4 HA_w4 HRS_w4 HXB_w4 HRW_w4 HVR_w4
         have HBK_w5 : Hid (Box w5 rr (coA y (.slice pp 0 pq) (.slice va m vc)) 34) := HN.out
         clear HS HN hq))
    obtain ⟨bq, hbq⟩ : ∃ b, decide (sameCB y (aloneC c)) = b := ⟨_, rfl⟩
    have HSC : Hid (∀ W, Below w5.heap.size w5 W → Calls Tryz.prog 54 #[.agg (coA y (.slice pp 0 pq) (.slice va m vc)), .agg (coA ⟨zeros20, [], c.a, c.c, [(K, txt L)], c.m⟩ (.slice none 0 0) (.slice (some ⟨b, off, none⟩) 1 xc))] W fun e w' => e = .returned (.bool bq) ∧ Below W.heap.size W w') := fun W hW => by have h := samecommit_any y ⟨zeros20, [], c.a, c.c, [(K, txt L)], c.m⟩ (.slice pp 0 pq) (.slice none 0 0) va vc (some ⟨b, off, none⟩) xc W HY20.out zeros_20 (HVR_w5.out.row.below hW) (HX1.out.below (HB_w5.out.trans (hW.mono HB_w5.out.size))) (HYB.out _ rfl) (by show 1 ≤ _; decide); rw [HM.out, ← HCD.out, hbq] at h; rw [HCD.out] at h; exact h
    have HBQ := Lib.hid hbq
    clear hbq
    refine wp_region_noPanic ?_
    refine wp_region_held_drew (S := fun W => Box W q (chA ⟨x.n, x.u, x.t, x.z, x.xs, x.fs, c.m⟩ (.slice ya n yc) (.slice none 0 0)) 40 ∧ Box W rr (coA y (.slice pp 0 pq) (.slice va m vc)) 34 ∧ Box W p0 (coA ⟨zeros20, [], c.a, c.c, [(K, txt L)], c.m⟩ (.slice none 0 0) (.slice (some ⟨b, off, none⟩) 1 xc)) 34) (by kernel_rfl) ?_ (fun hHeld => ?_)
    · exact ⟨HXB_w5.out, HBK_w5.out, HA_w5.out⟩
    refine tkY 0 (hy := (yieldsIf_load_mid (by rfl) 40 _ rfl q 0 rfl (chL ⟨x.n, x.u, x.t, x.z, x.xs, x.fs, c.m⟩ (.slice ya n yc) (.slice none 0 0)) _ (fun W hSW => Box.range hSW.1) Tryz.underlying40 rfl (info_ch ⟨x.n, x.u, x.t, x.z, x.xs, x.fs, c.m⟩ _ _ HX20.out))) (h := ?_)
    try simp only [Act.put, List.setIfInBounds_toArray, List.set_cons_zero, List.set_cons_succ]
    refine tkV 1 (v := ?_) (hw := ?_) (h := ?_)
    rotate_left
    · intro W hSW
      go_simp
      try with_reducible rfl
    try simp only [Act.put, List.setIfInBounds_toArray, List.set_cons_zero, List.set_cons_succ]
    refine tkV 2 (v := ?_) (hw := ?_) (h := ?_)
    rotate_left
    · intro W hSW
      go_simp
      try with_reducible rfl
    try simp only [Act.put, List.setIfInBounds_toArray, List.set_cons_zero, List.set_cons_succ]
    refine tkV 3 (v := ?_) (hw := ?_) (h := ?_)
    rotate_left
    · intro W hSW
      go_simp
      try with_reducible rfl
    try simp only [Act.put, List.setIfInBounds_toArray, List.set_cons_zero, List.set_cons_succ]
    refine tkY 4 (hy := (yieldsIf_load_mid (by rfl) 34 _ rfl rr 0 rfl (coL y (.slice pp 0 pq) (.slice va m vc)) _ (fun W hSW => Box.range hSW.2.1) Tryz.underlying34 rfl (info_co y _ _ HY20.out))) (h := ?_)
    try simp only [Act.put, List.setIfInBounds_toArray, List.set_cons_zero, List.set_cons_succ]
    refine tkY 5 (hy := (yieldsIf_load_mid (by rfl) 34 _ rfl p0 0 rfl (coL ⟨zeros20, [], c.a, c.c, [(K, txt L)], c.m⟩ (.slice none 0 0) (.slice (some ⟨b, off, none⟩) 1 xc)) _ (fun W hSW => Box.range hSW.2.2) Tryz.underlying34 rfl (info_co ⟨zeros20, [], c.a, c.c, [(K, txt L)], c.m⟩ _ _ zeros_20))) (h := ?_)
    try simp only [Act.put, List.setIfInBounds_toArray, List.set_cons_zero, List.set_cons_succ]
    refine wpAnyH_ready (rs := [6]) (by kernel_rfl) (by simp) ?_
    refine AllReadyH.cons (by simp only [List.getElem?_toArray, List.getElem?_cons_succ, List.getElem?_cons_zero]; rfl) (fun K hK => ?_) AllReadyH.nil
    go_simp
    refine (HSC.out _ ((Below.refl _ _).drew)).mono ?_
    rintro e w6 ⟨rfl, hb⟩
    have hbb : Below w5.heap.size w5 w6 := (Below.refl _ _).drew.trans hb
    have HB_w6 := Lib.hid (HB_w5.out.trans (hbb.mono HB_w5.out.size))
    have HA_w6 := Lib.hid (HA_w5.out.below hbb)
    have HRS_w6 := Lib.hid (HRS_w5.out.below hbb)
    have HXB_w6 := Lib.hid (HXB_w5.out.below hbb)
    have HRW_w6 := Lib.hid (HRW_w5.out.below hbb)
    have HBK_w6 := Lib.hid (HBK_w5.out.below hbb)
    clear hb hbb
    go_wp2_with fail
    refine hK.out _ _ (⟨HXB_w6.out, HBK_w6.out, HA_w6.out⟩) (fun hHeld2 => ?_)
    clear hK K hHeld
    have hHeld := hHeld2
    clear hHeld2
    try simp only [Act.put, List.setIfInBounds_toArray, List.set_cons_zero, List.set_cons_succ]
    refine tkV 7 (v := ?_) (hw := ?_) (h := ?_)
    rotate_left
    · intro W hSW
      go_simp
      try with_reducible rfl
    try simp only [Act.put, List.setIfInBounds_toArray, List.set_cons_zero, List.set_cons_succ]
    refine wpAnyH_ready (rs := [8]) (by kernel_rfl) (by simp) ?_
    refine AllReadyH.cons (by simp only [List.getElem?_toArray, List.getElem?_cons_succ, List.getElem?_cons_zero]; rfl) (fun K hK => ?_) AllReadyH.nil
    refine step_store_row (by rfl) 40 _ _ rfl p1 (chA ⟨x.n, x.u, x.t, x.z, x.xs, x.fs, c.m⟩ (.slice ya n yc) (.slice none 0 0)) rfl rfl 40 (chA czero (.slice none 0 0) (.slice none 0 0)) HRS_w6.out (info_chA ⟨x.n, x.u, x.t, x.z, x.xs, x.fs, c.m⟩ _ _ HX20.out) (by rw [chA_size _ _ _ czero_20, chA_size _ _ _ (show (⟨x.n, x.u, x.t, x.z, x.xs, x.fs, c.m⟩ : CX).n.length = 20 from HX20.out)]) (chA_one _ _ _ rfl rfl) ?_
    refine hK.out _ _ (⟨Box.setRow_ne HXB_w6.out (Nat.ne_of_gt HQ.out.2.1), Box.setRow_ne HBK_w6.out (Nat.ne_of_gt HR1.out), Box.setRow_ne HA_w6.out (by have := HP.out.2; omega)⟩) (fun hHeld2 => ?_)
    clear hK K hHeld
    have hHeld := hHeld2
    clear hHeld2
    try simp only [Act.put, List.setIfInBounds_toArray, List.set_cons_zero, List.set_cons_succ]
    refine tkV 9 (v := ?_) (hw := ?_) (h := ?_)
    rotate_left
    · intro W hSW
      go_simp
      try with_reducible rfl
    try simp only [Act.put, List.setIfInBounds_toArray, List.set_cons_zero, List.set_cons_succ]
    refine wpAnyH_done (by kernel_rfl) ?_ _
    refine NoPanic.normal ?_
    clear hHeld
    go_wp2_with fail
    have HFW : Hid (Rw w.heap.size (w6.setRow p1 (chA ⟨x.n, x.u, x.t, x.z, x.xs, x.fs, c.m⟩ (.slice ya n yc) (.slice none 0 0))) ya x.xs) := (HRW_w6.out.setRow HLT.out.2.1).lower HLT.out.2.2
    refine bodyPost_ret (results_row_tmp Tryz.results30 _ _ p1 40 (chA ⟨x.n, x.u, x.t, x.z, x.xs, x.fs, c.m⟩ (.slice ya n yc) (.slice none 0 0)) (0, 0) _ rfl (Box.setRow HRS_w6.out) Tryz.underlying40 rfl (info_chA ⟨x.n, x.u, x.t, x.z, x.xs, x.fs, c.m⟩ _ _ HX20.out)) rfl ⟨?_, below_setRow HB_w6.out (by have := HP.out.1; have := HP.out.2; omega) _⟩
    cases bq
    · exact .inr ⟨by rw [HOR.out, if_neg fun h => of_decide_eq_false HBQ.out (HSA.out.2 (Option.some.inj h))], ⟨x.n, x.u, x.t, x.z, x.xs, x.fs, c.m⟩, (.slice ya n yc), rfl, HX20.out, rfl⟩
    · exact .inl ⟨⟨x.n, x.u, x.t, x.z, x.xs, x.fs, c.m⟩, ya, yc, by rw [HOR.out, if_pos (congrArg some (HSA.out.1 (of_decide_eq_true HBQ.out)))], by rw [show (⟨x.n, x.u, x.t, x.z, x.xs, x.fs, c.m⟩ : CX).xs.length = n from HN.out] <;> rfl, HXN.out.1, HXN.out.2, HFW.out⟩
end Go.Proofs.YtkpiinjhcckhfaaGreatDoor
