/- The law ChangeParses. -/
import Derived.Test.YthokcdjmhhlcdaaGreatDoorZLawPrints
namespace Go.Proofs.YthokcdjmhhlcdaaGreatDoor
open Go.RowKit Plain Go.ChangeShapes Go.WideShapes Go.ChangeAt Go.Great
set_option linter.unusedVariables false
set_option linter.unusedSimpArgs false
set_option maxRecDepth 100000 in
set_option maxHeartbeats 32000000 in
theorem lawparses_any (a : Option Addr) (len cap : Nat) (xs : List Int) (w : World) (hE : EnvC w) (hR : RowB w a (min len 2000) cap xs) (hlc : len ≤ cap) :
    Calls Tryz.prog 4 #[.slice a len cap] w fun e w' => e = .returned (.bool true) ∧ Below w.heap.size w w' := by
  obtain ⟨L, rfl⟩ := text_of xs hR.mem
  obtain ⟨m, hm⟩ : ∃ m, min len 2000 = m := ⟨_, rfl⟩
  rw [hm] at hR
  have HMB : Hid (m ≤ 2000) := by show _ ≤ _; omega
  have hmin : min (len : Int) 2000 = (m : Int) := by omega
  have hsl : ∀ W, (Instr.sliceAt 33 (.slice a len cap) none (some (.int .i64 (m : Int))) none).run Tryz.prog W = .ok (.slice a m cap) W := slice_to a len cap m (by omega)
  have R := Lib.hid hR
  have HE := Lib.hid hE
  have HL : Hid (L.length ≤ 2000) := by have h1 := hR.bytes.1; rw [numsOf_length, txt_size] at h1; show _ ≤ _; omega
  have HPS := Lib.hid (parse_same numP numP_itoa L)
  have HTX : Hid (∀ W, Below w.heap.size w W → (convert 33 9 (.slice a m cap)).run Tryz.prog W = .ok (.string (txt L)) W) := fun W hW => by
    have := text_run W a m cap _ (R.out.bytes.below hW)
    rwa [str_nums] at this
  have htx := HTX.out w (Below.refl _ _)
  have HSE := Lib.hid (eq_self (txt L))
  have hzc := zero_ch
  have hzr := zero_rch
  clear hE hR hm hlc
  go_enter Tryz.func4, Tryz.ntmps4
  go_wp2_with fail
  clear hmin hsl htx
  refine (chparse_any a m cap L w R.out.bytes (by have := HMB.out; omega) HE.out).mono ?_
  rintro e w1 ⟨hpo, hb⟩
  have HB1 := Lib.hid hb
  clear hb
  cases hpc : parseC L with
  | none =>
    rw [hpc] at hpo
    obtain rfl := hpo
    obtain ⟨F, hF⟩ : ∃ F, F = czero := ⟨_, rfl⟩
    obtain ⟨ya, hya⟩ : ∃ a : Option Addr, a = none := ⟨_, rfl⟩
    obtain ⟨yc, hyc⟩ : ∃ a : Nat, a = 0 := ⟨_, rfl⟩
    obtain ⟨za, hza⟩ : ∃ a : Option Addr, a = none := ⟨_, rfl⟩
    obtain ⟨zc, hzc0⟩ : ∃ a : Nat, a = 0 := ⟨_, rfl⟩
    rw [show chV czero none 0 none 0 = chV F ya yc za zc by rw [hF, hya, hyc, hza, hzc0]]
    have hat : ChAt w1 F ya yc za zc := by
      rw [hF, hya, hza, hzc0]
      exact ⟨czero_20, kbyt, .inl rfl, .inl rfl, fun _ => ⟨rfl, rfl⟩⟩
    have HWE : Hid (ChWee F) := by
      show ChWee F
      rw [hF]
      exact ⟨by decide, by decide, by decide, by decide, fun x hx => absurd hx (by show x ∉ []; simp), fun x hx => absurd hx (by show x ∉ []; simp), by decide, by decide⟩
    have HCZ : Hid (∀ W : Ending × World, RcParse W.1 W.2 none → W.1 = .returned (.tuple #[.agg (chV F ya yc za zc), .bool false])) := fun W h => by
      rw [hF, hya, hyc, hza, hzc0]; exact h
    clear hF hyc hya hza hzc0
    have HN20 := Lib.hid hat.n20
    have HXN : Hid (F.xs.length ≤ 100000) := by have := HWE.out.2.2.1; show _ ≤ _; omega
    have HFN : Hid (F.fs.length ≤ 100000) := by have := HWE.out.2.2.2.1; show _ ≤ _; omega
    have HZ1 : Hid ((w1.alloc (.cells (chA czero (.slice none 0 0) (.slice none 0 0)) 30)).heap[w1.heap.size]? = some (.cells (chA czero (.slice none 0 0) (.slice none 0 0)) 30 (0, 0))) := heap_alloc_new _ _
    have HS1 : Hid (Below w1.heap.size w1 ((w1.alloc (.cells (chA czero (.slice none 0 0) (.slice none 0 0)) 30)).setRow w1.heap.size (chV F ya yc za zc))) := below_setRow ((Below.refl _ _).alloc (Nat.le_refl _) _) (Nat.le_refl _) _
    have HR1 : Hid (((w1.alloc (.cells (chA czero (.slice none 0 0) (.slice none 0 0)) 30)).setRow w1.heap.size (chV F ya yc za zc)).heap[w1.heap.size]? = some (.cells (chV F ya yc za zc) 30 (0, 0))) := setRow_heap _ _ _ _ _ _ HZ1.out
    have HAT0 := Lib.hid (hat.below HS1.out)
    have HCX : Hid ((chL F (.slice ya F.xs.length yc) (.slice za F.fs.length zc)).toArray = chV F ya yc za zc) := rfl
    clear hat
    go_wp2_with (first
      | refine wpList_store_row rfl 30 _ _ rfl w1.heap.size (chV F ya yc za zc) rfl rfl 30 (chA czero (.slice none 0 0) (.slice none 0 0)) HZ1.out (info_chA F _ _ HN20.out) (by unfold chV; rw [chA_size _ _ _ czero_20, chA_size F _ _ HN20.out]) (chA_one _ _ _ rfl rfl) ?_)
    obtain ⟨w2, hw1⟩ : ∃ X, (w1.alloc (.cells (chA czero (.slice none 0 0) (.slice none 0 0)) 30)).setRow w1.heap.size (chV F ya yc za zc) = X := ⟨_, rfl⟩
    rw [hw1] at HS1 HR1 HAT0 ⊢
    obtain ⟨xb, hb1⟩ : ∃ x, w1.heap.size = x := ⟨_, rfl⟩
    rw [hb1] at HR1 ⊢
    clear hw1 hb1 HZ1
    have HB2 := Lib.hid (HB1.out.trans (HS1.out.mono HB1.out.size))
    refine (rcparse_any L w2 HL.out).mono ?_
    rintro e w3 ⟨hpr, hb⟩
    rw [hpc] at hpr
    have HB3 := Lib.hid (HB2.out.trans (hb.mono HB2.out.size))
    have HXR3 := Lib.hid ((hb.block xb (Array.getElem?_eq_some_iff.1 HR1.out).1).trans HR1.out)
    have HAT3 := Lib.hid (HAT0.out.below hb)
    clear hb HAT0 HR1 hpc
    obtain ⟨oa, hoa⟩ : ∃ a, a = ya := ⟨_, rfl⟩
    obtain ⟨oc, hoc⟩ : ∃ a, a = yc := ⟨_, rfl⟩
    obtain ⟨qa, hqa⟩ : ∃ a, a = za := ⟨_, rfl⟩
    obtain ⟨qc, hqc⟩ : ∃ a, a = zc := ⟨_, rfl⟩
    have he : e = .returned (.tuple #[.agg (chV F oa oc qa qc), .bool false]) := by rw [hoa, hoc, hqa, hqc]; exact HCZ.out (e, w3) hpr
    subst he
    have ho1 : RowAt 2 extE w3 oa F.xs := by rw [hoa]; exact HAT3.out.exts
    have ho2 : RowAt 1 strE w3 qa F.fs := by rw [hqa]; exact HAT3.out.files
    clear hpr HCZ hoa hoc hqa hqc
    have HO1 := Lib.hid ho1
    have HO2 := Lib.hid ho2
    clear ho1 ho2
    have HZ3 : Hid ((w3.alloc (.cells (chA czero (.slice none 0 0) (.slice none 0 0)) 26)).heap[w3.heap.size]? = some (.cells (chA czero (.slice none 0 0) (.slice none 0 0)) 26 (0, 0))) := heap_alloc_new _ _
    have HS3 : Hid (Below w3.heap.size w3 ((w3.alloc (.cells (chA czero (.slice none 0 0) (.slice none 0 0)) 26)).setRow w3.heap.size (chV F oa oc qa qc))) := below_setRow ((Below.refl _ _).alloc (Nat.le_refl _) _) (Nat.le_refl _) _
    have HR3 : Hid (((w3.alloc (.cells (chA czero (.slice none 0 0) (.slice none 0 0)) 26)).setRow w3.heap.size (chV F oa oc qa qc)).heap[w3.heap.size]? = some (.cells (chV F oa oc qa qc) 26 (0, 0))) := setRow_heap _ _ _ _ _ _ HZ3.out
    have HCY : Hid ((chL F (.slice oa F.xs.length oc) (.slice qa F.fs.length qc)).toArray = chV F oa oc qa qc) := rfl
    go_wp2_with (first
      | refine wpList_store_row rfl 26 _ _ rfl w3.heap.size (chV F oa oc qa qc) rfl rfl 26 (chA czero (.slice none 0 0) (.slice none 0 0)) HZ3.out (info_rchA F _ _ HN20.out) (by unfold chV; rw [chA_size _ _ _ czero_20, chA_size F _ _ HN20.out]) (chA_one _ _ _ rfl rfl) ?_)
    have HXR4 := Lib.hid ((HS3.out.block xb (Array.getElem?_eq_some_iff.1 HXR3.out).1).trans HXR3.out)
    have HATX := Lib.hid (HAT3.out.below HS3.out)
    have HROX := Lib.hid (HO1.out.below HS3.out)
    have HROF := Lib.hid (HO2.out.below HS3.out)
    clear HXR3 HAT3 HO1 HO2
    obtain ⟨w7, hw3⟩ : ∃ X, (w3.alloc (.cells (chA czero (.slice none 0 0) (.slice none 0 0)) 26)).setRow w3.heap.size (chV F oa oc qa qc) = X := ⟨_, rfl⟩
    rw [hw3] at HS3 HR3 HXR4 HATX HROX HROF ⊢
    obtain ⟨yb, hb3⟩ : ∃ x, w3.heap.size = x := ⟨_, rfl⟩
    rw [hb3] at HR3 ⊢
    clear hw3 hb3 HZ3
    have HB7 := Lib.hid (HB3.out.trans (HS3.out.mono HB3.out.size))
    have HLX : Hid (∀ W, Below w7.heap.size w7 W → W.rangeAt xb 0 (chL F (.slice ya F.xs.length yc) (.slice za F.fs.length zc))) := fun W hW => (ChRow.of ((hW.block xb (Array.getElem?_eq_some_iff.1 HXR4.out).1).trans HXR4.out) HN20.out).cells
    have HLY : Hid (∀ W, Below w7.heap.size w7 W → W.rangeAt yb 0 (chL F (.slice oa F.xs.length oc) (.slice qa F.fs.length qc))) := fun W hW => (ChRow.of ((hW.block yb (Array.getElem?_eq_some_iff.1 HR3.out).1).trans HR3.out) HN20.out).cells
    clear HXR4 HR3 HB3 HB2 HB1
    refine wp_region_noPanic ?_
    refine wp_region_held_drew (S := fun W => Below w7.heap.size w7 W) (by kernel_rfl) ?_ (fun hHeld => ?_)
    · exact (Below.refl _ _).drew
    refine wpAnyH_ready (rs := [0]) (by kernel_rfl) (by simp) ?_
    refine AllReadyH.cons (by simp only [List.getElem?_toArray, List.getElem?_cons_zero]; rfl) (fun K hK => ?_) AllReadyH.nil
    go_simp
    refine (chknown_any _ (HE.out.below (HB7.out.trans ((Below.refl w7.heap.size w7).drew.mono HB7.out.size)))).mono ?_
    rintro e v0 ⟨rfl, hb⟩
    have hv0 : Below w7.heap.size w7 v0 := (Below.refl _ _).drew.trans hb
    have HV0 := Lib.hid hv0
    clear hb hv0
    go_wp2_with fail
    refine hK.out _ _ (HV0.out) (fun hHeld2 => ?_)
    clear hK K hHeld
    have hHeld := hHeld2
    clear hHeld2
    try simp only [Act.put, List.setIfInBounds_toArray, List.set_cons_zero, List.set_cons_succ]
    refine wpAnyH_take (i := 1) (v := ?_) (by simp only [List.getElem?_toArray, List.getElem?_cons_succ, List.getElem?_cons_zero]; rfl) (by kernel_rfl) (by kernel_rfl) (by kernel_rfl) (fun _ _ _ h => h) (Or.inl ⟨by rfl, ?_⟩) (by assumption) ?_
    rotate_left
    · intro W hSW
      go_simp
      try with_reducible rfl
    try simp only [Act.put, List.setIfInBounds_toArray, List.set_cons_zero, List.set_cons_succ]
    refine wpAnyH_take (i := 2) (v := ?_) (by simp only [List.getElem?_toArray, List.getElem?_cons_succ, List.getElem?_cons_zero]; rfl) (by kernel_rfl) (by kernel_rfl) (by kernel_rfl) (fun _ _ _ h => h) (Or.inl ⟨by rfl, ?_⟩) (by assumption) ?_
    rotate_left
    · intro W hSW
      go_simp
      try with_reducible rfl
    try simp only [Act.put, List.setIfInBounds_toArray, List.set_cons_zero, List.set_cons_succ]
    refine wpAnyH_take (i := 3) (v := ?_) (by simp only [List.getElem?_toArray, List.getElem?_cons_succ, List.getElem?_cons_zero]; rfl) (by kernel_rfl) (by kernel_rfl) (by kernel_rfl) (fun _ _ _ h => h) (Or.inl ⟨by rfl, ?_⟩) (by assumption) ?_
    rotate_left
    · intro W hSW
      go_simp
      try with_reducible rfl
    try simp only [Act.put, List.setIfInBounds_toArray, List.set_cons_zero, List.set_cons_succ]
    refine wpAnyH_take (i := 4) (v := ?_) (by simp only [List.getElem?_toArray, List.getElem?_cons_succ, List.getElem?_cons_zero]; rfl) (by kernel_rfl) (by kernel_rfl) (by kernel_rfl) (fun _ _ _ h => h) (Or.inl ⟨by rfl, ?_⟩) (by assumption) ?_
    rotate_left
    · intro W hSW
      go_simp
      try with_reducible rfl
    try simp only [Act.put, List.setIfInBounds_toArray, List.set_cons_zero, List.set_cons_succ]
    refine wpAnyH_take (i := 5) (v := ?_) (by simp only [List.getElem?_toArray, List.getElem?_cons_succ, List.getElem?_cons_zero]; rfl) (by kernel_rfl) (by kernel_rfl) (by kernel_rfl) (fun _ _ _ h => h) (Or.inl ⟨by rfl, ?_⟩) (by assumption) ?_
    rotate_left
    · intro W hSW
      go_simp
      try with_reducible rfl
    try simp only [Act.put, List.setIfInBounds_toArray, List.set_cons_zero, List.set_cons_succ]
    refine wpAnyH_take (i := 6) (v := ?_) (by simp only [List.getElem?_toArray, List.getElem?_cons_succ, List.getElem?_cons_zero]; rfl) (by kernel_rfl) (by kernel_rfl) (by kernel_rfl) (fun _ _ _ h => h) (Or.inl ⟨by rfl, ?_⟩) (by assumption) ?_
    rotate_left
    · intro W hSW
      go_simp
      try with_reducible rfl
    try simp only [Act.put, List.setIfInBounds_toArray, List.set_cons_zero, List.set_cons_succ]
    refine wpAnyH_take (i := 7) (v := ?_) (by simp only [List.getElem?_toArray, List.getElem?_cons_succ, List.getElem?_cons_zero]; rfl) (by kernel_rfl) (by kernel_rfl) (by kernel_rfl) (fun _ _ _ h => h) (Or.inl ⟨by rfl, ?_⟩) (by assumption) ?_
    rotate_left
    · intro W hSW
      go_simp
      try with_reducible rfl
    try simp only [Act.put, List.setIfInBounds_toArray, List.set_cons_zero, List.set_cons_succ]
    refine wpAnyH_take (i := 8) (v := ?_) (by simp only [List.getElem?_toArray, List.getElem?_cons_succ, List.getElem?_cons_zero]; rfl) (by kernel_rfl) (by kernel_rfl) (by kernel_rfl) (fun _ _ _ h => h) (Or.inl ⟨by rfl, ?_⟩) (by assumption) ?_
    rotate_left
    · intro W hSW
      go_simp
      try with_reducible rfl
    try simp only [Act.put, List.setIfInBounds_toArray, List.set_cons_zero, List.set_cons_succ]
    refine wpAnyH_take (i := 9) (v := ?_) (by simp only [List.getElem?_toArray, List.getElem?_cons_succ, List.getElem?_cons_zero]; rfl) (by kernel_rfl) (by kernel_rfl) (by kernel_rfl) (fun _ _ _ h => h) (Or.inl ⟨by rfl, ?_⟩) (by assumption) ?_
    rotate_left
    · intro W hSW
      go_simp
      try with_reducible rfl
    try simp only [Act.put, List.setIfInBounds_toArray, List.set_cons_zero, List.set_cons_succ]
    refine wpAnyH_take (i := 10) (v := ?_) (by simp only [List.getElem?_toArray, List.getElem?_cons_succ, List.getElem?_cons_zero]; rfl) (by kernel_rfl) (by kernel_rfl) (by kernel_rfl) (fun _ _ _ h => h) (Or.inl ⟨by rfl, ?_⟩) (by assumption) ?_
    rotate_left
    · intro W hSW
      go_simp
      try with_reducible rfl
    try simp only [Act.put, List.setIfInBounds_toArray, List.set_cons_zero, List.set_cons_succ]
    refine wpAnyH_take (i := 11) (v := ?_) (by simp only [List.getElem?_toArray, List.getElem?_cons_succ, List.getElem?_cons_zero]; rfl) (by kernel_rfl) (by kernel_rfl) (by kernel_rfl) (fun _ _ _ h => h) (Or.inl ⟨by rfl, ?_⟩) (by assumption) ?_
    rotate_left
    · intro W hSW
      go_simp
      try with_reducible rfl
    try simp only [Act.put, List.setIfInBounds_toArray, List.set_cons_zero, List.set_cons_succ]
    refine wpAnyH_take (i := 12) (v := ?_) (by simp only [List.getElem?_toArray, List.getElem?_cons_succ, List.getElem?_cons_zero]; rfl) (by kernel_rfl) (by kernel_rfl) (by kernel_rfl) (fun _ _ _ h => h) (Or.inl ⟨by rfl, ?_⟩) (by assumption) ?_
    rotate_left
    · intro W hSW
      go_simp
      try with_reducible rfl
    try simp only [Act.put, List.setIfInBounds_toArray, List.set_cons_zero, List.set_cons_succ]
    refine wpAnyH_take (i := 13) (v := ?_) (by simp only [List.getElem?_toArray, List.getElem?_cons_succ, List.getElem?_cons_zero]; rfl) (by kernel_rfl) (by kernel_rfl) (by kernel_rfl) (fun _ _ _ h => h) (Or.inl ⟨by rfl, ?_⟩) (by assumption) ?_
    rotate_left
    · intro W hSW
      go_simp
      try with_reducible rfl
    try simp only [Act.put, List.setIfInBounds_toArray, List.set_cons_zero, List.set_cons_succ]
    refine wpAnyH_take (i := 14) (v := ?_) (by simp only [List.getElem?_toArray, List.getElem?_cons_succ, List.getElem?_cons_zero]; rfl) (by kernel_rfl) (by kernel_rfl) (by kernel_rfl) (fun _ _ _ h => h) (Or.inl ⟨by rfl, ?_⟩) (by assumption) ?_
    rotate_left
    · intro W hSW
      go_simp
      try with_reducible rfl
    try simp only [Act.put, List.setIfInBounds_toArray, List.set_cons_zero, List.set_cons_succ]
    refine wpAnyH_take (i := 15) (by simp only [List.getElem?_toArray, List.getElem?_cons_succ, List.getElem?_cons_zero]; rfl) (by kernel_rfl) (by kernel_rfl) (by kernel_rfl) (fun _ _ _ h => h) (yieldsIf_load_mid (by rfl) 30 _ rfl xb 0 rfl (chL F (.slice ya F.xs.length yc) (.slice za F.fs.length zc)) _ (fun W hSW => HLX.out W hSW) Tryz.underlying30 rfl (info_ch F _ _ HN20.out)) (by assumption) ?_
    try simp only [Act.put, List.setIfInBounds_toArray, List.set_cons_zero, List.set_cons_succ]
    rw [HCX.out]
    refine wpAnyH_take (i := 17) (by simp only [List.getElem?_toArray, List.getElem?_cons_succ, List.getElem?_cons_zero]; rfl) (by kernel_rfl) (by kernel_rfl) (by kernel_rfl) (fun _ _ _ h => h) (yieldsIf_load_mid (by rfl) 26 _ rfl yb 0 rfl (chL F (.slice oa F.xs.length oc) (.slice qa F.fs.length qc)) _ (fun W hSW => HLY.out W hSW) Tryz.underlying26 rfl (info_rch F _ _ HN20.out)) (by assumption) ?_
    try simp only [Act.put, List.setIfInBounds_toArray, List.set_cons_zero, List.set_cons_succ]
    rw [HCY.out]
    refine wpAnyH_ready (rs := [16]) (by kernel_rfl) (by simp) ?_
    refine AllReadyH.cons (by simp only [List.getElem?_toArray, List.getElem?_cons_succ, List.getElem?_cons_zero]; rfl) (fun K hK => ?_) AllReadyH.nil
    go_simp
    refine (chof_any F ya yc za zc _ (HATX.out.below HV0.out) HXN.out HFN.out).mono ?_
    rintro e v2 ⟨⟨ra, rc, sa, sc, rfl, ho1, ho2⟩, hb⟩
    have hv2 : Below w7.heap.size w7 v2 := HV0.out.trans (hb.mono HV0.out.size)
    have HV2 := Lib.hid hv2
    have HO3 := Lib.hid ho1
    have HO4 := Lib.hid ho2
    clear hb hv2 ho1 ho2
    go_wp2_with fail
    refine hK.out _ _ (HV2.out) (fun hHeld2 => ?_)
    clear hK K hHeld
    have hHeld := hHeld2
    clear hHeld2
    try simp only [Act.put, List.setIfInBounds_toArray, List.set_cons_zero, List.set_cons_succ]
    refine wpAnyH_ready (rs := [18]) (by kernel_rfl) (by simp) ?_
    refine AllReadyH.cons (by simp only [List.getElem?_toArray, List.getElem?_cons_succ, List.getElem?_cons_zero]; rfl) (fun K hK => ?_) AllReadyH.nil
    go_simp
    refine (chsame_any F ra rc sa sc oa oc qa qc _ HN20.out HO3.out HO4.out (HROX.out.below HV2.out) (HROF.out.below HV2.out) HXN.out HFN.out).mono ?_
    rintro e v3 ⟨rfl, hb⟩
    have hv3 : Below w7.heap.size w7 v3 := HV2.out.trans (hb.mono HV2.out.size)
    have HV3 := Lib.hid hv3
    clear hb hv3
    go_wp2_with fail
    refine hK.out _ _ (HV3.out) (fun hHeld2 => ?_)
    clear hK K hHeld
    have hHeld := hHeld2
    clear hHeld2
    try simp only [Act.put, List.setIfInBounds_toArray, List.set_cons_zero, List.set_cons_succ]
    refine wpAnyH_take (i := 19) (v := ?_) (by simp only [List.getElem?_toArray, List.getElem?_cons_succ, List.getElem?_cons_zero]; rfl) (by kernel_rfl) (by kernel_rfl) (by kernel_rfl) (fun _ _ _ h => h) (Or.inl ⟨by rfl, ?_⟩) (by assumption) ?_
    rotate_left
    · intro W hSW
      go_simp
      try with_reducible rfl
    try simp only [Act.put, List.setIfInBounds_toArray, List.set_cons_zero, List.set_cons_succ]
    refine wpAnyH_take (i := 20) (v := ?_) (by simp only [List.getElem?_toArray, List.getElem?_cons_succ, List.getElem?_cons_zero]; rfl) (by kernel_rfl) (by kernel_rfl) (by kernel_rfl) (fun _ _ _ h => h) (Or.inl ⟨by rfl, ?_⟩) (by assumption) ?_
    rotate_left
    · intro W hSW
      go_simp
      try with_reducible rfl
    try simp only [Act.put, List.setIfInBounds_toArray, List.set_cons_zero, List.set_cons_succ]
    refine wpAnyH_take (i := 21) (v := ?_) (by simp only [List.getElem?_toArray, List.getElem?_cons_succ, List.getElem?_cons_zero]; rfl) (by kernel_rfl) (by kernel_rfl) (by kernel_rfl) (fun _ _ _ h => h) (Or.inl ⟨by rfl, ?_⟩) (by assumption) ?_
    rotate_left
    · intro W hSW
      go_simp
      try with_reducible rfl
    try simp only [Act.put, List.setIfInBounds_toArray, List.set_cons_zero, List.set_cons_succ]
    refine wpAnyH_take (i := 22) (by simp only [List.getElem?_toArray, List.getElem?_cons_succ, List.getElem?_cons_zero]; rfl) (by kernel_rfl) (by kernel_rfl) (by kernel_rfl) (fun _ _ _ h => h) (yieldsIf_conv (by rfl) 33 9 _ rfl (.slice a m cap) rfl (.string (txt L)) (fun W hSW => HTX.out W (HB7.out.trans (hSW.mono HB7.out.size)))) (by assumption) ?_
    try simp only [Act.put, List.setIfInBounds_toArray, List.set_cons_zero, List.set_cons_succ]
    refine wpAnyH_take (i := 23) (v := ?_) (by simp only [List.getElem?_toArray, List.getElem?_cons_succ, List.getElem?_cons_zero]; rfl) (by kernel_rfl) (by kernel_rfl) (by kernel_rfl) (fun _ _ _ h => h) (Or.inl ⟨by rfl, ?_⟩) (by assumption) ?_
    rotate_left
    · intro W hSW
      go_simp
      try with_reducible rfl
    try simp only [Act.put, List.setIfInBounds_toArray, List.set_cons_zero, List.set_cons_succ]
    refine wpAnyH_take (i := 24) (by simp only [List.getElem?_toArray, List.getElem?_cons_succ, List.getElem?_cons_zero]; rfl) (by kernel_rfl) (by kernel_rfl) (by kernel_rfl) (fun _ _ _ h => h) (yieldsIf_eql (by rfl) .eql 9 _ _ _ rfl (.string (txt L)) (.string (txt L)) rfl rfl (.bool true) (guard_eq _ _ _ _) (fun W => HSE.out W)) (by assumption) ?_
    try simp only [Act.put, List.setIfInBounds_toArray, List.set_cons_zero, List.set_cons_succ]
    refine wpAnyH_take (i := 25) (v := ?_) (by simp only [List.getElem?_toArray, List.getElem?_cons_succ, List.getElem?_cons_zero]; rfl) (by kernel_rfl) (by kernel_rfl) (by kernel_rfl) (fun _ _ _ h => h) (Or.inl ⟨by rfl, ?_⟩) (by assumption) ?_
    rotate_left
    · intro W hSW
      go_simp
      try with_reducible rfl
    try simp only [Act.put, List.setIfInBounds_toArray, List.set_cons_zero, List.set_cons_succ]
    refine wpAnyH_take (i := 26) (v := ?_) (by simp only [List.getElem?_toArray, List.getElem?_cons_succ, List.getElem?_cons_zero]; rfl) (by kernel_rfl) (by kernel_rfl) (by kernel_rfl) (fun _ _ _ h => h) (Or.inl ⟨by rfl, ?_⟩) (by assumption) ?_
    rotate_left
    · intro W hSW
      go_simp
      try with_reducible rfl
    try simp only [Act.put, List.setIfInBounds_toArray, List.set_cons_zero, List.set_cons_succ]
    refine wpAnyH_done (by kernel_rfl) ?_ _
    refine NoPanic.normal ?_
    clear hHeld
    go_wp2_with fail
    go_ret
    exact ⟨rfl, HB7.out.trans (HV3.out.mono HB7.out.size)⟩
  | some F =>
    rw [hpc] at hpo
    obtain ⟨ya, yc, za, zc, rfl, hat⟩ := hpo
    have HWE : Hid (ChWee F) := by
      obtain ⟨-, -, h3⟩ := parseC_some hpc
      have h4 := raw_wee HL.out
      have h5 := HPS.out
      rw [hpc] at h5
      have h6 : rawR numP L = F := by
        split at h5
        · simpa using h5
        · cases h5
      rw [h6] at h4; exact h4
    have HN20 := Lib.hid hat.n20
    have HXN : Hid (F.xs.length ≤ 100000) := by have := HWE.out.2.2.1; show _ ≤ _; omega
    have HFN : Hid (F.fs.length ≤ 100000) := by have := HWE.out.2.2.2.1; show _ ≤ _; omega
    have HZ1 : Hid ((w1.alloc (.cells (chA czero (.slice none 0 0) (.slice none 0 0)) 30)).heap[w1.heap.size]? = some (.cells (chA czero (.slice none 0 0) (.slice none 0 0)) 30 (0, 0))) := heap_alloc_new _ _
    have HS1 : Hid (Below w1.heap.size w1 ((w1.alloc (.cells (chA czero (.slice none 0 0) (.slice none 0 0)) 30)).setRow w1.heap.size (chV F ya yc za zc))) := below_setRow ((Below.refl _ _).alloc (Nat.le_refl _) _) (Nat.le_refl _) _
    have HR1 : Hid (((w1.alloc (.cells (chA czero (.slice none 0 0) (.slice none 0 0)) 30)).setRow w1.heap.size (chV F ya yc za zc)).heap[w1.heap.size]? = some (.cells (chV F ya yc za zc) 30 (0, 0))) := setRow_heap _ _ _ _ _ _ HZ1.out
    have HAT0 := Lib.hid (hat.below HS1.out)
    have HCX : Hid ((chL F (.slice ya F.xs.length yc) (.slice za F.fs.length zc)).toArray = chV F ya yc za zc) := rfl
    clear hat
    go_wp2_with (first
      | refine wpList_store_row rfl 30 _ _ rfl w1.heap.size (chV F ya yc za zc) rfl rfl 30 (chA czero (.slice none 0 0) (.slice none 0 0)) HZ1.out (info_chA F _ _ HN20.out) (by unfold chV; rw [chA_size _ _ _ czero_20, chA_size F _ _ HN20.out]) (chA_one _ _ _ rfl rfl) ?_)
    obtain ⟨w2, hw1⟩ : ∃ X, (w1.alloc (.cells (chA czero (.slice none 0 0) (.slice none 0 0)) 30)).setRow w1.heap.size (chV F ya yc za zc) = X := ⟨_, rfl⟩
    rw [hw1] at HS1 HR1 HAT0 ⊢
    obtain ⟨xb, hb1⟩ : ∃ x, w1.heap.size = x := ⟨_, rfl⟩
    rw [hb1] at HR1 ⊢
    clear hw1 hb1 HZ1
    have HB2 := Lib.hid (HB1.out.trans (HS1.out.mono HB1.out.size))
    refine (rcparse_any L w2 HL.out).mono ?_
    rintro e w3 ⟨hpr, hb⟩
    rw [hpc] at hpr
    have HB3 := Lib.hid (HB2.out.trans (hb.mono HB2.out.size))
    have HXR3 := Lib.hid ((hb.block xb (Array.getElem?_eq_some_iff.1 HR1.out).1).trans HR1.out)
    have HAT3 := Lib.hid (HAT0.out.below hb)
    clear hb HAT0 HR1 hpc
    obtain ⟨oa, oc, qa, qc, rfl, ho1, ho2⟩ := hpr
    have HO1 := Lib.hid ho1
    have HO2 := Lib.hid ho2
    clear ho1 ho2
    have HZ3 : Hid ((w3.alloc (.cells (chA czero (.slice none 0 0) (.slice none 0 0)) 26)).heap[w3.heap.size]? = some (.cells (chA czero (.slice none 0 0) (.slice none 0 0)) 26 (0, 0))) := heap_alloc_new _ _
    have HS3 : Hid (Below w3.heap.size w3 ((w3.alloc (.cells (chA czero (.slice none 0 0) (.slice none 0 0)) 26)).setRow w3.heap.size (chV F oa oc qa qc))) := below_setRow ((Below.refl _ _).alloc (Nat.le_refl _) _) (Nat.le_refl _) _
    have HR3 : Hid (((w3.alloc (.cells (chA czero (.slice none 0 0) (.slice none 0 0)) 26)).setRow w3.heap.size (chV F oa oc qa qc)).heap[w3.heap.size]? = some (.cells (chV F oa oc qa qc) 26 (0, 0))) := setRow_heap _ _ _ _ _ _ HZ3.out
    have HCY : Hid ((chL F (.slice oa F.xs.length oc) (.slice qa F.fs.length qc)).toArray = chV F oa oc qa qc) := rfl
    go_wp2_with (first
      | refine wpList_store_row rfl 26 _ _ rfl w3.heap.size (chV F oa oc qa qc) rfl rfl 26 (chA czero (.slice none 0 0) (.slice none 0 0)) HZ3.out (info_rchA F _ _ HN20.out) (by unfold chV; rw [chA_size _ _ _ czero_20, chA_size F _ _ HN20.out]) (chA_one _ _ _ rfl rfl) ?_)
    have HXR4 := Lib.hid ((HS3.out.block xb (Array.getElem?_eq_some_iff.1 HXR3.out).1).trans HXR3.out)
    have HATX := Lib.hid (HAT3.out.below HS3.out)
    have HROX := Lib.hid (HO1.out.below HS3.out)
    have HROF := Lib.hid (HO2.out.below HS3.out)
    clear HXR3 HAT3 HO1 HO2
    obtain ⟨w7, hw3⟩ : ∃ X, (w3.alloc (.cells (chA czero (.slice none 0 0) (.slice none 0 0)) 26)).setRow w3.heap.size (chV F oa oc qa qc) = X := ⟨_, rfl⟩
    rw [hw3] at HS3 HR3 HXR4 HATX HROX HROF ⊢
    obtain ⟨yb, hb3⟩ : ∃ x, w3.heap.size = x := ⟨_, rfl⟩
    rw [hb3] at HR3 ⊢
    clear hw3 hb3 HZ3
    have HB7 := Lib.hid (HB3.out.trans (HS3.out.mono HB3.out.size))
    have HLX : Hid (∀ W, Below w7.heap.size w7 W → W.rangeAt xb 0 (chL F (.slice ya F.xs.length yc) (.slice za F.fs.length zc))) := fun W hW => (ChRow.of ((hW.block xb (Array.getElem?_eq_some_iff.1 HXR4.out).1).trans HXR4.out) HN20.out).cells
    have HLY : Hid (∀ W, Below w7.heap.size w7 W → W.rangeAt yb 0 (chL F (.slice oa F.xs.length oc) (.slice qa F.fs.length qc))) := fun W hW => (ChRow.of ((hW.block yb (Array.getElem?_eq_some_iff.1 HR3.out).1).trans HR3.out) HN20.out).cells
    clear HXR4 HR3 HB3 HB2 HB1
    refine wp_region_noPanic ?_
    refine wp_region_held_drew (S := fun W => Below w7.heap.size w7 W) (by kernel_rfl) ?_ (fun hHeld => ?_)
    · exact (Below.refl _ _).drew
    refine wpAnyH_ready (rs := [0]) (by kernel_rfl) (by simp) ?_
    refine AllReadyH.cons (by simp only [List.getElem?_toArray, List.getElem?_cons_zero]; rfl) (fun K hK => ?_) AllReadyH.nil
    go_simp
    refine (chknown_any _ (HE.out.below (HB7.out.trans ((Below.refl w7.heap.size w7).drew.mono HB7.out.size)))).mono ?_
    rintro e v0 ⟨rfl, hb⟩
    have hv0 : Below w7.heap.size w7 v0 := (Below.refl _ _).drew.trans hb
    have HV0 := Lib.hid hv0
    clear hb hv0
    go_wp2_with fail
    refine hK.out _ _ (HV0.out) (fun hHeld2 => ?_)
    clear hK K hHeld
    have hHeld := hHeld2
    clear hHeld2
    try simp only [Act.put, List.setIfInBounds_toArray, List.set_cons_zero, List.set_cons_succ]
    refine wpAnyH_take (i := 1) (v := ?_) (by simp only [List.getElem?_toArray, List.getElem?_cons_succ, List.getElem?_cons_zero]; rfl) (by kernel_rfl) (by kernel_rfl) (by kernel_rfl) (fun _ _ _ h => h) (Or.inl ⟨by rfl, ?_⟩) (by assumption) ?_
    rotate_left
    · intro W hSW
      go_simp
      try with_reducible rfl
    try simp only [Act.put, List.setIfInBounds_toArray, List.set_cons_zero, List.set_cons_succ]
    refine wpAnyH_take (i := 2) (v := ?_) (by simp only [List.getElem?_toArray, List.getElem?_cons_succ, List.getElem?_cons_zero]; rfl) (by kernel_rfl) (by kernel_rfl) (by kernel_rfl) (fun _ _ _ h => h) (Or.inl ⟨by rfl, ?_⟩) (by assumption) ?_
    rotate_left
    · intro W hSW
      go_simp
      try with_reducible rfl
    try simp only [Act.put, List.setIfInBounds_toArray, List.set_cons_zero, List.set_cons_succ]
    refine wpAnyH_take (i := 3) (v := ?_) (by simp only [List.getElem?_toArray, List.getElem?_cons_succ, List.getElem?_cons_zero]; rfl) (by kernel_rfl) (by kernel_rfl) (by kernel_rfl) (fun _ _ _ h => h) (Or.inl ⟨by rfl, ?_⟩) (by assumption) ?_
    rotate_left
    · intro W hSW
      go_simp
      try with_reducible rfl
    try simp only [Act.put, List.setIfInBounds_toArray, List.set_cons_zero, List.set_cons_succ]
    refine wpAnyH_take (i := 4) (v := ?_) (by simp only [List.getElem?_toArray, List.getElem?_cons_succ, List.getElem?_cons_zero]; rfl) (by kernel_rfl) (by kernel_rfl) (by kernel_rfl) (fun _ _ _ h => h) (Or.inl ⟨by rfl, ?_⟩) (by assumption) ?_
    rotate_left
    · intro W hSW
      go_simp
      try with_reducible rfl
    try simp only [Act.put, List.setIfInBounds_toArray, List.set_cons_zero, List.set_cons_succ]
    refine wpAnyH_take (i := 5) (v := ?_) (by simp only [List.getElem?_toArray, List.getElem?_cons_succ, List.getElem?_cons_zero]; rfl) (by kernel_rfl) (by kernel_rfl) (by kernel_rfl) (fun _ _ _ h => h) (Or.inl ⟨by rfl, ?_⟩) (by assumption) ?_
    rotate_left
    · intro W hSW
      go_simp
      try with_reducible rfl
    try simp only [Act.put, List.setIfInBounds_toArray, List.set_cons_zero, List.set_cons_succ]
    refine wpAnyH_take (i := 6) (v := ?_) (by simp only [List.getElem?_toArray, List.getElem?_cons_succ, List.getElem?_cons_zero]; rfl) (by kernel_rfl) (by kernel_rfl) (by kernel_rfl) (fun _ _ _ h => h) (Or.inl ⟨by rfl, ?_⟩) (by assumption) ?_
    rotate_left
    · intro W hSW
      go_simp
      try with_reducible rfl
    try simp only [Act.put, List.setIfInBounds_toArray, List.set_cons_zero, List.set_cons_succ]
    refine wpAnyH_take (i := 7) (v := ?_) (by simp only [List.getElem?_toArray, List.getElem?_cons_succ, List.getElem?_cons_zero]; rfl) (by kernel_rfl) (by kernel_rfl) (by kernel_rfl) (fun _ _ _ h => h) (Or.inl ⟨by rfl, ?_⟩) (by assumption) ?_
    rotate_left
    · intro W hSW
      go_simp
      try with_reducible rfl
    try simp only [Act.put, List.setIfInBounds_toArray, List.set_cons_zero, List.set_cons_succ]
    refine wpAnyH_take (i := 8) (v := ?_) (by simp only [List.getElem?_toArray, List.getElem?_cons_succ, List.getElem?_cons_zero]; rfl) (by kernel_rfl) (by kernel_rfl) (by kernel_rfl) (fun _ _ _ h => h) (Or.inl ⟨by rfl, ?_⟩) (by assumption) ?_
    rotate_left
    · intro W hSW
      go_simp
      try with_reducible rfl
    try simp only [Act.put, List.setIfInBounds_toArray, List.set_cons_zero, List.set_cons_succ]
    refine wpAnyH_take (i := 9) (v := ?_) (by simp only [List.getElem?_toArray, List.getElem?_cons_succ, List.getElem?_cons_zero]; rfl) (by kernel_rfl) (by kernel_rfl) (by kernel_rfl) (fun _ _ _ h => h) (Or.inl ⟨by rfl, ?_⟩) (by assumption) ?_
    rotate_left
    · intro W hSW
      go_simp
      try with_reducible rfl
    try simp only [Act.put, List.setIfInBounds_toArray, List.set_cons_zero, List.set_cons_succ]
    refine wpAnyH_take (i := 10) (v := undef) (by simp only [List.getElem?_toArray, List.getElem?_cons_succ, List.getElem?_cons_zero]; rfl) (by kernel_rfl) (by kernel_rfl) (by kernel_rfl) (fun _ _ _ h => h) (Or.inr ⟨by rfl, rfl⟩) (by assumption) ?_
    try simp only [Act.put, List.setIfInBounds_toArray, List.set_cons_zero, List.set_cons_succ]
    refine wpAnyH_take (i := 11) (v := undef) (by simp only [List.getElem?_toArray, List.getElem?_cons_succ, List.getElem?_cons_zero]; rfl) (by kernel_rfl) (by kernel_rfl) (by kernel_rfl) (fun _ _ _ h => h) (Or.inr ⟨by rfl, rfl⟩) (by assumption) ?_
    try simp only [Act.put, List.setIfInBounds_toArray, List.set_cons_zero, List.set_cons_succ]
    refine wpAnyH_take (i := 12) (v := ?_) (by simp only [List.getElem?_toArray, List.getElem?_cons_succ, List.getElem?_cons_zero]; rfl) (by kernel_rfl) (by kernel_rfl) (by kernel_rfl) (fun _ _ _ h => h) (Or.inl ⟨by rfl, ?_⟩) (by assumption) ?_
    rotate_left
    · intro W hSW
      go_simp
      try with_reducible rfl
    try simp only [Act.put, List.setIfInBounds_toArray, List.set_cons_zero, List.set_cons_succ]
    refine wpAnyH_take (i := 13) (v := ?_) (by simp only [List.getElem?_toArray, List.getElem?_cons_succ, List.getElem?_cons_zero]; rfl) (by kernel_rfl) (by kernel_rfl) (by kernel_rfl) (fun _ _ _ h => h) (Or.inl ⟨by rfl, ?_⟩) (by assumption) ?_
    rotate_left
    · intro W hSW
      go_simp
      try with_reducible rfl
    try simp only [Act.put, List.setIfInBounds_toArray, List.set_cons_zero, List.set_cons_succ]
    refine wpAnyH_take (i := 14) (v := ?_) (by simp only [List.getElem?_toArray, List.getElem?_cons_succ, List.getElem?_cons_zero]; rfl) (by kernel_rfl) (by kernel_rfl) (by kernel_rfl) (fun _ _ _ h => h) (Or.inl ⟨by rfl, ?_⟩) (by assumption) ?_
    rotate_left
    · intro W hSW
      go_simp
      try with_reducible rfl
    try simp only [Act.put, List.setIfInBounds_toArray, List.set_cons_zero, List.set_cons_succ]
    refine wpAnyH_take (i := 15) (by simp only [List.getElem?_toArray, List.getElem?_cons_succ, List.getElem?_cons_zero]; rfl) (by kernel_rfl) (by kernel_rfl) (by kernel_rfl) (fun _ _ _ h => h) (yieldsIf_load_mid (by rfl) 30 _ rfl xb 0 rfl (chL F (.slice ya F.xs.length yc) (.slice za F.fs.length zc)) _ (fun W hSW => HLX.out W hSW) Tryz.underlying30 rfl (info_ch F _ _ HN20.out)) (by assumption) ?_
    try simp only [Act.put, List.setIfInBounds_toArray, List.set_cons_zero, List.set_cons_succ]
    rw [HCX.out]
    refine wpAnyH_take (i := 17) (by simp only [List.getElem?_toArray, List.getElem?_cons_succ, List.getElem?_cons_zero]; rfl) (by kernel_rfl) (by kernel_rfl) (by kernel_rfl) (fun _ _ _ h => h) (yieldsIf_load_mid (by rfl) 26 _ rfl yb 0 rfl (chL F (.slice oa F.xs.length oc) (.slice qa F.fs.length qc)) _ (fun W hSW => HLY.out W hSW) Tryz.underlying26 rfl (info_rch F _ _ HN20.out)) (by assumption) ?_
    try simp only [Act.put, List.setIfInBounds_toArray, List.set_cons_zero, List.set_cons_succ]
    rw [HCY.out]
    refine wpAnyH_ready (rs := [16]) (by kernel_rfl) (by simp) ?_
    refine AllReadyH.cons (by simp only [List.getElem?_toArray, List.getElem?_cons_succ, List.getElem?_cons_zero]; rfl) (fun K hK => ?_) AllReadyH.nil
    go_simp
    refine (chof_any F ya yc za zc _ (HATX.out.below HV0.out) HXN.out HFN.out).mono ?_
    rintro e v2 ⟨⟨ra, rc, sa, sc, rfl, ho1, ho2⟩, hb⟩
    have hv2 : Below w7.heap.size w7 v2 := HV0.out.trans (hb.mono HV0.out.size)
    have HV2 := Lib.hid hv2
    have HO3 := Lib.hid ho1
    have HO4 := Lib.hid ho2
    clear hb hv2 ho1 ho2
    go_wp2_with fail
    refine hK.out _ _ (HV2.out) (fun hHeld2 => ?_)
    clear hK K hHeld
    have hHeld := hHeld2
    clear hHeld2
    try simp only [Act.put, List.setIfInBounds_toArray, List.set_cons_zero, List.set_cons_succ]
    refine wpAnyH_ready (rs := [18]) (by kernel_rfl) (by simp) ?_
    refine AllReadyH.cons (by simp only [List.getElem?_toArray, List.getElem?_cons_succ, List.getElem?_cons_zero]; rfl) (fun K hK => ?_) AllReadyH.nil
    go_simp
    refine (chsame_any F ra rc sa sc oa oc qa qc _ HN20.out HO3.out HO4.out (HROX.out.below HV2.out) (HROF.out.below HV2.out) HXN.out HFN.out).mono ?_
    rintro e v3 ⟨rfl, hb⟩
    have hv3 : Below w7.heap.size w7 v3 := HV2.out.trans (hb.mono HV2.out.size)
    have HV3 := Lib.hid hv3
    clear hb hv3
    go_wp2_with fail
    refine hK.out _ _ (HV3.out) (fun hHeld2 => ?_)
    clear hK K hHeld
    have hHeld := hHeld2
    clear hHeld2
    try simp only [Act.put, List.setIfInBounds_toArray, List.set_cons_zero, List.set_cons_succ]
    refine wpAnyH_take (i := 19) (v := ?_) (by simp only [List.getElem?_toArray, List.getElem?_cons_succ, List.getElem?_cons_zero]; rfl) (by kernel_rfl) (by kernel_rfl) (by kernel_rfl) (fun _ _ _ h => h) (Or.inl ⟨by rfl, ?_⟩) (by assumption) ?_
    rotate_left
    · intro W hSW
      go_simp
      try with_reducible rfl
    try simp only [Act.put, List.setIfInBounds_toArray, List.set_cons_zero, List.set_cons_succ]
    refine wpAnyH_take (i := 20) (v := ?_) (by simp only [List.getElem?_toArray, List.getElem?_cons_succ, List.getElem?_cons_zero]; rfl) (by kernel_rfl) (by kernel_rfl) (by kernel_rfl) (fun _ _ _ h => h) (Or.inl ⟨by rfl, ?_⟩) (by assumption) ?_
    rotate_left
    · intro W hSW
      go_simp
      try with_reducible rfl
    try simp only [Act.put, List.setIfInBounds_toArray, List.set_cons_zero, List.set_cons_succ]
    refine wpAnyH_take (i := 21) (v := ?_) (by simp only [List.getElem?_toArray, List.getElem?_cons_succ, List.getElem?_cons_zero]; rfl) (by kernel_rfl) (by kernel_rfl) (by kernel_rfl) (fun _ _ _ h => h) (Or.inl ⟨by rfl, ?_⟩) (by assumption) ?_
    rotate_left
    · intro W hSW
      go_simp
      try with_reducible rfl
    try simp only [Act.put, List.setIfInBounds_toArray, List.set_cons_zero, List.set_cons_succ]
    refine wpAnyH_take (i := 22) (by simp only [List.getElem?_toArray, List.getElem?_cons_succ, List.getElem?_cons_zero]; rfl) (by kernel_rfl) (by kernel_rfl) (by kernel_rfl) (fun _ _ _ h => h) (yieldsIf_conv (by rfl) 33 9 _ rfl (.slice a m cap) rfl (.string (txt L)) (fun W hSW => HTX.out W (HB7.out.trans (hSW.mono HB7.out.size)))) (by assumption) ?_
    try simp only [Act.put, List.setIfInBounds_toArray, List.set_cons_zero, List.set_cons_succ]
    refine wpAnyH_take (i := 23) (v := ?_) (by simp only [List.getElem?_toArray, List.getElem?_cons_succ, List.getElem?_cons_zero]; rfl) (by kernel_rfl) (by kernel_rfl) (by kernel_rfl) (fun _ _ _ h => h) (Or.inl ⟨by rfl, ?_⟩) (by assumption) ?_
    rotate_left
    · intro W hSW
      go_simp
      try with_reducible rfl
    try simp only [Act.put, List.setIfInBounds_toArray, List.set_cons_zero, List.set_cons_succ]
    refine wpAnyH_take (i := 24) (by simp only [List.getElem?_toArray, List.getElem?_cons_succ, List.getElem?_cons_zero]; rfl) (by kernel_rfl) (by kernel_rfl) (by kernel_rfl) (fun _ _ _ h => h) (yieldsIf_eql (by rfl) .eql 9 _ _ _ rfl (.string (txt L)) (.string (txt L)) rfl rfl (.bool true) (guard_eq _ _ _ _) (fun W => HSE.out W)) (by assumption) ?_
    try simp only [Act.put, List.setIfInBounds_toArray, List.set_cons_zero, List.set_cons_succ]
    refine wpAnyH_take (i := 25) (v := ?_) (by simp only [List.getElem?_toArray, List.getElem?_cons_succ, List.getElem?_cons_zero]; rfl) (by kernel_rfl) (by kernel_rfl) (by kernel_rfl) (fun _ _ _ h => h) (Or.inl ⟨by rfl, ?_⟩) (by assumption) ?_
    rotate_left
    · intro W hSW
      go_simp
      try with_reducible rfl
    try simp only [Act.put, List.setIfInBounds_toArray, List.set_cons_zero, List.set_cons_succ]
    refine wpAnyH_take (i := 26) (v := ?_) (by simp only [List.getElem?_toArray, List.getElem?_cons_succ, List.getElem?_cons_zero]; rfl) (by kernel_rfl) (by kernel_rfl) (by kernel_rfl) (fun _ _ _ h => h) (Or.inl ⟨by rfl, ?_⟩) (by assumption) ?_
    rotate_left
    · intro W hSW
      go_simp
      try with_reducible rfl
    try simp only [Act.put, List.setIfInBounds_toArray, List.set_cons_zero, List.set_cons_succ]
    refine wpAnyH_done (by kernel_rfl) ?_ _
    refine NoPanic.normal ?_
    clear hHeld
    go_wp2_with fail
    go_ret
    exact ⟨rfl, HB7.out.trans (HV3.out.mono HB7.out.size)⟩
end Go.Proofs.YthokcdjmhhlcdaaGreatDoor
