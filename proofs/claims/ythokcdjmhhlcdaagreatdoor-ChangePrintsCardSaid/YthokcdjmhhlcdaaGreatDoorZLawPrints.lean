/- The law ChangePrints. -/
import Derived.Test.YthokcdjmhhlcdaaGreatDoorZParse
import Derived.Test.YthokcdjmhhlcdaaGreatDoorChTo
import Derived.Test.YthokcdjmhhlcdaaGreatDoorChSame
import Derived.Test.YthokcdjmhhlcdaaGreatDoorChKnown
import Derived.Test.YthokcdjmhhlcdaaGreatDoorChBase
namespace Go.Proofs.YthokcdjmhhlcdaaGreatDoor
open Go.RowKit Plain Go.ChangeShapes Go.WideShapes Go.ChangeAt Go.Great
set_option linter.unusedVariables false
set_option linter.unusedSimpArgs false
theorem text_of (xs : List Int) (h : ∀ x ∈ xs, 0 ≤ x ∧ x < 256) : ∃ L, numsOf (txt L) = xs := ⟨(strOfNums xs).data.toList, by rw [txt_of]; exact nums_str xs fun x hx => by have := h x hx; omega⟩
theorem few_sizes {w : World} {c : CX} {xa fa : Option Addr} (h : InCh w c xa fa) : (fewC c).u.size ≤ 200 ∧ (fewC c).d.size ≤ 500 ∧ (fewC c).xs.length ≤ 20 ∧ (fewC c).fs.length ≤ 20 ∧ (∀ x ∈ (fewC c).xs, x.1.size ≤ 150 ∧ x.2.size ≤ 200) ∧ (∀ p ∈ (fewC c).fs, p.size ≤ 300) := by
  refine ⟨cutB_size _ _, cutB_size _ _, ?_, ?_, fun x hx => ?_, fun p hp => ?_⟩
  · show (List.map fewX (c.xs.take 20)).length ≤ 20; rw [List.length_map, List.length_take]; omega
  · show (List.map (cutB 300) (c.fs.take 20)).length ≤ 20; rw [List.length_map, List.length_take]; omega
  · obtain ⟨y, -, rfl⟩ := List.mem_map.1 (show x ∈ List.map fewX (c.xs.take 20) from hx)
    exact ⟨cutB_size _ _, cutB_size _ _⟩
  · obtain ⟨y, -, rfl⟩ := List.mem_map.1 (show p ∈ List.map (cutB 300) (c.fs.take 20) from hp)
    exact cutB_size _ _
theorem few_tiny {w : World} {c : CX} {xa fa : Option Addr} (h : InCh w c xa fa) : ChTiny (fewC c) := by
  obtain ⟨h1, h2, h3, h4, h5, h6⟩ := few_sizes h
  exact ⟨by omega, by omega, by omega, by omega, fun x hx => by have := h5 x hx; omega, fun p hp => by have := h6 p hp; omega, h.t64, h.z64⟩
theorem nums_range (l : List UInt8) : ∀ j : Nat, 0 ≤ (numsOf (txt l))[j]?.getD 0 ∧ (numsOf (txt l))[j]?.getD 0 ≤ 255 := fun j => by
  unfold numsOf
  rw [txt_list, List.getElem?_map]
  cases l[j]? with
  | none => simp
  | some c => have := c.toNat_lt; simp; omega
theorem few_wee {w : World} {c : CX} {xa fa : Option Addr} (h : InCh w c xa fa) : ChWee (fewC c) := by
  obtain ⟨h1, h2, h3, h4, h5, h6⟩ := few_sizes h
  exact ⟨by omega, by omega, by omega, by omega, fun x hx => by have := h5 x hx; omega, fun p hp => by have := h6 p hp; omega, h.t64, h.z64⟩
set_option maxRecDepth 100000 in
set_option maxHeartbeats 32000000 in
theorem lawprints_any (c : CX) (xa : Option Addr) (xc : Nat) (fa : Option Addr) (fc : Nat) (w : World) (hE : EnvC w) (h : InCh w c xa fa) :
    Calls Tryz.prog 3 #[.agg (chV c xa xc fa fc)] w fun e w' => e = .returned (.bool true) ∧ Below w.heap.size w w' := by
  have HE := Lib.hid hE
  have H20 := Lib.hid h.n20
  have HTI := Lib.hid (few_tiny h)
  have HWE := Lib.hid (few_wee h)
  have HB0 : Hid (Below w.heap.size w (w.alloc (.cells (chV c xa xc fa fc) 26))) := (Below.refl _ _).alloc (Nat.le_refl _) _
  have HR0 : Hid (ChRow (w.alloc (.cells (chV c xa xc fa fc) 26)) w.heap.size c (.slice xa c.xs.length xc) (.slice fa c.fs.length fc)) := ChRow.of (heap_alloc_new _ _) h.n20
  have HTO := Lib.hid (chto_any c xa xc fa fc (w.alloc (.cells (chV c xa xc fa fc) 26)) (h.below HB0.out))
  have HCV0 : Hid ((chL c (.slice xa c.xs.length xc) (.slice fa c.fs.length fc)).toArray = chV c xa xc fa fc) := rfl
  have hzc := zero_ch
  have hzr := zero_rch
  clear h hE
  go_enter Tryz.func3, Tryz.ntmps3
  go_wp2_with (first
    | (refine wpList_load_mid rfl 26 _ rfl w.heap.size 0 rfl (chL c (.slice xa c.xs.length xc) (.slice fa c.fs.length fc)) _ HR0.out.cells Tryz.underlying26 rfl (info_rch c _ _ H20.out) ?_; rw [HCV0.out]))
  refine HTO.out.mono ?_
  rintro e w1 ⟨hto, hb⟩
  have HB1 := Lib.hid (HB0.out.trans (hb.mono HB0.out.size))
  clear hb HTO HR0 HCV0 HB0
  obtain ⟨F, hF⟩ : ∃ F, fewC c = F := ⟨_, rfl⟩
  rw [hF] at hto HTI HWE
  clear hF
  obtain ⟨ya, yc, za, zc, rfl, hat⟩ := hto
  have HN20 := Lib.hid hat.n20
  have HBYT := Lib.hid hat.byt
  have HXN : Hid (F.xs.length ≤ 100000) := by have := HWE.out.2.2.1; show _ ≤ _; omega
  have HFN : Hid (F.fs.length ≤ 100000) := by have := HWE.out.2.2.2.1; show _ ≤ _; omega
  have HZ1 : Hid ((w1.alloc (.cells (chA czero (.slice none 0 0) (.slice none 0 0)) 30)).heap[w1.heap.size]? = some (.cells (chA czero (.slice none 0 0) (.slice none 0 0)) 30 (0, 0))) := heap_alloc_new _ _
  have HS1 : Hid (Below w1.heap.size w1 ((w1.alloc (.cells (chA czero (.slice none 0 0) (.slice none 0 0)) 30)).setRow w1.heap.size (chV F ya yc za zc))) := below_setRow ((Below.refl _ _).alloc (Nat.le_refl _) _) (Nat.le_refl _) _
  have HR1 : Hid (((w1.alloc (.cells (chA czero (.slice none 0 0) (.slice none 0 0)) 30)).setRow w1.heap.size (chV F ya yc za zc)).heap[w1.heap.size]? = some (.cells (chV F ya yc za zc) 30 (0, 0))) := setRow_heap _ _ _ _ _ _ HZ1.out
  have HAT0 := Lib.hid (hat.below HS1.out)
  have HCX : Hid ((chL F (.slice ya F.xs.length yc) (.slice za F.fs.length zc)).toArray = chV F ya yc za zc) := rfl
  have HRW : Hid (ChRow ((w1.alloc (.cells (chA czero (.slice none 0 0) (.slice none 0 0)) 30)).setRow w1.heap.size (chV F ya yc za zc)) w1.heap.size F (.slice ya F.xs.length yc) (.slice za F.fs.length zc)) := ChRow.of HR1.out HN20.out
  clear hat
  go_wp2_with (first
    | refine wpList_store_row rfl 30 _ _ rfl w1.heap.size (chV F ya yc za zc) rfl rfl 30 (chA czero (.slice none 0 0) (.slice none 0 0)) HZ1.out (info_chA F _ _ HN20.out) (by unfold chV; rw [chA_size _ _ _ czero_20, chA_size F _ _ HN20.out]) (chA_one _ _ _ rfl rfl) ?_
    | (refine wpList_load_mid rfl 30 _ rfl w1.heap.size 0 rfl (chL F (.slice ya F.xs.length yc) (.slice za F.fs.length zc)) _ HRW.out.cells Tryz.underlying30 rfl (info_ch F _ _ HN20.out) ?_; rw [HCX.out]))
  clear HRW
  obtain ⟨w2, hw1⟩ : ∃ X, (w1.alloc (.cells (chA czero (.slice none 0 0) (.slice none 0 0)) 30)).setRow w1.heap.size (chV F ya yc za zc) = X := ⟨_, rfl⟩
  rw [hw1] at HS1 HR1 HAT0 ⊢
  obtain ⟨xb, hb1⟩ : ∃ x, w1.heap.size = x := ⟨_, rfl⟩
  rw [hb1] at HR1 ⊢
  clear hw1 hb1 HZ1
  have HB2 := Lib.hid (HB1.out.trans (HS1.out.mono HB1.out.size))
  refine (chof_any F ya yc za zc w2 HAT0.out HXN.out HFN.out).mono ?_
  rintro e w3 ⟨⟨oa, oc, qa, qc, rfl, ho1, ho2⟩, hb⟩
  have HB3 := Lib.hid (HB2.out.trans (hb.mono HB2.out.size))
  have HXR3 := Lib.hid ((hb.block xb (Array.getElem?_eq_some_iff.1 HR1.out).1).trans HR1.out)
  have HAT3 := Lib.hid (HAT0.out.below hb)
  have HO1 := Lib.hid ho1
  have HO2 := Lib.hid ho2
  clear hb ho1 ho2 HAT0 HR1
  have HZ3 : Hid ((w3.alloc (.cells (chA czero (.slice none 0 0) (.slice none 0 0)) 26)).heap[w3.heap.size]? = some (.cells (chA czero (.slice none 0 0) (.slice none 0 0)) 26 (0, 0))) := heap_alloc_new _ _
  have HS3 : Hid (Below w3.heap.size w3 ((w3.alloc (.cells (chA czero (.slice none 0 0) (.slice none 0 0)) 26)).setRow w3.heap.size (chV F oa oc qa qc))) := below_setRow ((Below.refl _ _).alloc (Nat.le_refl _) _) (Nat.le_refl _) _
  have HR3 : Hid (((w3.alloc (.cells (chA czero (.slice none 0 0) (.slice none 0 0)) 26)).setRow w3.heap.size (chV F oa oc qa qc)).heap[w3.heap.size]? = some (.cells (chV F oa oc qa qc) 26 (0, 0))) := setRow_heap _ _ _ _ _ _ HZ3.out
  have HCY : Hid ((chL F (.slice oa F.xs.length oc) (.slice qa F.fs.length qc)).toArray = chV F oa oc qa qc) := rfl
  have HRWX : Hid (ChRow ((w3.alloc (.cells (chA czero (.slice none 0 0) (.slice none 0 0)) 26)).setRow w3.heap.size (chV F oa oc qa qc)) xb F (.slice ya F.xs.length yc) (.slice za F.fs.length zc)) := ChRow.of ((HS3.out.block xb (Array.getElem?_eq_some_iff.1 HXR3.out).1).trans HXR3.out) HN20.out
  go_wp2_with (first
    | refine wpList_store_row rfl 26 _ _ rfl w3.heap.size (chV F oa oc qa qc) rfl rfl 26 (chA czero (.slice none 0 0) (.slice none 0 0)) HZ3.out (info_rchA F _ _ HN20.out) (by unfold chV; rw [chA_size _ _ _ czero_20, chA_size F _ _ HN20.out]) (chA_one _ _ _ rfl rfl) ?_
    | (refine wpList_load_mid rfl 30 _ rfl xb 0 rfl (chL F (.slice ya F.xs.length yc) (.slice za F.fs.length zc)) _ HRWX.out.cells Tryz.underlying30 rfl (info_ch F _ _ HN20.out) ?_; rw [HCX.out]))
  have HXR4 := Lib.hid ((HS3.out.block xb (Array.getElem?_eq_some_iff.1 HXR3.out).1).trans HXR3.out)
  have HAT4 := Lib.hid (HAT3.out.below HS3.out)
  have HO5 := Lib.hid (HO1.out.below HS3.out)
  have HO6 := Lib.hid (HO2.out.below HS3.out)
  clear HXR3 HAT3 HO1 HO2 HRWX
  obtain ⟨w4, hw3⟩ : ∃ X, (w3.alloc (.cells (chA czero (.slice none 0 0) (.slice none 0 0)) 26)).setRow w3.heap.size (chV F oa oc qa qc) = X := ⟨_, rfl⟩
  rw [hw3] at HS3 HR3 HXR4 HAT4 HO5 HO6 ⊢
  obtain ⟨yb, hb3⟩ : ∃ x, w3.heap.size = x := ⟨_, rfl⟩
  rw [hb3] at HR3 ⊢
  clear hw3 hb3 HZ3
  have HB4 := Lib.hid (HB3.out.trans (HS3.out.mono HB3.out.size))
  refine (chprint_any F ya yc za zc w4 HAT4.out HTI.out (HE.out.below HB4.out)).mono ?_
  rintro e w5 ⟨hpr, hb⟩
  have HB5 := Lib.hid (HB4.out.trans (hb.mono HB4.out.size))
  have HXR5 := Lib.hid ((hb.block xb (Array.getElem?_eq_some_iff.1 HXR4.out).1).trans HXR4.out)
  have HYR5 := Lib.hid ((hb.block yb (Array.getElem?_eq_some_iff.1 HR3.out).1).trans HR3.out)
  have HAT5 := Lib.hid (HAT4.out.below hb)
  have HROX5 := Lib.hid (HO5.out.below hb)
  have HROF5 := Lib.hid (HO6.out.below hb)
  have HRWY : Hid (ChRow w5 yb F (.slice oa F.xs.length oc) (.slice qa F.fs.length qc)) := ChRow.of HYR5.out HN20.out
  clear hb HXR4 HR3 HAT4 HO5 HO6
  rcases hpr with ⟨hrt, pa, pc, rfl, hcap, hby⟩ | ⟨hrt, rfl⟩
  · obtain ⟨pn, hpn⟩ : ∃ n, (printL F).length = n := ⟨_, rfl⟩
    rw [hpn] at hby hcap ⊢
    have HBY := Lib.hid hby
    have HRT := Lib.hid hrt
    clear hpn hby hrt hcap
    go_wp2_with (first
      | (refine wpList_load_mid rfl 26 _ rfl yb 0 rfl (chL F (.slice oa F.xs.length oc) (.slice qa F.fs.length qc)) _ HRWY.out.cells Tryz.underlying26 rfl (info_rch F _ _ HN20.out) ?_; rw [HCY.out]))
    refine (rchright_any F oa oc qa qc w5 HN20.out HROX5.out HROF5.out HXN.out HFN.out (by have := HWE.out.1; omega)).mono ?_
    rintro e w7 ⟨rfl, hb⟩
    rw [HRT.out]
    have HB7 := Lib.hid (HB5.out.trans (hb.mono HB5.out.size))
    have HATX := Lib.hid (HAT5.out.below hb)
    have HROX := Lib.hid (HROX5.out.below hb)
    have HROF := Lib.hid (HROF5.out.below hb)
    have HTX : Hid (∀ W, Below w7.heap.size w7 W → (convert 33 9 (.slice pa pn pc)).run Tryz.prog W = .ok (.string (txt (printL F))) W) := fun W hW => by
      have := text_run W pa pn pc _ (HBY.out.below (hb.trans (hW.mono hb.size)))
      rwa [str_nums] at this
    have HLX : Hid (∀ W, Below w7.heap.size w7 W → W.rangeAt xb 0 (chL F (.slice ya F.xs.length yc) (.slice za F.fs.length zc))) := fun W hW => (ChRow.of (((hb.trans (hW.mono hb.size)).block xb (Array.getElem?_eq_some_iff.1 HXR5.out).1).trans HXR5.out) HN20.out).cells
    have HLY : Hid (∀ W, Below w7.heap.size w7 W → W.rangeAt yb 0 (chL F (.slice oa F.xs.length oc) (.slice qa F.fs.length qc))) := fun W hW => (ChRow.of (((hb.trans (hW.mono hb.size)).block yb (Array.getElem?_eq_some_iff.1 HYR5.out).1).trans HYR5.out) HN20.out).cells
    have HSE := Lib.hid (eq_self (txt (printL F)))
    clear hb HXR5 HYR5 HAT5 HROX5 HROF5 HRWY HBY HB5 HB4 HB3 HB2 HB1
    go_wp2_with fail
    refine wp_region_noPanic ?_
    refine wp_region_held_drew (S := fun W => Below w7.heap.size w7 W) (by kernel_rfl) ?_ (fun hHeld => ?_)
    · exact (Below.refl _ _).drew
    refine wpAnyH_ready (rs := [0]) (by kernel_rfl) (by simp) ?_
    refine AllReadyH.cons (by simp only [List.getElem?_toArray, List.getElem?_cons_zero]; rfl) (fun K hK => ?_) AllReadyH.nil
    go_simp
    refine (chknown_any _ (HE.out.below (HB7.out.trans ((Below.refl w7.heap.size w7).drew.mono HB7.out.size)))).mono ?_
    rintro e v0 ⟨rfl, hb⟩
    have hv0 : Below w7.heap.size w7 v0 := (Below.refl _ _).drew.trans hb
    have HV0 := Lib.hid hv0
    clear hb hv0
    go_wp2_with fail
    refine hK.out _ _ (HV0.out) (fun hHeld2 => ?_)
    clear hK K hHeld
    have hHeld := hHeld2
    clear hHeld2
    try simp only [Act.put, List.setIfInBounds_toArray, List.set_cons_zero, List.set_cons_succ]
    refine wpAnyH_take (i := 1) (v := ?_) (by simp only [List.getElem?_toArray, List.getElem?_cons_succ, List.getElem?_cons_zero]; rfl) (by kernel_rfl) (by kernel_rfl) (by kernel_rfl) (fun _ _ _ h => h) (Or.inl ⟨by rfl, ?_⟩) (by assumption) ?_
    rotate_left
    · intro W hSW
      go_simp
      try with_reducible rfl
    try simp only [Act.put, List.setIfInBounds_toArray, List.set_cons_zero, List.set_cons_succ]
    refine wpAnyH_take (i := 2) (v := ?_) (by simp only [List.getElem?_toArray, List.getElem?_cons_succ, List.getElem?_cons_zero]; rfl) (by kernel_rfl) (by kernel_rfl) (by kernel_rfl) (fun _ _ _ h => h) (Or.inl ⟨by rfl, ?_⟩) (by assumption) ?_
    rotate_left
    · intro W hSW
      go_simp
      try with_reducible rfl
    try simp only [Act.put, List.setIfInBounds_toArray, List.set_cons_zero, List.set_cons_succ]
    refine wpAnyH_take (i := 3) (v := ?_) (by simp only [List.getElem?_toArray, List.getElem?_cons_succ, List.getElem?_cons_zero]; rfl) (by kernel_rfl) (by kernel_rfl) (by kernel_rfl) (fun _ _ _ h => h) (Or.inl ⟨by rfl, ?_⟩) (by assumption) ?_
    rotate_left
    · intro W hSW
      go_simp
      try with_reducible rfl
    try simp only [Act.put, List.setIfInBounds_toArray, List.set_cons_zero, List.set_cons_succ]
    refine wpAnyH_take (i := 4) (v := ?_) (by simp only [List.getElem?_toArray, List.getElem?_cons_succ, List.getElem?_cons_zero]; rfl) (by kernel_rfl) (by kernel_rfl) (by kernel_rfl) (fun _ _ _ h => h) (Or.inl ⟨by rfl, ?_⟩) (by assumption) ?_
    rotate_left
    · intro W hSW
      go_simp
      try with_reducible rfl
    try simp only [Act.put, List.setIfInBounds_toArray, List.set_cons_zero, List.set_cons_succ]
    refine wpAnyH_take (i := 5) (v := ?_) (by simp only [List.getElem?_toArray, List.getElem?_cons_succ, List.getElem?_cons_zero]; rfl) (by kernel_rfl) (by kernel_rfl) (by kernel_rfl) (fun _ _ _ h => h) (Or.inl ⟨by rfl, ?_⟩) (by assumption) ?_
    rotate_left
    · intro W hSW
      go_simp
      try with_reducible rfl
    try simp only [Act.put, List.setIfInBounds_toArray, List.set_cons_zero, List.set_cons_succ]
    refine wpAnyH_take (i := 6) (v := ?_) (by simp only [List.getElem?_toArray, List.getElem?_cons_succ, List.getElem?_cons_zero]; rfl) (by kernel_rfl) (by kernel_rfl) (by kernel_rfl) (fun _ _ _ h => h) (Or.inl ⟨by rfl, ?_⟩) (by assumption) ?_
    rotate_left
    · intro W hSW
      go_simp
      try with_reducible rfl
    try simp only [Act.put, List.setIfInBounds_toArray, List.set_cons_zero, List.set_cons_succ]
    refine wpAnyH_take (i := 7) (by simp only [List.getElem?_toArray, List.getElem?_cons_succ, List.getElem?_cons_zero]; rfl) (by kernel_rfl) (by kernel_rfl) (by kernel_rfl) (fun _ _ _ h => h) (yieldsIf_conv (by rfl) 33 9 _ rfl (.slice pa pn pc) rfl (.string (txt (printL F))) (fun W hSW => HTX.out W hSW)) (by assumption) ?_
    try simp only [Act.put, List.setIfInBounds_toArray, List.set_cons_zero, List.set_cons_succ]
    refine wpAnyH_take (i := 8) (by simp only [List.getElem?_toArray, List.getElem?_cons_succ, List.getElem?_cons_zero]; rfl) (by kernel_rfl) (by kernel_rfl) (by kernel_rfl) (fun _ _ _ h => h) (yieldsIf_load_mid (by rfl) 26 _ rfl yb 0 rfl (chL F (.slice oa F.xs.length oc) (.slice qa F.fs.length qc)) _ (fun W hSW => HLY.out W hSW) Tryz.underlying26 rfl (info_rch F _ _ HN20.out)) (by assumption) ?_
    try simp only [Act.put, List.setIfInBounds_toArray, List.set_cons_zero, List.set_cons_succ]
    rw [HCY.out]
    refine wpAnyH_ready (rs := [9]) (by kernel_rfl) (by simp) ?_
    refine AllReadyH.cons (by simp only [List.getElem?_toArray, List.getElem?_cons_succ, List.getElem?_cons_zero]; rfl) (fun K hK => ?_) AllReadyH.nil
    go_simp
    refine (rchprint_any F oa oc qa qc _ HN20.out HBYT.out (HROX.out.below HV0.out) (HROF.out.below HV0.out) HWE.out).mono ?_
    rintro e v1 ⟨rfl, hb⟩
    have hv1 : Below w7.heap.size w7 v1 := HV0.out.trans (hb.mono HV0.out.size)
    have HV1 := Lib.hid hv1
    clear hb hv1
    go_wp2_with fail
    refine hK.out _ _ (HV1.out) (fun hHeld2 => ?_)
    clear hK K hHeld
    have hHeld := hHeld2
    clear hHeld2
    try simp only [Act.put, List.setIfInBounds_toArray, List.set_cons_zero, List.set_cons_succ]
    refine wpAnyH_take (i := 10) (by simp only [List.getElem?_toArray, List.getElem?_cons_succ, List.getElem?_cons_zero]; rfl) (by kernel_rfl) (by kernel_rfl) (by kernel_rfl) (fun _ _ _ h => h) (yieldsIf_eql (by rfl) .eql 9 _ _ _ rfl (.string (txt (printL F))) (.string (txt (printL F))) rfl rfl (.bool true) (guard_eq _ _ _ _) (fun W => HSE.out W)) (by assumption) ?_
    try simp only [Act.put, List.setIfInBounds_toArray, List.set_cons_zero, List.set_cons_succ]
    refine wpAnyH_take (i := 11) (v := ?_) (by simp only [List.getElem?_toArray, List.getElem?_cons_succ, List.getElem?_cons_zero]; rfl) (by kernel_rfl) (by kernel_rfl) (by kernel_rfl) (fun _ _ _ h => h) (Or.inl ⟨by rfl, ?_⟩) (by assumption) ?_
    rotate_left
    · intro W hSW
      go_simp
      try with_reducible rfl
    try simp only [Act.put, List.setIfInBounds_toArray, List.set_cons_zero, List.set_cons_succ]
    refine wpAnyH_take (i := 12) (v := ?_) (by simp only [List.getElem?_toArray, List.getElem?_cons_succ, List.getElem?_cons_zero]; rfl) (by kernel_rfl) (by kernel_rfl) (by kernel_rfl) (fun _ _ _ h => h) (Or.inl ⟨by rfl, ?_⟩) (by assumption) ?_
    rotate_left
    · intro W hSW
      go_simp
      try with_reducible rfl
    try simp only [Act.put, List.setIfInBounds_toArray, List.set_cons_zero, List.set_cons_succ]
    refine wpAnyH_take (i := 13) (by simp only [List.getElem?_toArray, List.getElem?_cons_succ, List.getElem?_cons_zero]; rfl) (by kernel_rfl) (by kernel_rfl) (by kernel_rfl) (fun _ _ _ h => h) (yieldsIf_load_mid (by rfl) 30 _ rfl xb 0 rfl (chL F (.slice ya F.xs.length yc) (.slice za F.fs.length zc)) _ (fun W hSW => HLX.out W hSW) Tryz.underlying30 rfl (info_ch F _ _ HN20.out)) (by assumption) ?_
    try simp only [Act.put, List.setIfInBounds_toArray, List.set_cons_zero, List.set_cons_succ]
    rw [HCX.out]
    refine wpAnyH_take (i := 15) (by simp only [List.getElem?_toArray, List.getElem?_cons_succ, List.getElem?_cons_zero]; rfl) (by kernel_rfl) (by kernel_rfl) (by kernel_rfl) (fun _ _ _ h => h) (yieldsIf_load_mid (by rfl) 26 _ rfl yb 0 rfl (chL F (.slice oa F.xs.length oc) (.slice qa F.fs.length qc)) _ (fun W hSW => HLY.out W hSW) Tryz.underlying26 rfl (info_rch F _ _ HN20.out)) (by assumption) ?_
    try simp only [Act.put, List.setIfInBounds_toArray, List.set_cons_zero, List.set_cons_succ]
    rw [HCY.out]
    refine wpAnyH_ready (rs := [14]) (by kernel_rfl) (by simp) ?_
    refine AllReadyH.cons (by simp only [List.getElem?_toArray, List.getElem?_cons_succ, List.getElem?_cons_zero]; rfl) (fun K hK => ?_) AllReadyH.nil
    go_simp
    refine (chof_any F ya yc za zc _ (HATX.out.below HV1.out) HXN.out HFN.out).mono ?_
    rintro e v2 ⟨⟨ra, rc, sa, sc, rfl, ho1, ho2⟩, hb⟩
    have hv2 : Below w7.heap.size w7 v2 := HV1.out.trans (hb.mono HV1.out.size)
    have HV2 := Lib.hid hv2
    have HO3 := Lib.hid ho1
    have HO4 := Lib.hid ho2
    clear hb hv2 ho1 ho2
    go_wp2_with fail
    refine hK.out _ _ (HV2.out) (fun hHeld2 => ?_)
    clear hK K hHeld
    have hHeld := hHeld2
    clear hHeld2
    try simp only [Act.put, List.setIfInBounds_toArray, List.set_cons_zero, List.set_cons_succ]
    refine wpAnyH_ready (rs := [16]) (by kernel_rfl) (by simp) ?_
    refine AllReadyH.cons (by simp only [List.getElem?_toArray, List.getElem?_cons_succ, List.getElem?_cons_zero]; rfl) (fun K hK => ?_) AllReadyH.nil
    go_simp
    refine (chsame_any F ra rc sa sc oa oc qa qc _ HN20.out HO3.out HO4.out (HROX.out.below HV2.out) (HROF.out.below HV2.out) HXN.out HFN.out).mono ?_
    rintro e v3 ⟨rfl, hb⟩
    have hv3 : Below w7.heap.size w7 v3 := HV2.out.trans (hb.mono HV2.out.size)
    have HV3 := Lib.hid hv3
    clear hb hv3
    go_wp2_with fail
    refine hK.out _ _ (HV3.out) (fun hHeld2 => ?_)
    clear hK K hHeld
    have hHeld := hHeld2
    clear hHeld2
    try simp only [Act.put, List.setIfInBounds_toArray, List.set_cons_zero, List.set_cons_succ]
    refine wpAnyH_take (i := 17) (v := ?_) (by simp only [List.getElem?_toArray, List.getElem?_cons_succ, List.getElem?_cons_zero]; rfl) (by kernel_rfl) (by kernel_rfl) (by kernel_rfl) (fun _ _ _ h => h) (Or.inl ⟨by rfl, ?_⟩) (by assumption) ?_
    rotate_left
    · intro W hSW
      go_simp
      try with_reducible rfl
    try simp only [Act.put, List.setIfInBounds_toArray, List.set_cons_zero, List.set_cons_succ]
    refine wpAnyH_take (i := 18) (v := ?_) (by simp only [List.getElem?_toArray, List.getElem?_cons_succ, List.getElem?_cons_zero]; rfl) (by kernel_rfl) (by kernel_rfl) (by kernel_rfl) (fun _ _ _ h => h) (Or.inl ⟨by rfl, ?_⟩) (by assumption) ?_
    rotate_left
    · intro W hSW
      go_simp
      try with_reducible rfl
    try simp only [Act.put, List.setIfInBounds_toArray, List.set_cons_zero, List.set_cons_succ]
    refine wpAnyH_done (by kernel_rfl) ?_ _
    refine NoPanic.normal ?_
    clear hHeld
    go_wp2_with fail
    go_ret
    exact ⟨rfl, HB7.out.trans (HV3.out.mono HB7.out.size)⟩
  · have HRT := Lib.hid hrt
    clear hrt
    go_wp2_with (first
      | (refine wpList_load_mid rfl 26 _ rfl yb 0 rfl (chL F (.slice oa F.xs.length oc) (.slice qa F.fs.length qc)) _ HRWY.out.cells Tryz.underlying26 rfl (info_rch F _ _ HN20.out) ?_; rw [HCY.out]))
    refine (rchright_any F oa oc qa qc w5 HN20.out HROX5.out HROF5.out HXN.out HFN.out (by have := HWE.out.1; omega)).mono ?_
    rintro e w7 ⟨rfl, hb⟩
    rw [HRT.out]
    have HB7 := Lib.hid (HB5.out.trans (hb.mono HB5.out.size))
    clear hb
    go_wp2_with fail
    refine (chknown_any w7 (HE.out.below HB7.out)).mono ?_
    rintro e wk ⟨rfl, hbk⟩
    have HBK := Lib.hid (HB7.out.trans (hbk.mono HB7.out.size))
    clear hbk
    go_wp2_with fail
    go_ret
    exact ⟨rfl, HBK.out⟩
end Go.Proofs.YthokcdjmhhlcdaaGreatDoor
