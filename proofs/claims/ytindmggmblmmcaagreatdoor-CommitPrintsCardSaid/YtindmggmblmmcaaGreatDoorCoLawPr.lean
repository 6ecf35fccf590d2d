/- The law CommitPrints. -/
import Derived.Test.YtindmggmblmmcaaGreatDoorCoLawB
import Derived.Test.YtindmggmblmmcaaGreatDoorCoRPrint
namespace Go.Proofs.YtindmggmblmmcaaGreatDoor
open Go.RowKit Plain Go.ChangeShapes Go.WideShapes Go.ChangeAt Go.Great
set_option linter.unusedVariables false
set_option linter.unusedSimpArgs false
set_option maxRecDepth 100000 in
set_option maxHeartbeats 32000000 in
theorem lawprints_any (c : CC) (xa : Option Addr) (xc : Nat) (fa : Option Addr) (fc : Nat) (w : World) (hE : EnvC w) (h : InCo w c xa fa) :
    Calls Tryz.prog 3 #[.agg (coV c xa xc fa fc)] w fun e w' => e = .returned (.bool true) ∧ Below w.heap.size w w' := by
  have HE := Lib.hid hE
  have H20 := Lib.hid h.at_.n20
  have HTI := Lib.hid (few_small h)
  have HSI := Lib.hid (few_sizes h)
  have HPL := Lib.hid (few_print h)
  have HB0 : Hid (Below w.heap.size w (w.alloc (.cells (coV c xa xc fa fc) 28))) := (Below.refl _ _).alloc (Nat.le_refl _) _
  have HR0 : Hid (CoRow (w.alloc (.cells (coV c xa xc fa fc) 28)) w.heap.size c (.slice xa c.ps.length xc) (.slice fa c.xs.length fc)) := CoRow.of (heap_alloc_new _ _) h.at_.n20
  have HTO := Lib.hid (coto_any c xa xc fa fc (w.alloc (.cells (coV c xa xc fa fc) 28)) (h.below HB0.out))
  have HCV0 : Hid ((coL c (.slice xa c.ps.length xc) (.slice fa c.xs.length fc)).toArray = coV c xa xc fa fc) := rfl
  have hzc := zero_co
  have hzr := zero_rco
  clear h hE
  go_enter Tryz.func3, Tryz.ntmps3
  go_wp2_with (first
    | (refine wpList_load_mid rfl 28 _ rfl w.heap.size 0 rfl (coL c (.slice xa c.ps.length xc) (.slice fa c.xs.length fc)) _ HR0.out.cells Tryz.underlying28 rfl (info_rco c _ _ H20.out) ?_; rw [HCV0.out]))
  refine HTO.out.mono ?_
  rintro e w1 ⟨hto, hb⟩
  have HB1 := Lib.hid (HB0.out.trans (hb.mono HB0.out.size))
  clear hb HTO HR0 HCV0 HB0
  obtain ⟨F, hF⟩ : ∃ F, fewCC c = F := ⟨_, rfl⟩
  rw [hF] at hto HTI HSI HPL
  clear hF
  obtain ⟨ya, yc, za, zc, rfl, hat⟩ := hto
  have HN20 := Lib.hid hat.n20
  have HXN : Hid (F.ps.length ≤ 100000) := by have := HSI.out.2.1; show _ ≤ _; omega
  have HFN : Hid (F.xs.length ≤ 100000) := by have := HSI.out.2.2.1; show _ ≤ _; omega
  have HXS1 : Hid (∀ x ∈ F.xs, x.1.size ≤ 1000000) := fun x hx => by have := (HSI.out.2.2.2 x hx).1; omega
  have HXS2 : Hid (∀ x ∈ F.xs, x.2.size ≤ 1000000) := fun x hx => by have := (HSI.out.2.2.2 x hx).2; omega
  have HZ1 : Hid ((w1.alloc (.cells (coA cz (.slice none 0 0) (.slice none 0 0)) 34)).heap[w1.heap.size]? = some (.cells (coA cz (.slice none 0 0) (.slice none 0 0)) 34 (0, 0))) := heap_alloc_new _ _
  have HS1 : Hid (Below w1.heap.size w1 ((w1.alloc (.cells (coA cz (.slice none 0 0) (.slice none 0 0)) 34)).setRow w1.heap.size (coV F ya yc za zc))) := below_setRow ((Below.refl _ _).alloc (Nat.le_refl _) _) (Nat.le_refl _) _
  have HR1 : Hid (((w1.alloc (.cells (coA cz (.slice none 0 0) (.slice none 0 0)) 34)).setRow w1.heap.size (coV F ya yc za zc)).heap[w1.heap.size]? = some (.cells (coV F ya yc za zc) 34 (0, 0))) := setRow_heap _ _ _ _ _ _ HZ1.out
  have HAT0 := Lib.hid (hat.below HS1.out)
  have HCX : Hid ((coL F (.slice ya F.ps.length yc) (.slice za F.xs.length zc)).toArray = coV F ya yc za zc) := rfl
  have HRW : Hid (CoRow ((w1.alloc (.cells (coA cz (.slice none 0 0) (.slice none 0 0)) 34)).setRow w1.heap.size (coV F ya yc za zc)) w1.heap.size F (.slice ya F.ps.length yc) (.slice za F.xs.length zc)) := CoRow.of HR1.out HN20.out
  clear hat
  go_wp2_with (first
    | refine wpList_store_row rfl 34 _ _ rfl w1.heap.size (coV F ya yc za zc) rfl rfl 34 (coA cz (.slice none 0 0) (.slice none 0 0)) HZ1.out (info_coA F _ _ HN20.out) (by unfold coV; rw [coA_size _ _ _ cz_20, coA_size F _ _ HN20.out]) (coA_one _ _ _ rfl rfl) ?_
    | (refine wpList_load_mid rfl 34 _ rfl w1.heap.size 0 rfl (coL F (.slice ya F.ps.length yc) (.slice za F.xs.length zc)) _ HRW.out.cells Tryz.underlying34 rfl (info_co F _ _ HN20.out) ?_; rw [HCX.out]))
  clear HRW
  obtain ⟨w2, hw1⟩ : ∃ X, (w1.alloc (.cells (coA cz (.slice none 0 0) (.slice none 0 0)) 34)).setRow w1.heap.size (coV F ya yc za zc) = X := ⟨_, rfl⟩
  rw [hw1] at HS1 HR1 HAT0 ⊢
  obtain ⟨xb, hb1⟩ : ∃ x, w1.heap.size = x := ⟨_, rfl⟩
  rw [hb1] at HR1 ⊢
  clear hw1 hb1 HZ1
  have HB2 := Lib.hid (HB1.out.trans (HS1.out.mono HB1.out.size))
  refine (coof_any F ya yc za zc w2 HAT0.out HXN.out HFN.out).mono ?_
  rintro e w3 ⟨⟨oa, oc, qa, qc, rfl, ho1⟩, hb⟩
  have HB3 := Lib.hid (HB2.out.trans (hb.mono HB2.out.size))
  have HXR3 := Lib.hid ((hb.block xb (Array.getElem?_eq_some_iff.1 HR1.out).1).trans HR1.out)
  have HAT3 := Lib.hid (HAT0.out.below hb)
  have HO1 := Lib.hid ho1
  clear hb ho1 HAT0 HR1
  have HZ3 : Hid ((w3.alloc (.cells (coA cz (.slice none 0 0) (.slice none 0 0)) 28)).heap[w3.heap.size]? = some (.cells (coA cz (.slice none 0 0) (.slice none 0 0)) 28 (0, 0))) := heap_alloc_new _ _
  have HS3 : Hid (Below w3.heap.size w3 ((w3.alloc (.cells (coA cz (.slice none 0 0) (.slice none 0 0)) 28)).setRow w3.heap.size (coV F oa oc qa qc))) := below_setRow ((Below.refl _ _).alloc (Nat.le_refl _) _) (Nat.le_refl _) _
  have HR3 : Hid (((w3.alloc (.cells (coA cz (.slice none 0 0) (.slice none 0 0)) 28)).setRow w3.heap.size (coV F oa oc qa qc)).heap[w3.heap.size]? = some (.cells (coV F oa oc qa qc) 28 (0, 0))) := setRow_heap _ _ _ _ _ _ HZ3.out
  have HCY : Hid ((coL F (.slice oa F.ps.length oc) (.slice qa F.xs.length qc)).toArray = coV F oa oc qa qc) := rfl
  have HRWX : Hid (CoRow ((w3.alloc (.cells (coA cz (.slice none 0 0) (.slice none 0 0)) 28)).setRow w3.heap.size (coV F oa oc qa qc)) xb F (.slice ya F.ps.length yc) (.slice za F.xs.length zc)) := CoRow.of ((HS3.out.block xb (Array.getElem?_eq_some_iff.1 HXR3.out).1).trans HXR3.out) HN20.out
  go_wp2_with (first
    | refine wpList_store_row rfl 28 _ _ rfl w3.heap.size (coV F oa oc qa qc) rfl rfl 28 (coA cz (.slice none 0 0) (.slice none 0 0)) HZ3.out (info_rcoA F _ _ HN20.out) (by unfold coV; rw [coA_size _ _ _ cz_20, coA_size F _ _ HN20.out]) (coA_one _ _ _ rfl rfl) ?_
    | (refine wpList_load_mid rfl 34 _ rfl xb 0 rfl (coL F (.slice ya F.ps.length yc) (.slice za F.xs.length zc)) _ HRWX.out.cells Tryz.underlying34 rfl (info_co F _ _ HN20.out) ?_; rw [HCX.out]))
  have HXR4 := Lib.hid ((HS3.out.block xb (Array.getElem?_eq_some_iff.1 HXR3.out).1).trans HXR3.out)
  have HAT4 := Lib.hid (HAT3.out.below HS3.out)
  have HO5 := Lib.hid (HO1.out.below HS3.out)
  clear HXR3 HAT3 HO1 HRWX
  obtain ⟨w4, hw3⟩ : ∃ X, (w3.alloc (.cells (coA cz (.slice none 0 0) (.slice none 0 0)) 28)).setRow w3.heap.size (coV F oa oc qa qc) = X := ⟨_, rfl⟩
  rw [hw3] at HS3 HR3 HXR4 HAT4 HO5 ⊢
  obtain ⟨yb, hb3⟩ : ∃ x, w3.heap.size = x := ⟨_, rfl⟩
  rw [hb3] at HR3 ⊢
  clear hw3 hb3 HZ3
  have HB4 := Lib.hid (HB3.out.trans (HS3.out.mono HB3.out.size))
  refine (coprint_any F ya yc za zc w4 HAT4.out HTI.out (HE.out.below HB4.out)).mono ?_
  rintro e w5 ⟨hpr, hb⟩
  have HB5 := Lib.hid (HB4.out.trans (hb.mono HB4.out.size))
  have HXR5 := Lib.hid ((hb.block xb (Array.getElem?_eq_some_iff.1 HXR4.out).1).trans HXR4.out)
  have HYR5 := Lib.hid ((hb.block yb (Array.getElem?_eq_some_iff.1 HR3.out).1).trans HR3.out)
  have HAT5 := Lib.hid (HAT4.out.below hb)
  have HROX5 := Lib.hid (HO5.out.below hb)
  have HRWY : Hid (CoRow w5 yb F (.slice oa F.ps.length oc) (.slice qa F.xs.length qc)) := CoRow.of HYR5.out HN20.out
  clear hb HXR4 HR3 HAT4 HO5
  rcases hpr with ⟨hrt, pa, pc, rfl, hcap, hby⟩ | ⟨hrt, rfl⟩
  · obtain ⟨pn, hpn⟩ : ∃ n, (printC F).length = n := ⟨_, rfl⟩
    rw [hpn] at hby hcap ⊢
    have HBY := Lib.hid hby
    have HRT := Lib.hid hrt
    clear hpn hby hrt hcap
    go_wp2_with (first
      | (refine wpList_load_mid rfl 28 _ rfl yb 0 rfl (coL F (.slice oa F.ps.length oc) (.slice qa F.xs.length qc)) _ HRWY.out.cells Tryz.underlying28 rfl (info_rco F _ _ HN20.out) ?_; rw [HCY.out]))
    refine (rright_any F oa oc qa qc w5 HN20.out HROX5.out.exts (by have := HFN.out; omega) HXS1.out HTI.out.1 HTI.out.2.1).mono ?_
    rintro e w7 ⟨rfl, hb⟩
    rw [HRT.out]
    have HB7 := Lib.hid (HB5.out.trans (hb.mono HB5.out.size))
    have HATX := Lib.hid (HAT5.out.below hb)
    have HROX := Lib.hid (HROX5.out.below hb)
    have HTX : Hid (∀ W, Below w7.heap.size w7 W → (convert 37 9 (.slice pa pn pc)).run Tryz.prog W = .ok (.string (txt (printC F))) W) := fun W hW => by
      have := text_run W pa pn pc _ (HBY.out.below (hb.trans (hW.mono hb.size)))
      rwa [str_nums] at this
    have HLX : Hid (∀ W, Below w7.heap.size w7 W → W.rangeAt xb 0 (coL F (.slice ya F.ps.length yc) (.slice za F.xs.length zc))) := fun W hW => (CoRow.of (((hb.trans (hW.mono hb.size)).block xb (Array.getElem?_eq_some_iff.1 HXR5.out).1).trans HXR5.out) HN20.out).cells
    have HLY : Hid (∀ W, Below w7.heap.size w7 W → W.rangeAt yb 0 (coL F (.slice oa F.ps.length oc) (.slice qa F.xs.length qc))) := fun W hW => (CoRow.of (((hb.trans (hW.mono hb.size)).block yb (Array.getElem?_eq_some_iff.1 HYR5.out).1).trans HYR5.out) HN20.out).cells
    have HSE := Lib.hid (eq_self (txt (printC F)))
    clear hb HXR5 HYR5 HAT5 HROX5 HRWY HBY HB5 HB4 HB3 HB2 HB1
    go_wp2_with fail
    refine wp_region_noPanic ?_
    refine wp_region_held_drew (S := fun W => Below w7.heap.size w7 W) (by kernel_rfl) ?_ (fun hHeld => ?_)
    · exact (Below.refl _ _).drew
    refine wpAnyH_ready (rs := [0]) (by kernel_rfl) (by simp) ?_
    refine AllReadyH.cons (by simp only [List.getElem?_toArray, List.getElem?_cons_zero]; rfl) (fun K hK => ?_) AllReadyH.nil
    go_simp
    refine (known_any _ (HE.out.below (HB7.out.trans ((Below.refl w7.heap.size w7).drew.mono HB7.out.size)))).mono ?_
    rintro e v0 ⟨rfl, hb⟩
    have hv0 : Below w7.heap.size w7 v0 := (Below.refl _ _).drew.trans hb
    have HV0 := Lib.hid hv0
    clear hb hv0
    go_wp2_with fail
    refine hK.out _ _ (HV0.out) (fun hHeld2 => ?_)
    clear hK K hHeld
    have hHeld := hHeld2
    clear hHeld2
    try simp only [Act.put, List.setIfInBounds_toArray, List.set_cons_zero, List.set_cons_succ]
    refine wpAnyH_take (i := 1) (v := ?_) (by simp only [List.getElem?_toArray, List.getElem?_cons_succ, List.getElem?_cons_zero]; rfl) (by kernel_rfl) (by kernel_rfl) (by kernel_rfl) (fun _ _ _ h => h) (Or.inl ⟨by rfl, ?_⟩) (by assumption) ?_
    rotate_left
    · intro W hSW
      go_simp
      try with_reducible rfl
    try simp only [Act.put, List.setIfInBounds_toArray, List.set_cons_zero, List.set_cons_succ]
    refine wpAnyH_take (i := 2) (v := ?_) (by simp only [List.getElem?_toArray, List.getElem?_cons_succ, List.getElem?_cons_zero]; rfl) (by kernel_rfl) (by kernel_rfl) (by kernel_rfl) (fun _ _ _ h => h) (Or.inl ⟨by rfl, ?_⟩) (by assumption) ?_
    rotate_left
    · intro W hSW
      go_simp
      try with_reducible rfl
    try simp only [Act.put, List.setIfInBounds_toArray, List.set_cons_zero, List.set_cons_succ]
    refine wpAnyH_take (i := 3) (v := ?_) (by simp only [List.getElem?_toArray, List.getElem?_cons_succ, List.getElem?_cons_zero]; rfl) (by kernel_rfl) (by kernel_rfl) (by kernel_rfl) (fun _ _ _ h => h) (Or.inl ⟨by rfl, ?_⟩) (by assumption) ?_
    rotate_left
    · intro W hSW
      go_simp
      try with_reducible rfl
    try simp only [Act.put, List.setIfInBounds_toArray, List.set_cons_zero, List.set_cons_succ]
    refine wpAnyH_take (i := 4) (v := ?_) (by simp only [List.getElem?_toArray, List.getElem?_cons_succ, List.getElem?_cons_zero]; rfl) (by kernel_rfl) (by kernel_rfl) (by kernel_rfl) (fun _ _ _ h => h) (Or.inl ⟨by rfl, ?_⟩) (by assumption) ?_
    rotate_left
    · intro W hSW
      go_simp
      try with_reducible rfl
    try simp only [Act.put, List.setIfInBounds_toArray, List.set_cons_zero, List.set_cons_succ]
    refine wpAnyH_take (i := 5) (v := ?_) (by simp only [List.getElem?_toArray, List.getElem?_cons_succ, List.getElem?_cons_zero]; rfl) (by kernel_rfl) (by kernel_rfl) (by kernel_rfl) (fun _ _ _ h => h) (Or.inl ⟨by rfl, ?_⟩) (by assumption) ?_
    rotate_left
    · intro W hSW
      go_simp
      try with_reducible rfl
    try simp only [Act.put, List.setIfInBounds_toArray, List.set_cons_zero, List.set_cons_succ]
    refine wpAnyH_take (i := 6) (v := ?_) (by simp only [List.getElem?_toArray, List.getElem?_cons_succ, List.getElem?_cons_zero]; rfl) (by kernel_rfl) (by kernel_rfl) (by kernel_rfl) (fun _ _ _ h => h) (Or.inl ⟨by rfl, ?_⟩) (by assumption) ?_
    rotate_left
    · intro W hSW
      go_simp
      try with_reducible rfl
    try simp only [Act.put, List.setIfInBounds_toArray, List.set_cons_zero, List.set_cons_succ]
    refine wpAnyH_take (i := 7) (by simp only [List.getElem?_toArray, List.getElem?_cons_succ, List.getElem?_cons_zero]; rfl) (by kernel_rfl) (by kernel_rfl) (by kernel_rfl) (fun _ _ _ h => h) (yieldsIf_conv (by rfl) 37 9 _ rfl (.slice pa pn pc) rfl (.string (txt (printC F))) (fun W hSW => HTX.out W hSW)) (by assumption) ?_
    try simp only [Act.put, List.setIfInBounds_toArray, List.set_cons_zero, List.set_cons_succ]
    refine wpAnyH_take (i := 8) (by simp only [List.getElem?_toArray, List.getElem?_cons_succ, List.getElem?_cons_zero]; rfl) (by kernel_rfl) (by kernel_rfl) (by kernel_rfl) (fun _ _ _ h => h) (yieldsIf_load_mid (by rfl) 28 _ rfl yb 0 rfl (coL F (.slice oa F.ps.length oc) (.slice qa F.xs.length qc)) _ (fun W hSW => HLY.out W hSW) Tryz.underlying28 rfl (info_rco F _ _ HN20.out)) (by assumption) ?_
    try simp only [Act.put, List.setIfInBounds_toArray, List.set_cons_zero, List.set_cons_succ]
    rw [HCY.out]
    refine wpAnyH_ready (rs := [9]) (by kernel_rfl) (by simp) ?_
    refine AllReadyH.cons (by simp only [List.getElem?_toArray, List.getElem?_cons_succ, List.getElem?_cons_zero]; rfl) (fun K hK => ?_) AllReadyH.nil
    go_simp
    refine (rprint_any F oa oc qa qc _ (HROX.out.below HV0.out) (HE.out.below (HB7.out.trans (HV0.out.mono HB7.out.size))) HTI.out.1 HTI.out.2.1 (by have := HPL.out; omega) (by have := HXN.out; omega) (by have := HFN.out; omega) HXS2.out).mono ?_
    rintro e v1 ⟨rfl, hb⟩
    have hv1 : Below w7.heap.size w7 v1 := HV0.out.trans (hb.mono HV0.out.size)
    have HV1 := Lib.hid hv1
    clear hb hv1
    go_wp2_with fail
    refine hK.out _ _ (HV1.out) (fun hHeld2 => ?_)
    clear hK K hHeld
    have hHeld := hHeld2
    clear hHeld2
    try simp only [Act.put, List.setIfInBounds_toArray, List.set_cons_zero, List.set_cons_succ]
    refine wpAnyH_take (i := 10) (by simp only [List.getElem?_toArray, List.getElem?_cons_succ, List.getElem?_cons_zero]; rfl) (by kernel_rfl) (by kernel_rfl) (by kernel_rfl) (fun _ _ _ h => h) (yieldsIf_eql (by rfl) .eql 9 _ _ _ rfl (.string (txt (printC F))) (.string (txt (printC F))) rfl rfl (.bool true) (guard_eq _ _ _ _) (fun W => HSE.out W)) (by assumption) ?_
    try simp only [Act.put, List.setIfInBounds_toArray, List.set_cons_zero, List.set_cons_succ]
    refine wpAnyH_take (i := 11) (v := ?_) (by simp only [List.getElem?_toArray, List.getElem?_cons_succ, List.getElem?_cons_zero]; rfl) (by kernel_rfl) (by kernel_rfl) (by kernel_rfl) (fun _ _ _ h => h) (Or.inl ⟨by rfl, ?_⟩) (by assumption) ?_
    rotate_left
    · intro W hSW
      go_simp
      try with_reducible rfl
    try simp only [Act.put, List.setIfInBounds_toArray, List.set_cons_zero, List.set_cons_succ]
    refine wpAnyH_take (i := 12) (v := ?_) (by simp only [List.getElem?_toArray, List.getElem?_cons_succ, List.getElem?_cons_zero]; rfl) (by kernel_rfl) (by kernel_rfl) (by kernel_rfl) (fun _ _ _ h => h) (Or.inl ⟨by rfl, ?_⟩) (by assumption) ?_
    rotate_left
    · intro W hSW
      go_simp
      try with_reducible rfl
    try simp only [Act.put, List.setIfInBounds_toArray, List.set_cons_zero, List.set_cons_succ]
    refine wpAnyH_take (i := 13) (by simp only [List.getElem?_toArray, List.getElem?_cons_succ, List.getElem?_cons_zero]; rfl) (by kernel_rfl) (by kernel_rfl) (by kernel_rfl) (fun _ _ _ h => h) (yieldsIf_load_mid (by rfl) 34 _ rfl xb 0 rfl (coL F (.slice ya F.ps.length yc) (.slice za F.xs.length zc)) _ (fun W hSW => HLX.out W hSW) Tryz.underlying34 rfl (info_co F _ _ HN20.out)) (by assumption) ?_
    try simp only [Act.put, List.setIfInBounds_toArray, List.set_cons_zero, List.set_cons_succ]
    rw [HCX.out]
    refine wpAnyH_take (i := 15) (by simp only [List.getElem?_toArray, List.getElem?_cons_succ, List.getElem?_cons_zero]; rfl) (by kernel_rfl) (by kernel_rfl) (by kernel_rfl) (fun _ _ _ h => h) (yieldsIf_load_mid (by rfl) 28 _ rfl yb 0 rfl (coL F (.slice oa F.ps.length oc) (.slice qa F.xs.length qc)) _ (fun W hSW => HLY.out W hSW) Tryz.underlying28 rfl (info_rco F _ _ HN20.out)) (by assumption) ?_
    try simp only [Act.put, List.setIfInBounds_toArray, List.set_cons_zero, List.set_cons_succ]
    rw [HCY.out]
    refine wpAnyH_ready (rs := [14]) (by kernel_rfl) (by simp) ?_
    refine AllReadyH.cons (by simp only [List.getElem?_toArray, List.getElem?_cons_succ, List.getElem?_cons_zero]; rfl) (fun K hK => ?_) AllReadyH.nil
    go_simp
    refine (coof_any F ya yc za zc _ (HATX.out.below HV1.out) HXN.out HFN.out).mono ?_
    rintro e v2 ⟨⟨ra, rc, sa, sc, rfl, ho1⟩, hb⟩
    have hv2 : Below w7.heap.size w7 v2 := HV1.out.trans (hb.mono HV1.out.size)
    have HV2 := Lib.hid hv2
    have HO3 := Lib.hid ho1
    clear hb hv2 ho1
    go_wp2_with fail
    refine hK.out _ _ (HV2.out) (fun hHeld2 => ?_)
    clear hK K hHeld
    have hHeld := hHeld2
    clear hHeld2
    try simp only [Act.put, List.setIfInBounds_toArray, List.set_cons_zero, List.set_cons_succ]
    refine wpAnyH_ready (rs := [16]) (by kernel_rfl) (by simp) ?_
    refine AllReadyH.cons (by simp only [List.getElem?_toArray, List.getElem?_cons_succ, List.getElem?_cons_zero]; rfl) (fun K hK => ?_) AllReadyH.nil
    go_simp
    refine (cosame_any F ra rc sa sc oa oc qa qc _ HO3.out (HROX.out.below HV2.out) HXN.out HFN.out).mono ?_
    rintro e v3 ⟨rfl, hb⟩
    have hv3 : Below w7.heap.size w7 v3 := HV2.out.trans (hb.mono HV2.out.size)
    have HV3 := Lib.hid hv3
    clear hb hv3
    go_wp2_with fail
    refine hK.out _ _ (HV3.out) (fun hHeld2 => ?_)
    clear hK K hHeld
    have hHeld := hHeld2
    clear hHeld2
    try simp only [Act.put, List.setIfInBounds_toArray, List.set_cons_zero, List.set_cons_succ]
    refine wpAnyH_take (i := 17) (v := ?_) (by simp only [List.getElem?_toArray, List.getElem?_cons_succ, List.getElem?_cons_zero]; rfl) (by kernel_rfl) (by kernel_rfl) (by kernel_rfl) (fun _ _ _ h => h) (Or.inl ⟨by rfl, ?_⟩) (by assumption) ?_
    rotate_left
    · intro W hSW
      go_simp
      try with_reducible rfl
    try simp only [Act.put, List.setIfInBounds_toArray, List.set_cons_zero, List.set_cons_succ]
    refine wpAnyH_take (i := 18) (v := ?_) (by simp only [List.getElem?_toArray, List.getElem?_cons_succ, List.getElem?_cons_zero]; rfl) (by kernel_rfl) (by kernel_rfl) (by kernel_rfl) (fun _ _ _ h => h) (Or.inl ⟨by rfl, ?_⟩) (by assumption) ?_
    rotate_left
    · intro W hSW
      go_simp
      try with_reducible rfl
    try simp only [Act.put, List.setIfInBounds_toArray, List.set_cons_zero, List.set_cons_succ]
    refine wpAnyH_done (by kernel_rfl) ?_ _
    refine NoPanic.normal ?_
    clear hHeld
    go_wp2_with fail
    go_ret
    exact ⟨rfl, HB7.out.trans (HV3.out.mono HB7.out.size)⟩
  · have HRT := Lib.hid hrt
    clear hrt
    go_wp2_with (first
      | (refine wpList_load_mid rfl 28 _ rfl yb 0 rfl (coL F (.slice oa F.ps.length oc) (.slice qa F.xs.length qc)) _ HRWY.out.cells Tryz.underlying28 rfl (info_rco F _ _ HN20.out) ?_; rw [HCY.out]))
    refine (rright_any F oa oc qa qc w5 HN20.out HROX5.out.exts (by have := HFN.out; omega) HXS1.out HTI.out.1 HTI.out.2.1).mono ?_
    rintro e w7 ⟨rfl, hb⟩
    rw [HRT.out]
    have HB7 := Lib.hid (HB5.out.trans (hb.mono HB5.out.size))
    clear hb
    go_wp2_with fail
    refine (known_any w7 (HE.out.below HB7.out)).mono ?_
    rintro e wk ⟨rfl, hbk⟩
    have HBK := Lib.hid (HB7.out.trans (hbk.mono HB7.out.size))
    clear hbk
    go_wp2_with fail
    go_ret
    exact ⟨rfl, HBK.out⟩
end Go.Proofs.YtindmggmblmmcaaGreatDoor
