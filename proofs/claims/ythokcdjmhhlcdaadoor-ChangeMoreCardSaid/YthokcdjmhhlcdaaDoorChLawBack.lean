/- The law ChangeBack. -/
import Derived.Test.YthokcdjmhhlcdaaDoorChSame
import Derived.Test.YthokcdjmhhlcdaaDoorChBase
namespace Go.Proofs.YthokcdjmhhlcdaaDoor
open Go.RowKit Plain Go.ChangeShapes Go.WideShapes Go.ChangeAt Go.Great
set_option linter.unusedVariables false
set_option linter.unusedSimpArgs false
theorem text_of (xs : List Int) (h : ∀ x ∈ xs, 0 ≤ x ∧ x < 256) : ∃ L, numsOf (txt L) = xs := ⟨(strOfNums xs).data.toList, by rw [txt_of]; exact nums_str xs fun x hx => by have := h x hx; omega⟩
theorem few_sizes {w : World} {c : CX} {xa fa : Option Addr} (h : InCh w c xa fa) : (fewC c).u.size ≤ 200 ∧ (fewC c).d.size ≤ 500 ∧ (fewC c).xs.length ≤ 20 ∧ (fewC c).fs.length ≤ 20 ∧ (∀ x ∈ (fewC c).xs, x.1.size ≤ 150 ∧ x.2.size ≤ 200) ∧ (∀ p ∈ (fewC c).fs, p.size ≤ 300) := by
  refine ⟨cutB_size _ _, cutB_size _ _, ?_, ?_, fun x hx => ?_, fun p hp => ?_⟩
  · show (List.map fewX (c.xs.take 20)).length ≤ 20; rw [List.length_map, List.length_take]; omega
  · show (List.map (cutB 300) (c.fs.take 20)).length ≤ 20; rw [List.length_map, List.length_take]; omega
  · obtain ⟨y, -, rfl⟩ := List.mem_map.1 (show x ∈ List.map fewX (c.xs.take 20) from hx)
    exact ⟨cutB_size _ _, cutB_size _ _⟩
  · obtain ⟨y, -, rfl⟩ := List.mem_map.1 (show p ∈ List.map (cutB 300) (c.fs.take 20) from hp)
    exact cutB_size _ _
theorem few_tiny {w : World} {c : CX} {xa fa : Option Addr} (h : InCh w c xa fa) : ChTiny (fewC c) := by
  obtain ⟨h1, h2, h3, h4, h5, h6⟩ := few_sizes h
  exact ⟨by omega, by omega, by omega, by omega, fun x hx => by have := h5 x hx; omega, fun p hp => by have := h6 p hp; omega, h.t64, h.z64⟩
theorem join_files (fs : List ByteArray) (d : ByteArray) (h1 : fs.length ≤ 20) (h2 : ∀ p ∈ fs, p.size ≤ 300) (h3 : d.size ≤ 500) : (Lib.join (fs.map (·.data.toList) ++ [[], d.data.toList]) [10]).length ≤ 6622 := by
  have key : ∀ l : List ByteArray, (∀ p ∈ l, p.size ≤ 300) → (Lib.join (l.map (·.data.toList) ++ [[], d.data.toList]) [10]).length ≤ l.length * 301 + 501 := by
    intro l
    induction l with
    | nil =>
      intro _
      show (Lib.join [[], d.data.toList] [10]).length ≤ _
      rw [join_cons2, Lib.join_one]
      have h4 := Lib.size_eq d
      simp only [List.length_cons, List.length_nil, List.nil_append]
      omega
    | cons p l ih =>
      intro hl
      have i1 := ih (fun q hq => hl q (List.mem_cons_of_mem _ hq))
      have i2 := hl p (by simp)
      rw [Lib.size_eq] at i2
      have e : ∃ v vs, l.map (·.data.toList) ++ [[], d.data.toList] = v :: vs := by cases l <;> exact ⟨_, _, rfl⟩
      obtain ⟨v, vs, e⟩ := e
      rw [List.map_cons, List.cons_append, e, join_cons2, ← e, List.length_append, List.length_cons, List.length_cons, Nat.succ_mul]
      omega
  have := key fs h2
  have : fs.length * 301 ≤ 20 * 301 := Nat.mul_le_mul_right _ h1
  omega
theorem few_print {w : World} {c : CX} {xa fa : Option Addr} (h : InCh w c xa fa) : (printL (fewC c)).length ≤ 18000 := by
  obtain ⟨h1, h2, h3, h4, h5, h6⟩ := few_sizes h
  have h20 : (fewC c).n.length = 20 := h.n20
  have t64 : -9223372036854775808 ≤ (fewC c).t ∧ (fewC c).t ≤ 9223372036854775807 := h.t64
  have z64 : -9223372036854775808 ≤ (fewC c).z ∧ (fewC c).z ≤ 9223372036854775807 := h.z64
  generalize fewC c = F at *
  have a1 := itoa_len F.t t64
  have a2 := itoa_len F.z z64
  have a3 : (exsL F.xs).length ≤ 11040 := by
    unfold exsL
    have := join_len 0 551 (F.xs.map extL) (fun v hv => by
      obtain ⟨x, hx, rfl⟩ := List.mem_map.1 hv
      unfold extL
      have b1 := valueL_len x.2.data.toList
      have b2 := h5 x hx
      rw [List.length_append, List.length_cons]
      rw [Lib.size_eq, Lib.size_eq] at b2
      omega)
    rw [List.length_map] at this
    have b3 : F.xs.length * (551 + 1) ≤ 20 * 552 := Nat.mul_le_mul_right _ h3
    omega
  have a4 : (dateL F).length ≤ 11084 := by
    unfold dateL
    rw [List.length_append, List.length_cons, List.length_append]
    split
    · simp; omega
    · rw [List.length_cons]; omega
  have a5 := join_len 10 500 (F.fs.map (·.data.toList) ++ [[], F.d.data.toList]) (fun v hv => by
    rcases List.mem_append.1 hv with hv | hv
    · obtain ⟨p, hp, rfl⟩ := List.mem_map.1 hv
      rw [← Lib.size_eq]; have := h6 p hp; omega
    · simp at hv
      rcases hv with rfl | rfl
      · simp
      · rw [← Lib.size_eq]; exact h2)
  have a6 : (F.fs.length + 2) * (500 + 1) ≤ 22 * 501 := Nat.mul_le_mul_right _ (by omega)
  have a7 := join_files F.fs F.d h4 h6 h2
  rw [Lib.size_eq] at h1
  rw [printL_eq, List.length_append, hexOf_length, h20, List.length_cons, List.length_append, List.length_cons, List.length_append, List.length_cons]
  omega
set_option maxRecDepth 100000 in
set_option maxHeartbeats 32000000 in
theorem lawback_any (c : CX) (xa : Option Addr) (xc : Nat) (fa : Option Addr) (fc : Nat) (a : Option Addr) (len cap : Nat) (xs : List Int) (w : World) (hE : EnvC w) (h : InCh w c xa fa) (hR : RowB w a (min len 2000) cap xs) (hlc : len ≤ cap) :
    Calls Tryd.prog 3 #[.agg (chV c xa xc fa fc), .slice a len cap] w fun e w' => e = .returned (.bool true) ∧ Below w.heap.size w w' := by
  obtain ⟨L, rfl⟩ := text_of xs hR.mem
  obtain ⟨m, hm⟩ : ∃ m, min len 2000 = m := ⟨_, rfl⟩
  rw [hm] at hR
  have HMB : Hid (m ≤ 2000) := by show _ ≤ _; omega
  have hmin : min (len : Int) 2000 = (m : Int) := by omega
  have hsl : ∀ W, (Instr.sliceAt 27 (.slice a len cap) none (some (.int .i64 (m : Int))) none).run Tryd.prog W = .ok (.slice a m cap) W := slice_to a len cap m (by omega)
  have R := Lib.hid hR
  have HE := Lib.hid hE
  have H20 := Lib.hid h.n20
  have HTI := Lib.hid (few_tiny h)
  have HPL := Lib.hid (few_print h)
  have HSI := Lib.hid (few_sizes h)
  have HB0 : Hid (Below w.heap.size w (w.alloc (.cells (chV c xa xc fa fc) 26))) := (Below.refl _ _).alloc (Nat.le_refl _) _
  have HR0 : Hid (ChRow (w.alloc (.cells (chV c xa xc fa fc) 26)) w.heap.size c (.slice xa c.xs.length xc) (.slice fa c.fs.length fc)) := ChRow.of (heap_alloc_new _ _) h.n20
  have HTO := Lib.hid (chto_any c xa xc fa fc (w.alloc (.cells (chV c xa xc fa fc) 26)) (h.below HB0.out))
  have HCV0 : Hid ((chL c (.slice xa c.xs.length xc) (.slice fa c.fs.length fc)).toArray = chV c xa xc fa fc) := rfl
  have hzc := zero_ch
  clear h hE hR hm
  go_enter Tryd.func3, Tryd.ntmps3
  go_wp2_with (first
    | (refine wpList_load_mid rfl 26 _ rfl w.heap.size 0 rfl (chL c (.slice xa c.xs.length xc) (.slice fa c.fs.length fc)) _ HR0.out.cells Tryd.underlying26 rfl (info_rch c _ _ H20.out) ?_
       rw [HCV0.out]))
  refine HTO.out.mono ?_
  rintro e w1 ⟨hto, hb⟩
  have HB1 := Lib.hid (HB0.out.trans (hb.mono HB0.out.size))
  clear hb HTO HR0 HCV0 HB0
  obtain ⟨F, hF⟩ : ∃ F, fewC c = F := ⟨_, rfl⟩
  rw [hF] at hto HTI HPL HSI
  clear hF
  obtain ⟨ya, yc, za, zc, rfl, hat⟩ := hto
  have HN20 := Lib.hid hat.n20
  have HBYT := Lib.hid hat.byt
  have HZ1 : Hid ((w1.alloc (.cells (chA czero (.slice none 0 0) (.slice none 0 0)) 31)).heap[w1.heap.size]? = some (.cells (chA czero (.slice none 0 0) (.slice none 0 0)) 31 (0, 0))) := heap_alloc_new _ _
  have HS1 : Hid (Below w1.heap.size w1 ((w1.alloc (.cells (chA czero (.slice none 0 0) (.slice none 0 0)) 31)).setRow w1.heap.size (chV F ya yc za zc))) := below_setRow ((Below.refl _ _).alloc (Nat.le_refl _) _) (Nat.le_refl _) _
  have HR1 : Hid (((w1.alloc (.cells (chA czero (.slice none 0 0) (.slice none 0 0)) 31)).setRow w1.heap.size (chV F ya yc za zc)).heap[w1.heap.size]? = some (.cells (chV F ya yc za zc) 31 (0, 0))) := setRow_heap _ _ _ _ _ _ HZ1.out
  have HAT0 := Lib.hid (hat.below HS1.out)
  have HCX : Hid ((chL F (.slice ya F.xs.length yc) (.slice za F.fs.length zc)).toArray = chV F ya yc za zc) := rfl
  have HRW : Hid (ChRow ((w1.alloc (.cells (chA czero (.slice none 0 0) (.slice none 0 0)) 31)).setRow w1.heap.size (chV F ya yc za zc)) w1.heap.size F (.slice ya F.xs.length yc) (.slice za F.fs.length zc)) := ChRow.of HR1.out HN20.out
  clear hat
  go_wp2_with (first
    | refine wpList_store_row rfl 31 _ _ rfl w1.heap.size (chV F ya yc za zc) rfl rfl 31 (chA czero (.slice none 0 0) (.slice none 0 0)) HZ1.out (info_chA F _ _ HN20.out) (by unfold chV; rw [chA_size _ _ _ czero_20, chA_size F _ _ HN20.out]) (chA_one _ _ _ rfl rfl) ?_
    | (refine wpList_load_mid rfl 31 _ rfl w1.heap.size 0 rfl (chL F (.slice ya F.xs.length yc) (.slice za F.fs.length zc)) _ HRW.out.cells Tryd.underlying31 rfl (info_ch F _ _ HN20.out) ?_
       rw [HCX.out]))
  clear HRW
  obtain ⟨w2, hw1⟩ : ∃ X, (w1.alloc (.cells (chA czero (.slice none 0 0) (.slice none 0 0)) 31)).setRow w1.heap.size (chV F ya yc za zc) = X := ⟨_, rfl⟩
  rw [hw1] at HS1 HR1 HAT0 ⊢
  obtain ⟨xb, hb1⟩ : ∃ x, w1.heap.size = x := ⟨_, rfl⟩
  rw [hb1] at HR1 ⊢
  clear hw1 hb1 HZ1
  have HB2 := Lib.hid (HB1.out.trans (HS1.out.mono HB1.out.size))
  refine (chprint_any F ya yc za zc w2 HAT0.out HTI.out (HE.out.below HB2.out)).mono ?_
  rintro e w3 ⟨hpr, hb⟩
  have HB3 := Lib.hid (HB2.out.trans (hb.mono HB2.out.size))
  have HXR3 := Lib.hid ((hb.block xb (Array.getElem?_eq_some_iff.1 HR1.out).1).trans HR1.out)
  have HAT3 := Lib.hid (HAT0.out.below hb)
  clear hb HAT0 HR1
  rcases hpr with ⟨hrt, pa, pc, rfl, hcap, hby⟩ | ⟨hrt, rfl⟩
  · obtain ⟨pn, hpn⟩ : ∃ n, (printL F).length = n := ⟨_, rfl⟩
    rw [hpn] at hby HPL ⊢
    have HBY := Lib.hid hby
    have HRT := Lib.hid hrt
    clear hpn hby hrt hcap
    go_wp2_with fail
    refine (chparse_any pa pn pc (printL F) w3 HBY.out HPL.out (HE.out.below HB3.out)).mono ?_
    rintro e w4 ⟨hpo, hb⟩
    rw [parse_print HN20.out HBYT.out HRT.out] at hpo
    obtain ⟨ua, uc, va, vc, rfl, hat⟩ := hpo
    have HB4 := Lib.hid (HB3.out.trans (hb.mono HB3.out.size))
    have HXR4 := Lib.hid ((hb.block xb (Array.getElem?_eq_some_iff.1 HXR3.out).1).trans HXR3.out)
    have HAT4 := Lib.hid (HAT3.out.below hb)
    have HZ4 : Hid ((w4.alloc (.cells (chA czero (.slice none 0 0) (.slice none 0 0)) 31)).heap[w4.heap.size]? = some (.cells (chA czero (.slice none 0 0) (.slice none 0 0)) 31 (0, 0))) := heap_alloc_new _ _
    have HS4 : Hid (Below w4.heap.size w4 ((w4.alloc (.cells (chA czero (.slice none 0 0) (.slice none 0 0)) 31)).setRow w4.heap.size (chV F ua uc va vc))) := below_setRow ((Below.refl _ _).alloc (Nat.le_refl _) _) (Nat.le_refl _) _
    have HR4 : Hid (((w4.alloc (.cells (chA czero (.slice none 0 0) (.slice none 0 0)) 31)).setRow w4.heap.size (chV F ua uc va vc)).heap[w4.heap.size]? = some (.cells (chV F ua uc va vc) 31 (0, 0))) := setRow_heap _ _ _ _ _ _ HZ4.out
    have HCY : Hid ((chL F (.slice ua F.xs.length uc) (.slice va F.fs.length vc)).toArray = chV F ua uc va vc) := rfl
    have HATX0 := Lib.hid (HAT4.out.below HS4.out)
    have HATY0 := Lib.hid (hat.below HS4.out)
    have HXR5 := Lib.hid ((HS4.out.block xb (Array.getElem?_eq_some_iff.1 HXR4.out).1).trans HXR4.out)
    clear hb hat HXR3 HAT3
    go_wp2_with (first
      | refine wpList_store_row rfl 31 _ _ rfl w4.heap.size (chV F ua uc va vc) rfl rfl 31 (chA czero (.slice none 0 0) (.slice none 0 0)) HZ4.out (info_chA F _ _ HN20.out) (by unfold chV; rw [chA_size _ _ _ czero_20, chA_size F _ _ HN20.out]) (chA_one _ _ _ rfl rfl) ?_)
    have HB5 := Lib.hid (HB4.out.trans (HS4.out.mono HB4.out.size))
    obtain ⟨w5, hw5⟩ : ∃ X, (w4.alloc (.cells (chA czero (.slice none 0 0) (.slice none 0 0)) 31)).setRow w4.heap.size (chV F ua uc va vc) = X := ⟨_, rfl⟩
    rw [hw5] at HB5 HR4 HATX0 HATY0 HXR5 ⊢
    clear HS4 HZ4
    obtain ⟨yb, hyb⟩ : ∃ x, w4.heap.size = x := ⟨_, rfl⟩
    rw [hyb] at HR4 ⊢
    clear hw5 hyb HXR4 HAT4
    have HLxb : Hid (∀ W, Below w5.heap.size w5 W → W.rangeAt xb 0 (chL F (.slice ya F.xs.length yc) (.slice za F.fs.length zc))) := fun W hW => (ChRow.of ((hW.block xb (Array.getElem?_eq_some_iff.1 HXR5.out).1).trans HXR5.out) HN20.out).cells
    have HLyb : Hid (∀ W, Below w5.heap.size w5 W → W.rangeAt yb 0 (chL F (.slice ua F.xs.length uc) (.slice va F.fs.length vc))) := fun W hW => (ChRow.of ((hW.block yb (Array.getElem?_eq_some_iff.1 HR4.out).1).trans HR4.out) HN20.out).cells
    have HATX : Hid (∀ W, Below w5.heap.size w5 W → ChAt W F ya yc za zc) := fun W hW => HATX0.out.below hW
    have HATY : Hid (∀ W, Below w5.heap.size w5 W → ChAt W F ua uc va vc) := fun W hW => HATY0.out.below hW
    have HXN : Hid (F.xs.length ≤ 100000) := by have := HSI.out.2.2.1; show _ ≤ _; omega
    have HFN : Hid (F.fs.length ≤ 100000) := by have := HSI.out.2.2.2.1; show _ ≤ _; omega
    clear HATX0 HATY0 HXR5 HR4 HBY HB4 HB3 HB2 HB1
    refine wp_region_noPanic ?_
    refine wp_region_held_drew (S := fun W => Below w5.heap.size w5 W) (by kernel_rfl) ?_ (fun hHeld => ?_)
    · exact (Below.refl _ _).drew
    refine wpAnyH_take (i := 0) (v := ?_) (by simp only [List.getElem?_toArray, List.getElem?_cons_zero]; rfl) (by kernel_rfl) (by kernel_rfl) (by kernel_rfl) (fun _ _ _ h => h) (Or.inl ⟨by rfl, ?_⟩) (by assumption) ?_
    rotate_left
    · intro W hSW
      go_simp
      try with_reducible rfl
    try simp only [Act.put, List.setIfInBounds_toArray, List.set_cons_zero, List.set_cons_succ]
    refine wpAnyH_take (i := 1) (v := ?_) (by simp only [List.getElem?_toArray, List.getElem?_cons_succ, List.getElem?_cons_zero]; rfl) (by kernel_rfl) (by kernel_rfl) (by kernel_rfl) (fun _ _ _ h => h) (Or.inl ⟨by rfl, ?_⟩) (by assumption) ?_
    rotate_left
    · intro W hSW
      go_simp
      try with_reducible rfl
    try simp only [Act.put, List.setIfInBounds_toArray, List.set_cons_zero, List.set_cons_succ]
    refine wpAnyH_take (i := 2) (v := ?_) (by simp only [List.getElem?_toArray, List.getElem?_cons_succ, List.getElem?_cons_zero]; rfl) (by kernel_rfl) (by kernel_rfl) (by kernel_rfl) (fun _ _ _ h => h) (Or.inl ⟨by rfl, ?_⟩) (by assumption) ?_
    rotate_left
    · intro W hSW
      go_simp
      try with_reducible rfl
    try simp only [Act.put, List.setIfInBounds_toArray, List.set_cons_zero, List.set_cons_succ]
    refine wpAnyH_take (i := 3) (by simp only [List.getElem?_toArray, List.getElem?_cons_succ, List.getElem?_cons_zero]; rfl) (by kernel_rfl) (by kernel_rfl) (by kernel_rfl) (fun _ _ _ h => h) (yieldsIf_load_mid (by rfl) 31 _ rfl xb 0 rfl (chL F (.slice ya F.xs.length yc) (.slice za F.fs.length zc)) _ (fun W hSW => HLxb.out W hSW) Tryd.underlying31 rfl (info_ch F _ _ HN20.out)) (by assumption) ?_
    try simp only [Act.put, List.setIfInBounds_toArray, List.set_cons_zero, List.set_cons_succ]
    refine wpAnyH_take (i := 5) (by simp only [List.getElem?_toArray, List.getElem?_cons_succ, List.getElem?_cons_zero]; rfl) (by kernel_rfl) (by kernel_rfl) (by kernel_rfl) (fun _ _ _ h => h) (yieldsIf_load_mid (by rfl) 31 _ rfl yb 0 rfl (chL F (.slice ua F.xs.length uc) (.slice va F.fs.length vc)) _ (fun W hSW => HLyb.out W hSW) Tryd.underlying31 rfl (info_ch F _ _ HN20.out)) (by assumption) ?_
    try simp only [Act.put, List.setIfInBounds_toArray, List.set_cons_zero, List.set_cons_succ]
    rw [HCX.out, HCY.out]
    refine wpAnyH_ready (rs := [4]) (by kernel_rfl) (by simp) ?_
    refine AllReadyH.cons (by simp only [List.getElem?_toArray, List.getElem?_cons_succ, List.getElem?_cons_zero]; rfl) (fun K hK => ?_) AllReadyH.nil
    go_simp
    refine (chof_any F ya yc za zc _ (HATX.out _ (Below.refl _ _).drew) HXN.out HFN.out).mono ?_
    rintro e v1 ⟨⟨oa, oc, qa, qc, rfl, ho1, ho2⟩, hb⟩
    have hv1 : Below w5.heap.size w5 v1 := (Below.refl _ _).drew.trans hb
    have HV1 := Lib.hid hv1
    have HO1 := Lib.hid ho1
    have HO2 := Lib.hid ho2
    clear hb hv1 ho1 ho2
    go_wp2_with fail
    refine hK.out _ _ (HV1.out) (fun hHeld2 => ?_)
    clear hK K hHeld
    have hHeld := hHeld2
    clear hHeld2
    try simp only [Act.put, List.setIfInBounds_toArray, List.set_cons_zero, List.set_cons_succ]
    refine wpAnyH_ready (rs := [6]) (by kernel_rfl) (by simp) ?_
    refine AllReadyH.cons (by simp only [List.getElem?_toArray, List.getElem?_cons_succ, List.getElem?_cons_zero]; rfl) (fun K hK => ?_) AllReadyH.nil
    go_simp
    refine (chof_any F ua uc va vc _ (HATY.out _ HV1.out) HXN.out HFN.out).mono ?_
    rintro e v2 ⟨⟨ra, rc, sa, sc, rfl, ho1, ho2⟩, hb⟩
    have hv2 : Below w5.heap.size w5 v2 := HV1.out.trans (hb.mono HV1.out.size)
    have HV2 := Lib.hid hv2
    have HO3 := Lib.hid ho1
    have HO4 := Lib.hid ho2
    have HO5 := Lib.hid (HO1.out.below hb)
    have HO6 := Lib.hid (HO2.out.below hb)
    clear hb hv2 ho1 ho2
    go_wp2_with fail
    refine hK.out _ _ (HV2.out) (fun hHeld2 => ?_)
    clear hK K hHeld
    have hHeld := hHeld2
    clear hHeld2
    try simp only [Act.put, List.setIfInBounds_toArray, List.set_cons_zero, List.set_cons_succ]
    refine wpAnyH_ready (rs := [7]) (by kernel_rfl) (by simp) ?_
    refine AllReadyH.cons (by simp only [List.getElem?_toArray, List.getElem?_cons_succ, List.getElem?_cons_zero]; rfl) (fun K hK => ?_) AllReadyH.nil
    go_simp
    refine (chsame_any F oa oc qa qc ra rc sa sc _ HN20.out HO5.out HO6.out HO3.out HO4.out HXN.out HFN.out).mono ?_
    rintro e v3 ⟨rfl, hb⟩
    have hv3 : Below w5.heap.size w5 v3 := HV2.out.trans (hb.mono HV2.out.size)
    have HV3 := Lib.hid hv3
    clear hb hv3
    go_wp2_with fail
    refine hK.out _ _ (HV3.out) (fun hHeld2 => ?_)
    clear hK K hHeld
    have hHeld := hHeld2
    clear hHeld2
    try simp only [Act.put, List.setIfInBounds_toArray, List.set_cons_zero, List.set_cons_succ]
    refine wpAnyH_take (i := 8) (v := ?_) (by simp only [List.getElem?_toArray, List.getElem?_cons_succ, List.getElem?_cons_zero]; rfl) (by kernel_rfl) (by kernel_rfl) (by kernel_rfl) (fun _ _ _ h => h) (Or.inl ⟨by rfl, ?_⟩) (by assumption) ?_
    rotate_left
    · intro W hSW
      go_simp
      try with_reducible rfl
    try simp only [Act.put, List.setIfInBounds_toArray, List.set_cons_zero, List.set_cons_succ]
    refine wpAnyH_take (i := 9) (v := ?_) (by simp only [List.getElem?_toArray, List.getElem?_cons_succ, List.getElem?_cons_zero]; rfl) (by kernel_rfl) (by kernel_rfl) (by kernel_rfl) (fun _ _ _ h => h) (Or.inl ⟨by rfl, ?_⟩) (by assumption) ?_
    rotate_left
    · intro W hSW
      go_simp
      try with_reducible rfl
    try simp only [Act.put, List.setIfInBounds_toArray, List.set_cons_zero, List.set_cons_succ]
    refine wpAnyH_done (by kernel_rfl) ?_ _
    refine NoPanic.normal ?_
    clear hHeld
    have HBT := Lib.hid (HB5.out.trans (HV3.out.mono HB5.out.size))
    go_wp2_with fail
    refine (chparse_any a m cap L v3 (R.out.bytes.below HBT.out) (by have := HMB.out; omega) (HE.out.below HBT.out)).mono ?_
    rintro e w6 ⟨hpo, hb6⟩
    have HB6 := Lib.hid (HBT.out.trans (hb6.mono HBT.out.size))
    clear hb6
    have hzc := zero_ch
    cases hpc : parseC L with
    | none =>
      rw [hpc] at hpo
      obtain rfl := hpo
      have HZ6 : Hid ((w6.alloc (.cells (chA czero (.slice none 0 0) (.slice none 0 0)) 31)).heap[w6.heap.size]? = some (.cells (chA czero (.slice none 0 0) (.slice none 0 0)) 31 (0, 0))) := heap_alloc_new _ _
      have HS6 : Hid (Below w6.heap.size w6 ((w6.alloc (.cells (chA czero (.slice none 0 0) (.slice none 0 0)) 31)).setRow w6.heap.size (chV czero none 0 none 0))) := below_setRow ((Below.refl _ _).alloc (Nat.le_refl _) _) (Nat.le_refl _) _
      have HR6 : Hid (((w6.alloc (.cells (chA czero (.slice none 0 0) (.slice none 0 0)) 31)).setRow w6.heap.size (chV czero none 0 none 0)).heap[w6.heap.size]? = some (.cells (chV czero none 0 none 0) 31 (0, 0))) := setRow_heap _ _ _ _ _ _ HZ6.out
      go_wp2_with (first
        | refine wpList_store_row rfl 31 _ _ rfl w6.heap.size (chV czero none 0 none 0) rfl rfl 31 (chA czero (.slice none 0 0) (.slice none 0 0)) HZ6.out (info_chA czero _ _ czero_20) (by unfold chV; rw [chA_size _ _ _ czero_20, chA_size czero _ _ czero_20]) (chA_one _ _ _ rfl rfl) ?_)
      have HB7 := Lib.hid (HB6.out.trans (HS6.out.mono HB6.out.size))
      refine (chknown_any _ (HE.out.below HB7.out)).mono ?_
      rintro e wk ⟨rfl, hbk⟩
      have HBK := Lib.hid (HB7.out.trans (hbk.mono HB7.out.size))
      clear hbk
      go_wp2_with fail
      go_ret
      exact ⟨rfl, HBK.out⟩
    | some C =>
      rw [hpc] at hpo
      obtain ⟨ya, yc, za, zc, rfl, hat⟩ := hpo
      obtain ⟨hright, hprint, hraw⟩ := parseC_some hpc
      have HTY : Hid (ChTiny C) := by rw [hraw]; exact raw_tiny (by have h1 := R.out.bytes.1; rw [numsOf_length, txt_size] at h1; have := HMB.out; omega)
      have HPR := Lib.hid hprint
      have HRT := Lib.hid hright
      have HN20 := Lib.hid hat.n20
      have HZ6 : Hid ((w6.alloc (.cells (chA czero (.slice none 0 0) (.slice none 0 0)) 31)).heap[w6.heap.size]? = some (.cells (chA czero (.slice none 0 0) (.slice none 0 0)) 31 (0, 0))) := heap_alloc_new _ _
      have HS6 : Hid (Below w6.heap.size w6 ((w6.alloc (.cells (chA czero (.slice none 0 0) (.slice none 0 0)) 31)).setRow w6.heap.size (chV C ya yc za zc))) := below_setRow ((Below.refl _ _).alloc (Nat.le_refl _) _) (Nat.le_refl _) _
      have HR6 : Hid (((w6.alloc (.cells (chA czero (.slice none 0 0) (.slice none 0 0)) 31)).setRow w6.heap.size (chV C ya yc za zc)).heap[w6.heap.size]? = some (.cells (chV C ya yc za zc) 31 (0, 0))) := setRow_heap _ _ _ _ _ _ HZ6.out
      have HAT := Lib.hid (hat.below HS6.out)
      have HCV : Hid ((chL C (.slice ya C.xs.length yc) (.slice za C.fs.length zc)).toArray = chV C ya yc za zc) := rfl
      have HRW : Hid (ChRow ((w6.alloc (.cells (chA czero (.slice none 0 0) (.slice none 0 0)) 31)).setRow w6.heap.size (chV C ya yc za zc)) w6.heap.size C (.slice ya C.xs.length yc) (.slice za C.fs.length zc)) := ChRow.of HR6.out HN20.out
      clear hpc hright hprint hraw hat
      go_wp2_with (first
        | refine wpList_store_row rfl 31 _ _ rfl w6.heap.size (chV C ya yc za zc) rfl rfl 31 (chA czero (.slice none 0 0) (.slice none 0 0)) HZ6.out (info_chA C _ _ HN20.out) (by unfold chV; rw [chA_size _ _ _ czero_20, chA_size C _ _ HN20.out]) (chA_one _ _ _ rfl rfl) ?_
        | (refine wpList_load_mid rfl 31 _ rfl w6.heap.size 0 rfl (chL C (.slice ya C.xs.length yc) (.slice za C.fs.length zc)) _ HRW.out.cells Tryd.underlying31 rfl (info_ch C _ _ HN20.out) ?_
           rw [HCV.out]))
      have HB7 := Lib.hid (HB6.out.trans (HS6.out.mono HB6.out.size))
      refine (chprint_any C ya yc za zc _ HAT.out HTY.out (HE.out.below HB7.out)).mono ?_
      rintro e w8 ⟨hpr, hb8⟩
      have HB8 := Lib.hid (HB7.out.trans (hb8.mono HB7.out.size))
      clear hb8
      rcases hpr with ⟨-, pa, pc, rfl, hcap, hby⟩ | ⟨hrt, -⟩
      rotate_left
      · rw [HRT.out] at hrt; cases hrt
      rw [HPR.out] at hby hcap ⊢
      obtain ⟨pn, hpn⟩ : ∃ n, L.length = n := ⟨_, rfl⟩
      rw [hpn] at hby hcap ⊢
      have ht1 := text_run w8 pa pn pc _ hby
      rw [str_nums] at ht1
      have ht2 := text_run w8 a m cap _ (R.out.bytes.below HB8.out)
      rw [str_nums] at ht2
      have HSE := Lib.hid (neq_self (txt L))
      clear hby hcap hpn HAT HCV HRW HR6 HZ6 HB7 HS6
      go_wp2_with (first
        | refine wpList_eql (by rfl) .neq 9 _ _ _ rfl (.string (txt L)) (.string (txt L)) rfl rfl (.bool false) (guard_strn _ _ _ _) HSE.out ?_)
      refine (chknown_any w8 (HE.out.below HB8.out)).mono ?_
      rintro e wk ⟨rfl, hbk⟩
      have HBK := Lib.hid (HB8.out.trans (hbk.mono HB8.out.size))
      clear hbk
      go_wp2_with fail
      go_ret
      exact ⟨rfl, HBK.out⟩
  · clear hrt
    go_wp2_with fail
    refine (chparse_any a m cap L w3 (R.out.bytes.below HB3.out) (by have := HMB.out; omega) (HE.out.below HB3.out)).mono ?_
    rintro e w6 ⟨hpo, hb6⟩
    have HB6 := Lib.hid (HB3.out.trans (hb6.mono HB3.out.size))
    clear hb6
    have hzc := zero_ch
    cases hpc : parseC L with
    | none =>
      rw [hpc] at hpo
      obtain rfl := hpo
      have HZ6 : Hid ((w6.alloc (.cells (chA czero (.slice none 0 0) (.slice none 0 0)) 31)).heap[w6.heap.size]? = some (.cells (chA czero (.slice none 0 0) (.slice none 0 0)) 31 (0, 0))) := heap_alloc_new _ _
      have HS6 : Hid (Below w6.heap.size w6 ((w6.alloc (.cells (chA czero (.slice none 0 0) (.slice none 0 0)) 31)).setRow w6.heap.size (chV czero none 0 none 0))) := below_setRow ((Below.refl _ _).alloc (Nat.le_refl _) _) (Nat.le_refl _) _
      have HR6 : Hid (((w6.alloc (.cells (chA czero (.slice none 0 0) (.slice none 0 0)) 31)).setRow w6.heap.size (chV czero none 0 none 0)).heap[w6.heap.size]? = some (.cells (chV czero none 0 none 0) 31 (0, 0))) := setRow_heap _ _ _ _ _ _ HZ6.out
      go_wp2_with (first
        | refine wpList_store_row rfl 31 _ _ rfl w6.heap.size (chV czero none 0 none 0) rfl rfl 31 (chA czero (.slice none 0 0) (.slice none 0 0)) HZ6.out (info_chA czero _ _ czero_20) (by unfold chV; rw [chA_size _ _ _ czero_20, chA_size czero _ _ czero_20]) (chA_one _ _ _ rfl rfl) ?_)
      have HB7 := Lib.hid (HB6.out.trans (HS6.out.mono HB6.out.size))
      refine (chknown_any _ (HE.out.below HB7.out)).mono ?_
      rintro e wk ⟨rfl, hbk⟩
      have HBK := Lib.hid (HB7.out.trans (hbk.mono HB7.out.size))
      clear hbk
      go_wp2_with fail
      go_ret
      exact ⟨rfl, HBK.out⟩
    | some C =>
      rw [hpc] at hpo
      obtain ⟨ya, yc, za, zc, rfl, hat⟩ := hpo
      obtain ⟨hright, hprint, hraw⟩ := parseC_some hpc
      have HTY : Hid (ChTiny C) := by rw [hraw]; exact raw_tiny (by have h1 := R.out.bytes.1; rw [numsOf_length, txt_size] at h1; have := HMB.out; omega)
      have HPR := Lib.hid hprint
      have HRT := Lib.hid hright
      have HN20 := Lib.hid hat.n20
      have HZ6 : Hid ((w6.alloc (.cells (chA czero (.slice none 0 0) (.slice none 0 0)) 31)).heap[w6.heap.size]? = some (.cells (chA czero (.slice none 0 0) (.slice none 0 0)) 31 (0, 0))) := heap_alloc_new _ _
      have HS6 : Hid (Below w6.heap.size w6 ((w6.alloc (.cells (chA czero (.slice none 0 0) (.slice none 0 0)) 31)).setRow w6.heap.size (chV C ya yc za zc))) := below_setRow ((Below.refl _ _).alloc (Nat.le_refl _) _) (Nat.le_refl _) _
      have HR6 : Hid (((w6.alloc (.cells (chA czero (.slice none 0 0) (.slice none 0 0)) 31)).setRow w6.heap.size (chV C ya yc za zc)).heap[w6.heap.size]? = some (.cells (chV C ya yc za zc) 31 (0, 0))) := setRow_heap _ _ _ _ _ _ HZ6.out
      have HAT := Lib.hid (hat.below HS6.out)
      have HCV : Hid ((chL C (.slice ya C.xs.length yc) (.slice za C.fs.length zc)).toArray = chV C ya yc za zc) := rfl
      have HRW : Hid (ChRow ((w6.alloc (.cells (chA czero (.slice none 0 0) (.slice none 0 0)) 31)).setRow w6.heap.size (chV C ya yc za zc)) w6.heap.size C (.slice ya C.xs.length yc) (.slice za C.fs.length zc)) := ChRow.of HR6.out HN20.out
      clear hpc hright hprint hraw hat
      go_wp2_with (first
        | refine wpList_store_row rfl 31 _ _ rfl w6.heap.size (chV C ya yc za zc) rfl rfl 31 (chA czero (.slice none 0 0) (.slice none 0 0)) HZ6.out (info_chA C _ _ HN20.out) (by unfold chV; rw [chA_size _ _ _ czero_20, chA_size C _ _ HN20.out]) (chA_one _ _ _ rfl rfl) ?_
        | (refine wpList_load_mid rfl 31 _ rfl w6.heap.size 0 rfl (chL C (.slice ya C.xs.length yc) (.slice za C.fs.length zc)) _ HRW.out.cells Tryd.underlying31 rfl (info_ch C _ _ HN20.out) ?_
           rw [HCV.out]))
      have HB7 := Lib.hid (HB6.out.trans (HS6.out.mono HB6.out.size))
      refine (chprint_any C ya yc za zc _ HAT.out HTY.out (HE.out.below HB7.out)).mono ?_
      rintro e w8 ⟨hpr, hb8⟩
      have HB8 := Lib.hid (HB7.out.trans (hb8.mono HB7.out.size))
      clear hb8
      rcases hpr with ⟨-, pa, pc, rfl, hcap, hby⟩ | ⟨hrt, -⟩
      rotate_left
      · rw [HRT.out] at hrt; cases hrt
      rw [HPR.out] at hby hcap ⊢
      obtain ⟨pn, hpn⟩ : ∃ n, L.length = n := ⟨_, rfl⟩
      rw [hpn] at hby hcap ⊢
      have ht1 := text_run w8 pa pn pc _ hby
      rw [str_nums] at ht1
      have ht2 := text_run w8 a m cap _ (R.out.bytes.below HB8.out)
      rw [str_nums] at ht2
      have HSE := Lib.hid (neq_self (txt L))
      clear hby hcap hpn HAT HCV HRW HR6 HZ6 HB7 HS6
      go_wp2_with (first
        | refine wpList_eql (by rfl) .neq 9 _ _ _ rfl (.string (txt L)) (.string (txt L)) rfl rfl (.bool false) (guard_strn _ _ _ _) HSE.out ?_)
      refine (chknown_any w8 (HE.out.below HB8.out)).mono ?_
      rintro e wk ⟨rfl, hbk⟩
      have HBK := Lib.hid (HB8.out.trans (hbk.mono HB8.out.size))
      clear hbk
      go_wp2_with fail
      go_ret
      exact ⟨rfl, HBK.out⟩
end Go.Proofs.YthokcdjmhhlcdaaDoor
