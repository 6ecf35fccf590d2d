/- The law CommitBack. -/
import Derived.Test.YtindmggmblmmcaaDoorCoSame
namespace Go.Proofs.YtindmggmblmmcaaDoor
open Go.RowKit Plain Go.ChangeShapes Go.WideShapes Go.ChangeAt Go.Great
set_option linter.unusedVariables false
set_option linter.unusedSimpArgs false
theorem text_of (xs : List Int) (h : ∀ x ∈ xs, 0 ≤ x ∧ x < 256) : ∃ L, numsOf (txt L) = xs := ⟨(strOfNums xs).data.toList, by rw [txt_of]; exact nums_str xs fun x hx => by have := h x hx; omega⟩
theorem parse_raw {L : List UInt8} {c : CC} (h : parseC L = some c) : c = rawC L := by
  unfold parseC at h
  split at h
  · cases h
  · split at h
    · exact (Option.some.inj h).symm
    · cases h
theorem nlB_len : ∀ l : List UInt8, (nlB l).length ≤ 2 * l.length
  | [] => Nat.le_refl _
  | c :: r => by
    have := nlB_len r
    unfold nlB
    split
    · simp only [List.length_cons]; omega
    · simp only [List.length_cons]; omega
theorem few_sizes {w : World} {c : CC} {pa xa : Option Addr} (h : InCo w c pa xa) : (fewCC c).m.size ≤ 500 ∧ (fewCC c).ps.length ≤ 20 ∧ (fewCC c).xs.length ≤ 20 ∧ (∀ x ∈ (fewCC c).xs, x.1.size ≤ 200 ∧ x.2.size ≤ 200) := by
  refine ⟨cutB_size _ _, ?_, ?_, fun x hx => ?_⟩
  · show (c.ps.take 20).length ≤ 20; rw [List.length_take]; omega
  · show (List.map fewXX (c.xs.take 20)).length ≤ 20; rw [List.length_map, List.length_take]; omega
  · obtain ⟨y, -, rfl⟩ := List.mem_map.1 (show x ∈ List.map fewXX (c.xs.take 20) from hx)
    exact ⟨cutB_size _ _, cutB_size _ _⟩
theorem few_small {w : World} {c : CC} {pa xa : Option Addr} (h : InCo w c pa xa) : CoSmall (fewCC c) := by
  obtain ⟨h1, h2, h3, h4⟩ := few_sizes h
  exact ⟨few_who h.aw, few_who h.cw, by omega, by omega, fun x hx => by have := h4 x hx; exact ⟨by omega, by omega⟩, by omega⟩
theorem few_whoT {x : WX} (h : InWho x) : (whoT (fewW x)).length ≤ 626 := by
  have h1 := cutB_size 200 x.n
  have h2 := cutB_size 200 x.m
  have h3 := cutB_size 200 x.z
  have h4 := itoa_len x.t h.t64
  unfold whoT
  simp only [List.length_append, List.length_cons, List.length_nil]
  rw [← Lib.size_eq, ← Lib.size_eq, ← Lib.size_eq]
  show (cutB 200 x.n).size + _ + (cutB 200 x.m).size + _ + (Lib.itoa x.t).length + _ + (cutB 200 x.z).size ≤ _
  omega
theorem few_print {w : World} {c : CC} {pa xa : Option Addr} (h : InCo w c pa xa) : (printC (fewCC c)).length ≤ 15000 := by
  obtain ⟨h1, h2, h3, h4⟩ := few_sizes h
  have h20 : (fewCC c).tr.length = 20 := h.at_.n20
  have hi : ∀ p ∈ (fewCC c).ps, p.length = 20 := fun p hp => (h.at_.ids p (List.mem_of_mem_take hp)).1
  have ha : (whoT (fewCC c).a).length ≤ 626 := few_whoT h.aw
  have hc : (whoT (fewCC c).c).length ≤ 626 := few_whoT h.cw
  generalize fewCC c = F at *
  have e1 := treeT_len h20
  have e2 : (F.ps.flatMap parT).length ≤ 20 * 48 := Nat.le_trans (flat_le' parT 48 F.ps fun p hp => Nat.le_of_eq (parT_len (hi p hp))) (Nat.mul_le_mul_right _ h2)
  have e3 : (exsT F.xs).length ≤ 20 * 602 := Nat.le_trans (flat_le' (fun x => extT x ++ [10]) 602 F.xs fun x hx => by
    obtain ⟨k1, k2⟩ := h4 x hx
    have k3 := nlB_len x.2.data.toList
    rw [Lib.size_eq] at k1 k2
    unfold extT
    rw [rep_nlB]
    simp only [List.length_append, List.length_cons, List.length_nil]
    omega) (Nat.mul_le_mul_right _ h3)
  rw [Lib.size_eq] at h1
  unfold printC frontT autT comT
  simp only [List.length_append, List.length_cons, List.length_nil, e1]
  omega
set_option maxRecDepth 100000 in
set_option maxHeartbeats 32000000 in
theorem lawback_any (c : CC) (xa : Option Addr) (xc : Nat) (fa : Option Addr) (fc : Nat) (a : Option Addr) (len cap : Nat) (xs : List Int) (w : World) (hE : EnvC w) (h : InCo w c xa fa) (hR : RowB w a (min len 2000) cap xs) (hlc : len ≤ cap) :
    Calls Tryd.prog 3 #[.agg (coV c xa xc fa fc), .slice a len cap] w fun e w' => e = .returned (.bool true) ∧ Below w.heap.size w w' := by
  obtain ⟨L, rfl⟩ := text_of xs hR.mem
  obtain ⟨m, hm⟩ : ∃ m, min len 2000 = m := ⟨_, rfl⟩
  rw [hm] at hR
  have HMB : Hid (m ≤ 2000) := by show _ ≤ _; omega
  have hmin : min (len : Int) 2000 = (m : Int) := by omega
  have hsl : ∀ W, (Instr.sliceAt 29 (.slice a len cap) none (some (.int .i64 (m : Int))) none).run Tryd.prog W = .ok (.slice a m cap) W := slice_to a len cap m (by omega)
  have R := Lib.hid hR
  have HE := Lib.hid hE
  have H20 := Lib.hid h.at_.n20
  have HTI := Lib.hid (few_small h)
  have HPL := Lib.hid (few_print h)
  have HSI := Lib.hid (few_sizes h)
  have HB0 : Hid (Below w.heap.size w (w.alloc (.cells (coV c xa xc fa fc) 28))) := (Below.refl _ _).alloc (Nat.le_refl _) _
  have HR0 : Hid (CoRow (w.alloc (.cells (coV c xa xc fa fc) 28)) w.heap.size c (.slice xa c.ps.length xc) (.slice fa c.xs.length fc)) := CoRow.of (heap_alloc_new _ _) h.at_.n20
  have HTO := Lib.hid (coto_any c xa xc fa fc (w.alloc (.cells (coV c xa xc fa fc) 28)) (h.below HB0.out))
  have HCV0 : Hid ((coL c (.slice xa c.ps.length xc) (.slice fa c.xs.length fc)).toArray = coV c xa xc fa fc) := rfl
  have hzc := zero_co
  clear h hE hR hm
  go_enter Tryd.func3, Tryd.ntmps3
  go_wp2_with (first
    | (refine wpList_load_mid rfl 28 _ rfl w.heap.size 0 rfl (coL c (.slice xa c.ps.length xc) (.slice fa c.xs.length fc)) _ HR0.out.cells Tryd.underlying28 rfl (info_rco c _ _ H20.out) ?_
       rw [HCV0.out]))
  refine HTO.out.mono ?_
  rintro e w1 ⟨hto, hb⟩
  have HB1 := Lib.hid (HB0.out.trans (hb.mono HB0.out.size))
  clear hb HTO HR0 HCV0 HB0
  obtain ⟨F, hF⟩ : ∃ F, fewCC c = F := ⟨_, rfl⟩
  rw [hF] at hto HTI HPL HSI
  clear hF
  obtain ⟨ya, yc, za, zc, rfl, hat⟩ := hto
  have HN20 := Lib.hid hat.n20
  have HGD : Hid (CoGood F) := ⟨⟨hat.n20, hat.byt⟩, hat.ids⟩
  have HZ1 : Hid ((w1.alloc (.cells (coA cz (.slice none 0 0) (.slice none 0 0)) 35)).heap[w1.heap.size]? = some (.cells (coA cz (.slice none 0 0) (.slice none 0 0)) 35 (0, 0))) := heap_alloc_new _ _
  have HS1 : Hid (Below w1.heap.size w1 ((w1.alloc (.cells (coA cz (.slice none 0 0) (.slice none 0 0)) 35)).setRow w1.heap.size (coV F ya yc za zc))) := below_setRow ((Below.refl _ _).alloc (Nat.le_refl _) _) (Nat.le_refl _) _
  have HR1 : Hid (((w1.alloc (.cells (coA cz (.slice none 0 0) (.slice none 0 0)) 35)).setRow w1.heap.size (coV F ya yc za zc)).heap[w1.heap.size]? = some (.cells (coV F ya yc za zc) 35 (0, 0))) := setRow_heap _ _ _ _ _ _ HZ1.out
  have HAT0 := Lib.hid (hat.below HS1.out)
  have HCX : Hid ((coL F (.slice ya F.ps.length yc) (.slice za F.xs.length zc)).toArray = coV F ya yc za zc) := rfl
  have HRW : Hid (CoRow ((w1.alloc (.cells (coA cz (.slice none 0 0) (.slice none 0 0)) 35)).setRow w1.heap.size (coV F ya yc za zc)) w1.heap.size F (.slice ya F.ps.length yc) (.slice za F.xs.length zc)) := CoRow.of HR1.out HN20.out
  clear hat
  go_wp2_with (first
    | refine wpList_store_row rfl 35 _ _ rfl w1.heap.size (coV F ya yc za zc) rfl rfl 35 (coA cz (.slice none 0 0) (.slice none 0 0)) HZ1.out (info_coA F _ _ HN20.out) (by unfold coV; rw [coA_size _ _ _ cz_20, coA_size F _ _ HN20.out]) (coA_one _ _ _ rfl rfl) ?_
    | (refine wpList_load_mid rfl 35 _ rfl w1.heap.size 0 rfl (coL F (.slice ya F.ps.length yc) (.slice za F.xs.length zc)) _ HRW.out.cells Tryd.underlying35 rfl (info_co F _ _ HN20.out) ?_
       rw [HCX.out]))
  clear HRW
  obtain ⟨w2, hw1⟩ : ∃ X, (w1.alloc (.cells (coA cz (.slice none 0 0) (.slice none 0 0)) 35)).setRow w1.heap.size (coV F ya yc za zc) = X := ⟨_, rfl⟩
  rw [hw1] at HS1 HR1 HAT0 ⊢
  obtain ⟨xb, hb1⟩ : ∃ x, w1.heap.size = x := ⟨_, rfl⟩
  rw [hb1] at HR1 ⊢
  clear hw1 hb1 HZ1
  have HB2 := Lib.hid (HB1.out.trans (HS1.out.mono HB1.out.size))
  refine (coprint_any F ya yc za zc w2 HAT0.out HTI.out (HE.out.below HB2.out)).mono ?_
  rintro e w3 ⟨hpr, hb⟩
  have HB3 := Lib.hid (HB2.out.trans (hb.mono HB2.out.size))
  have HXR3 := Lib.hid ((hb.block xb (Array.getElem?_eq_some_iff.1 HR1.out).1).trans HR1.out)
  have HAT3 := Lib.hid (HAT0.out.below hb)
  clear hb HAT0 HR1
  rcases hpr with ⟨hrt, pa, pc, rfl, hcap, hby⟩ | ⟨hrt, rfl⟩
  · obtain ⟨pn, hpn⟩ : ∃ n, (printC F).length = n := ⟨_, rfl⟩
    rw [hpn] at hby HPL ⊢
    have HBY := Lib.hid hby
    have HRT := Lib.hid hrt
    clear hpn hby hrt hcap
    go_wp2_with fail
    have hcp := coparse_any pa pn pc (printC F) w3 HBY.out HPL.out (HE.out.below HB3.out)
    rw [parse_print HGD.out HRT.out] at hcp
    refine hcp.mono ?_
    clear hcp
    rintro e w4 ⟨hpo, hb⟩
    obtain ⟨ua, uc, va, vc, rfl, hat, -, -⟩ := hpo
    have HB4 := Lib.hid (HB3.out.trans (hb.mono HB3.out.size))
    have HXR4 := Lib.hid ((hb.block xb (Array.getElem?_eq_some_iff.1 HXR3.out).1).trans HXR3.out)
    have HAT4 := Lib.hid (HAT3.out.below hb)
    have HZ4 : Hid ((w4.alloc (.cells (coA cz (.slice none 0 0) (.slice none 0 0)) 35)).heap[w4.heap.size]? = some (.cells (coA cz (.slice none 0 0) (.slice none 0 0)) 35 (0, 0))) := heap_alloc_new _ _
    have HS4 : Hid (Below w4.heap.size w4 ((w4.alloc (.cells (coA cz (.slice none 0 0) (.slice none 0 0)) 35)).setRow w4.heap.size (coV F ua uc va vc))) := below_setRow ((Below.refl _ _).alloc (Nat.le_refl _) _) (Nat.le_refl _) _
    have HR4 : Hid (((w4.alloc (.cells (coA cz (.slice none 0 0) (.slice none 0 0)) 35)).setRow w4.heap.size (coV F ua uc va vc)).heap[w4.heap.size]? = some (.cells (coV F ua uc va vc) 35 (0, 0))) := setRow_heap _ _ _ _ _ _ HZ4.out
    have HCY : Hid ((coL F (.slice ua F.ps.length uc) (.slice va F.xs.length vc)).toArray = coV F ua uc va vc) := rfl
    have HATX0 := Lib.hid (HAT4.out.below HS4.out)
    have HATY0 := Lib.hid (hat.below HS4.out)
    have HXR5 := Lib.hid ((HS4.out.block xb (Array.getElem?_eq_some_iff.1 HXR4.out).1).trans HXR4.out)
    clear hb hat HXR3 HAT3
    go_wp2_with (first
      | refine wpList_store_row rfl 35 _ _ rfl w4.heap.size (coV F ua uc va vc) rfl rfl 35 (coA cz (.slice none 0 0) (.slice none 0 0)) HZ4.out (info_coA F _ _ HN20.out) (by unfold coV; rw [coA_size _ _ _ cz_20, coA_size F _ _ HN20.out]) (coA_one _ _ _ rfl rfl) ?_)
    have HB5 := Lib.hid (HB4.out.trans (HS4.out.mono HB4.out.size))
    obtain ⟨w5, hw5⟩ : ∃ X, (w4.alloc (.cells (coA cz (.slice none 0 0) (.slice none 0 0)) 35)).setRow w4.heap.size (coV F ua uc va vc) = X := ⟨_, rfl⟩
    rw [hw5] at HB5 HR4 HATX0 HATY0 HXR5 ⊢
    clear HS4 HZ4
    obtain ⟨yb, hyb⟩ : ∃ x, w4.heap.size = x := ⟨_, rfl⟩
    rw [hyb] at HR4 ⊢
    clear hw5 hyb HXR4 HAT4
    have HLxb : Hid (∀ W, Below w5.heap.size w5 W → W.rangeAt xb 0 (coL F (.slice ya F.ps.length yc) (.slice za F.xs.length zc))) := fun W hW => (CoRow.of ((hW.block xb (Array.getElem?_eq_some_iff.1 HXR5.out).1).trans HXR5.out) HN20.out).cells
    have HLyb : Hid (∀ W, Below w5.heap.size w5 W → W.rangeAt yb 0 (coL F (.slice ua F.ps.length uc) (.slice va F.xs.length vc))) := fun W hW => (CoRow.of ((hW.block yb (Array.getElem?_eq_some_iff.1 HR4.out).1).trans HR4.out) HN20.out).cells
    have HATX : Hid (∀ W, Below w5.heap.size w5 W → CoAt W F ya za) := fun W hW => HATX0.out.below hW
    have HATY : Hid (∀ W, Below w5.heap.size w5 W → CoAt W F ua va) := fun W hW => HATY0.out.below hW
    have HXN : Hid (F.ps.length ≤ 100000) := by have := HSI.out.2.1; show _ ≤ _; omega
    have HFN : Hid (F.xs.length ≤ 100000) := by have := HSI.out.2.2.1; show _ ≤ _; omega
    clear HATX0 HATY0 HXR5 HR4 HBY HB4 HB3 HB2 HB1
    refine wp_region_noPanic ?_
    refine wp_region_held_drew (S := fun W => Below w5.heap.size w5 W) (by kernel_rfl) ?_ (fun hHeld => ?_)
    · exact (Below.refl _ _).drew
    refine wpAnyH_take (i := 0) (v := ?_) (by simp only [List.getElem?_toArray, List.getElem?_cons_zero]; rfl) (by kernel_rfl) (by kernel_rfl) (by kernel_rfl) (fun _ _ _ h => h) (Or.inl ⟨by rfl, ?_⟩) (by assumption) ?_
    rotate_left
    · intro W hSW
      go_simp
      try with_reducible rfl
    try simp only [Act.put, List.setIfInBounds_toArray, List.set_cons_zero, List.set_cons_succ]
    refine wpAnyH_take (i := 1) (v := ?_) (by simp only [List.getElem?_toArray, List.getElem?_cons_succ, List.getElem?_cons_zero]; rfl) (by kernel_rfl) (by kernel_rfl) (by kernel_rfl) (fun _ _ _ h => h) (Or.inl ⟨by rfl, ?_⟩) (by assumption) ?_
    rotate_left
    · intro W hSW
      go_simp
      try with_reducible rfl
    try simp only [Act.put, List.setIfInBounds_toArray, List.set_cons_zero, List.set_cons_succ]
    refine wpAnyH_take (i := 2) (v := ?_) (by simp only [List.getElem?_toArray, List.getElem?_cons_succ, List.getElem?_cons_zero]; rfl) (by kernel_rfl) (by kernel_rfl) (by kernel_rfl) (fun _ _ _ h => h) (Or.inl ⟨by rfl, ?_⟩) (by assumption) ?_
    rotate_left
    · intro W hSW
      go_simp
      try with_reducible rfl
    try simp only [Act.put, List.setIfInBounds_toArray, List.set_cons_zero, List.set_cons_succ]
    refine wpAnyH_take (i := 3) (by simp only [List.getElem?_toArray, List.getElem?_cons_succ, List.getElem?_cons_zero]; rfl) (by kernel_rfl) (by kernel_rfl) (by kernel_rfl) (fun _ _ _ h => h) (yieldsIf_load_mid (by rfl) 35 _ rfl xb 0 rfl (coL F (.slice ya F.ps.length yc) (.slice za F.xs.length zc)) _ (fun W hSW => HLxb.out W hSW) Tryd.underlying35 rfl (info_co F _ _ HN20.out)) (by assumption) ?_
    try simp only [Act.put, List.setIfInBounds_toArray, List.set_cons_zero, List.set_cons_succ]
    refine wpAnyH_take (i := 5) (by simp only [List.getElem?_toArray, List.getElem?_cons_succ, List.getElem?_cons_zero]; rfl) (by kernel_rfl) (by kernel_rfl) (by kernel_rfl) (fun _ _ _ h => h) (yieldsIf_load_mid (by rfl) 35 _ rfl yb 0 rfl (coL F (.slice ua F.ps.length uc) (.slice va F.xs.length vc)) _ (fun W hSW => HLyb.out W hSW) Tryd.underlying35 rfl (info_co F _ _ HN20.out)) (by assumption) ?_
    try simp only [Act.put, List.setIfInBounds_toArray, List.set_cons_zero, List.set_cons_succ]
    rw [HCX.out, HCY.out]
    refine wpAnyH_ready (rs := [4]) (by kernel_rfl) (by simp) ?_
    refine AllReadyH.cons (by simp only [List.getElem?_toArray, List.getElem?_cons_succ, List.getElem?_cons_zero]; rfl) (fun K hK => ?_) AllReadyH.nil
    go_simp
    refine (coof_any F ya yc za zc _ (HATX.out _ (Below.refl _ _).drew) HXN.out HFN.out).mono ?_
    rintro e v1 ⟨⟨oa, oc, qa, qc, rfl, ho1⟩, hb⟩
    have hv1 : Below w5.heap.size w5 v1 := (Below.refl _ _).drew.trans hb
    have HV1 := Lib.hid hv1
    have HO1 := Lib.hid ho1
    clear hb hv1 ho1
    go_wp2_with fail
    refine hK.out _ _ (HV1.out) (fun hHeld2 => ?_)
    clear hK K hHeld
    have hHeld := hHeld2
    clear hHeld2
    try simp only [Act.put, List.setIfInBounds_toArray, List.set_cons_zero, List.set_cons_succ]
    refine wpAnyH_ready (rs := [6]) (by kernel_rfl) (by simp) ?_
    refine AllReadyH.cons (by simp only [List.getElem?_toArray, List.getElem?_cons_succ, List.getElem?_cons_zero]; rfl) (fun K hK => ?_) AllReadyH.nil
    go_simp
    refine (coof_any F ua uc va vc _ (HATY.out _ HV1.out) HXN.out HFN.out).mono ?_
    rintro e v2 ⟨⟨ra, rc, sa, sc, rfl, ho1⟩, hb⟩
    have hv2 : Below w5.heap.size w5 v2 := HV1.out.trans (hb.mono HV1.out.size)
    have HV2 := Lib.hid hv2
    have HO3 := Lib.hid ho1
    have HO5 := Lib.hid (HO1.out.below hb)
    clear hb hv2 ho1
    go_wp2_with fail
    refine hK.out _ _ (HV2.out) (fun hHeld2 => ?_)
    clear hK K hHeld
    have hHeld := hHeld2
    clear hHeld2
    try simp only [Act.put, List.setIfInBounds_toArray, List.set_cons_zero, List.set_cons_succ]
    refine wpAnyH_ready (rs := [7]) (by kernel_rfl) (by simp) ?_
    refine AllReadyH.cons (by simp only [List.getElem?_toArray, List.getElem?_cons_succ, List.getElem?_cons_zero]; rfl) (fun K hK => ?_) AllReadyH.nil
    go_simp
    refine (cosame_any F oa oc qa qc ra rc sa sc _ HO5.out HO3.out HXN.out HFN.out).mono ?_
    rintro e v3 ⟨rfl, hb⟩
    have hv3 : Below w5.heap.size w5 v3 := HV2.out.trans (hb.mono HV2.out.size)
    have HV3 := Lib.hid hv3
    clear hb hv3
    go_wp2_with fail
    refine hK.out _ _ (HV3.out) (fun hHeld2 => ?_)
    clear hK K hHeld
    have hHeld := hHeld2
    clear hHeld2
    try simp only [Act.put, List.setIfInBounds_toArray, List.set_cons_zero, List.set_cons_succ]
    refine wpAnyH_take (i := 8) (v := ?_) (by simp only [List.getElem?_toArray, List.getElem?_cons_succ, List.getElem?_cons_zero]; rfl) (by kernel_rfl) (by kernel_rfl) (by kernel_rfl) (fun _ _ _ h => h) (Or.inl ⟨by rfl, ?_⟩) (by assumption) ?_
    rotate_left
    · intro W hSW
      go_simp
      try with_reducible rfl
    try simp only [Act.put, List.setIfInBounds_toArray, List.set_cons_zero, List.set_cons_succ]
    refine wpAnyH_take (i := 9) (v := ?_) (by simp only [List.getElem?_toArray, List.getElem?_cons_succ, List.getElem?_cons_zero]; rfl) (by kernel_rfl) (by kernel_rfl) (by kernel_rfl) (fun _ _ _ h => h) (Or.inl ⟨by rfl, ?_⟩) (by assumption) ?_
    rotate_left
    · intro W hSW
      go_simp
      try with_reducible rfl
    try simp only [Act.put, List.setIfInBounds_toArray, List.set_cons_zero, List.set_cons_succ]
    refine wpAnyH_done (by kernel_rfl) ?_ _
    refine NoPanic.normal ?_
    clear hHeld
    have HBT := Lib.hid (HB5.out.trans (HV3.out.mono HB5.out.size))
    go_wp2_with fail
    obtain ⟨o, hpc⟩ : ∃ o, parseC L = o := ⟨_, rfl⟩
    have hcp := coparse_any a m cap L v3 (R.out.bytes.below HBT.out) (by have := HMB.out; omega) (HE.out.below HBT.out)
    rw [hpc] at hcp
    refine hcp.mono ?_
    clear hcp
    rintro e w6 ⟨hpo, hb6⟩
    have HB6 := Lib.hid (HBT.out.trans (hb6.mono HBT.out.size))
    clear hb6
    have hzc := zero_co
    cases o with
    | none =>
      obtain rfl := hpo
      have HZ6 : Hid ((w6.alloc (.cells (coA cz (.slice none 0 0) (.slice none 0 0)) 35)).heap[w6.heap.size]? = some (.cells (coA cz (.slice none 0 0) (.slice none 0 0)) 35 (0, 0))) := heap_alloc_new _ _
      have HS6 : Hid (Below w6.heap.size w6 ((w6.alloc (.cells (coA cz (.slice none 0 0) (.slice none 0 0)) 35)).setRow w6.heap.size (coV cz none 0 none 0))) := below_setRow ((Below.refl _ _).alloc (Nat.le_refl _) _) (Nat.le_refl _) _
      have HR6 : Hid (((w6.alloc (.cells (coA cz (.slice none 0 0) (.slice none 0 0)) 35)).setRow w6.heap.size (coV cz none 0 none 0)).heap[w6.heap.size]? = some (.cells (coV cz none 0 none 0) 35 (0, 0))) := setRow_heap _ _ _ _ _ _ HZ6.out
      go_wp2_with (first
        | refine wpList_store_row rfl 35 _ _ rfl w6.heap.size (coV cz none 0 none 0) rfl rfl 35 (coA cz (.slice none 0 0) (.slice none 0 0)) HZ6.out (info_coA cz _ _ cz_20) (by unfold coV; rw [coA_size _ _ _ cz_20, coA_size cz _ _ cz_20]) (coA_one _ _ _ rfl rfl) ?_)
      have HB7 := Lib.hid (HB6.out.trans (HS6.out.mono HB6.out.size))
      refine (known_any _ (HE.out.below HB7.out)).mono ?_
      rintro e wk ⟨rfl, hbk⟩
      have HBK := Lib.hid (HB7.out.trans (hbk.mono HB7.out.size))
      clear hbk
      go_wp2_with fail
      go_ret
      exact ⟨rfl, HBK.out⟩
    | some C =>
      obtain ⟨ya, yc, za, zc, rfl, hat, -, -⟩ := hpo
      obtain ⟨hprint, hright, -⟩ := parse_back hpc
      have hraw := parse_raw hpc
      have HTY : Hid (CoSmall C) := by rw [hraw]; exact raw_small L (by have h1 := R.out.bytes.1; rw [numsOf_length, txt_size] at h1; have := HMB.out; omega)
      have HPR := Lib.hid hprint
      have HRT := Lib.hid hright
      have HN20 := Lib.hid hat.n20
      have HZ6 : Hid ((w6.alloc (.cells (coA cz (.slice none 0 0) (.slice none 0 0)) 35)).heap[w6.heap.size]? = some (.cells (coA cz (.slice none 0 0) (.slice none 0 0)) 35 (0, 0))) := heap_alloc_new _ _
      have HS6 : Hid (Below w6.heap.size w6 ((w6.alloc (.cells (coA cz (.slice none 0 0) (.slice none 0 0)) 35)).setRow w6.heap.size (coV C ya yc za zc))) := below_setRow ((Below.refl _ _).alloc (Nat.le_refl _) _) (Nat.le_refl _) _
      have HR6 : Hid (((w6.alloc (.cells (coA cz (.slice none 0 0) (.slice none 0 0)) 35)).setRow w6.heap.size (coV C ya yc za zc)).heap[w6.heap.size]? = some (.cells (coV C ya yc za zc) 35 (0, 0))) := setRow_heap _ _ _ _ _ _ HZ6.out
      have HAT := Lib.hid (hat.below HS6.out)
      have HCV : Hid ((coL C (.slice ya C.ps.length yc) (.slice za C.xs.length zc)).toArray = coV C ya yc za zc) := rfl
      have HRW : Hid (CoRow ((w6.alloc (.cells (coA cz (.slice none 0 0) (.slice none 0 0)) 35)).setRow w6.heap.size (coV C ya yc za zc)) w6.heap.size C (.slice ya C.ps.length yc) (.slice za C.xs.length zc)) := CoRow.of HR6.out HN20.out
      clear hpc hright hprint hraw hat
      go_wp2_with (first
        | refine wpList_store_row rfl 35 _ _ rfl w6.heap.size (coV C ya yc za zc) rfl rfl 35 (coA cz (.slice none 0 0) (.slice none 0 0)) HZ6.out (info_coA C _ _ HN20.out) (by unfold coV; rw [coA_size _ _ _ cz_20, coA_size C _ _ HN20.out]) (coA_one _ _ _ rfl rfl) ?_
        | (refine wpList_load_mid rfl 35 _ rfl w6.heap.size 0 rfl (coL C (.slice ya C.ps.length yc) (.slice za C.xs.length zc)) _ HRW.out.cells Tryd.underlying35 rfl (info_co C _ _ HN20.out) ?_
           rw [HCV.out]))
      have HB7 := Lib.hid (HB6.out.trans (HS6.out.mono HB6.out.size))
      refine (coprint_any C ya yc za zc _ HAT.out HTY.out (HE.out.below HB7.out)).mono ?_
      rintro e w8 ⟨hpr, hb8⟩
      have HB8 := Lib.hid (HB7.out.trans (hb8.mono HB7.out.size))
      clear hb8
      rcases hpr with ⟨-, pa, pc, rfl, hcap, hby⟩ | ⟨hrt, -⟩
      rotate_left
      · rw [HRT.out] at hrt; cases hrt
      rw [HPR.out] at hby hcap ⊢
      obtain ⟨pn, hpn⟩ : ∃ n, L.length = n := ⟨_, rfl⟩
      rw [hpn] at hby hcap ⊢
      have ht1 := text_run w8 pa pn pc _ hby
      rw [str_nums] at ht1
      have ht2 := text_run w8 a m cap _ (R.out.bytes.below HB8.out)
      rw [str_nums] at ht2
      have HSE := Lib.hid (neq_self (txt L))
      clear hby hcap hpn HAT HCV HRW HR6 HZ6 HB7 HS6
      go_wp2_with (first
        | refine wpList_eql (by rfl) .neq 9 _ _ _ rfl (.string (txt L)) (.string (txt L)) rfl rfl (.bool false) (guard_strn _ _ _ _) HSE.out ?_)
      refine (known_any w8 (HE.out.below HB8.out)).mono ?_
      rintro e wk ⟨rfl, hbk⟩
      have HBK := Lib.hid (HB8.out.trans (hbk.mono HB8.out.size))
      clear hbk
      go_wp2_with fail
      go_ret
      exact ⟨rfl, HBK.out⟩
  · clear hrt
    go_wp2_with fail
    obtain ⟨o, hpc⟩ : ∃ o, parseC L = o := ⟨_, rfl⟩
    have hcp := coparse_any a m cap L w3 (R.out.bytes.below HB3.out) (by have := HMB.out; omega) (HE.out.below HB3.out)
    rw [hpc] at hcp
    refine hcp.mono ?_
    clear hcp
    rintro e w6 ⟨hpo, hb6⟩
    have HB6 := Lib.hid (HB3.out.trans (hb6.mono HB3.out.size))
    clear hb6
    have hzc := zero_co
    cases o with
    | none =>
      obtain rfl := hpo
      have HZ6 : Hid ((w6.alloc (.cells (coA cz (.slice none 0 0) (.slice none 0 0)) 35)).heap[w6.heap.size]? = some (.cells (coA cz (.slice none 0 0) (.slice none 0 0)) 35 (0, 0))) := heap_alloc_new _ _
      have HS6 : Hid (Below w6.heap.size w6 ((w6.alloc (.cells (coA cz (.slice none 0 0) (.slice none 0 0)) 35)).setRow w6.heap.size (coV cz none 0 none 0))) := below_setRow ((Below.refl _ _).alloc (Nat.le_refl _) _) (Nat.le_refl _) _
      have HR6 : Hid (((w6.alloc (.cells (coA cz (.slice none 0 0) (.slice none 0 0)) 35)).setRow w6.heap.size (coV cz none 0 none 0)).heap[w6.heap.size]? = some (.cells (coV cz none 0 none 0) 35 (0, 0))) := setRow_heap _ _ _ _ _ _ HZ6.out
      go_wp2_with (first
        | refine wpList_store_row rfl 35 _ _ rfl w6.heap.size (coV cz none 0 none 0) rfl rfl 35 (coA cz (.slice none 0 0) (.slice none 0 0)) HZ6.out (info_coA cz _ _ cz_20) (by unfold coV; rw [coA_size _ _ _ cz_20, coA_size cz _ _ cz_20]) (coA_one _ _ _ rfl rfl) ?_)
      have HB7 := Lib.hid (HB6.out.trans (HS6.out.mono HB6.out.size))
      refine (known_any _ (HE.out.below HB7.out)).mono ?_
      rintro e wk ⟨rfl, hbk⟩
      have HBK := Lib.hid (HB7.out.trans (hbk.mono HB7.out.size))
      clear hbk
      go_wp2_with fail
      go_ret
      exact ⟨rfl, HBK.out⟩
    | some C =>
      obtain ⟨ya, yc, za, zc, rfl, hat, -, -⟩ := hpo
      obtain ⟨hprint, hright, -⟩ := parse_back hpc
      have hraw := parse_raw hpc
      have HTY : Hid (CoSmall C) := by rw [hraw]; exact raw_small L (by have h1 := R.out.bytes.1; rw [numsOf_length, txt_size] at h1; have := HMB.out; omega)
      have HPR := Lib.hid hprint
      have HRT := Lib.hid hright
      have HN20 := Lib.hid hat.n20
      have HZ6 : Hid ((w6.alloc (.cells (coA cz (.slice none 0 0) (.slice none 0 0)) 35)).heap[w6.heap.size]? = some (.cells (coA cz (.slice none 0 0) (.slice none 0 0)) 35 (0, 0))) := heap_alloc_new _ _
      have HS6 : Hid (Below w6.heap.size w6 ((w6.alloc (.cells (coA cz (.slice none 0 0) (.slice none 0 0)) 35)).setRow w6.heap.size (coV C ya yc za zc))) := below_setRow ((Below.refl _ _).alloc (Nat.le_refl _) _) (Nat.le_refl _) _
      have HR6 : Hid (((w6.alloc (.cells (coA cz (.slice none 0 0) (.slice none 0 0)) 35)).setRow w6.heap.size (coV C ya yc za zc)).heap[w6.heap.size]? = some (.cells (coV C ya yc za zc) 35 (0, 0))) := setRow_heap _ _ _ _ _ _ HZ6.out
      have HAT := Lib.hid (hat.below HS6.out)
      have HCV : Hid ((coL C (.slice ya C.ps.length yc) (.slice za C.xs.length zc)).toArray = coV C ya yc za zc) := rfl
      have HRW : Hid (CoRow ((w6.alloc (.cells (coA cz (.slice none 0 0) (.slice none 0 0)) 35)).setRow w6.heap.size (coV C ya yc za zc)) w6.heap.size C (.slice ya C.ps.length yc) (.slice za C.xs.length zc)) := CoRow.of HR6.out HN20.out
      clear hpc hright hprint hraw hat
      go_wp2_with (first
        | refine wpList_store_row rfl 35 _ _ rfl w6.heap.size (coV C ya yc za zc) rfl rfl 35 (coA cz (.slice none 0 0) (.slice none 0 0)) HZ6.out (info_coA C _ _ HN20.out) (by unfold coV; rw [coA_size _ _ _ cz_20, coA_size C _ _ HN20.out]) (coA_one _ _ _ rfl rfl) ?_
        | (refine wpList_load_mid rfl 35 _ rfl w6.heap.size 0 rfl (coL C (.slice ya C.ps.length yc) (.slice za C.xs.length zc)) _ HRW.out.cells Tryd.underlying35 rfl (info_co C _ _ HN20.out) ?_
           rw [HCV.out]))
      have HB7 := Lib.hid (HB6.out.trans (HS6.out.mono HB6.out.size))
      refine (coprint_any C ya yc za zc _ HAT.out HTY.out (HE.out.below HB7.out)).mono ?_
      rintro e w8 ⟨hpr, hb8⟩
      have HB8 := Lib.hid (HB7.out.trans (hb8.mono HB7.out.size))
      clear hb8
      rcases hpr with ⟨-, pa, pc, rfl, hcap, hby⟩ | ⟨hrt, -⟩
      rotate_left
      · rw [HRT.out] at hrt; cases hrt
      rw [HPR.out] at hby hcap ⊢
      obtain ⟨pn, hpn⟩ : ∃ n, L.length = n := ⟨_, rfl⟩
      rw [hpn] at hby hcap ⊢
      have ht1 := text_run w8 pa pn pc _ hby
      rw [str_nums] at ht1
      have ht2 := text_run w8 a m cap _ (R.out.bytes.below HB8.out)
      rw [str_nums] at ht2
      have HSE := Lib.hid (neq_self (txt L))
      clear hby hcap hpn HAT HCV HRW HR6 HZ6 HB7 HS6
      go_wp2_with (first
        | refine wpList_eql (by rfl) .neq 9 _ _ _ rfl (.string (txt L)) (.string (txt L)) rfl rfl (.bool false) (guard_strn _ _ _ _) HSE.out ?_)
      refine (known_any w8 (HE.out.below HB8.out)).mono ?_
      rintro e wk ⟨rfl, hbk⟩
      have HBK := Lib.hid (HB8.out.trans (hbk.mono HB8.out.size))
      clear hbk
      go_wp2_with fail
      go_ret
      exact ⟨rfl, HBK.out⟩
end Go.Proofs.YtindmggmblmmcaaDoor
