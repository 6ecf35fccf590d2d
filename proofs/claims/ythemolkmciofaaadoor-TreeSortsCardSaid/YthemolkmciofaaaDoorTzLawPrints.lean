/- TreePrints: the walk. -/
import Derived.Test.YthemolkmciofaaaDoorTzBody
namespace Go.Proofs.YthemolkmciofaaaDoor
open Go.RowKit Plain Go.ChangeShapes Go.WideShapes Go.ChangeAt Go.Great
set_option linter.unusedVariables false
set_option linter.unusedSimpArgs false
theorem refright_n (n : Nat) (ys : List TE) (hn : ys.length = n) (hb : n ≤ 1000000) (a : Option Addr) (c : Nat) (w : World) (h : EsAt w a ys) (hps : ∀ x ∈ ys, x.p.size ≤ 100000) :
    Calls Tryd.prog 13 #[.slice a n c] w fun e w' => e = .returned (.bool (rightT ys)) ∧ Below w.heap.size w w' := by
  subst hn; exact refright_any a c ys w h hb hps
theorem tsort_n (n : Nat) (ys : List TE) (hn : ys.length = n) (hb : n ≤ 100000) (a : Option Addr) (c : Nat) (hnc : a = none → c = 0) (w : World) (h : EsAt w a ys) (hps : ∀ x ∈ ys, x.p.size ≤ 100000) :
    Calls Tryd.prog 6 #[.slice a n c] w fun e w' => (∃ v, e = .returned v ∧ OwnE 30 w' w.heap.size v (sortS ltT ys)) ∧ Below w.heap.size w w' := by
  subst hn; exact tsort_any a c ys w h hnc hb hps
theorem refsort_n (n : Nat) (ys : List TE) (hn : ys.length = n) (hb : n ≤ 100000) (a : Option Addr) (c : Nat) (w : World) (h : EsAt w a ys) (hps : ∀ x ∈ ys, x.p.size ≤ 100000) :
    Calls Tryd.prog 14 #[.slice a n c] w fun e w' => (∃ v, e = .returned v ∧ OwnE 33 w' w.heap.size v (sortS ltT ys)) ∧ Below w.heap.size w w' := by
  subst hn; exact refsort_any a c ys w h hb hps
theorem refbody_n (n : Nat) (ys : List TE) (hn : ys.length = n) (hb : n ≤ 1000) (a : Option Addr) (c : Nat) (w : World) (h : EsAt w a ys) (hgf : ∀ x ∈ ys, GoodE x) (hps : ∀ x ∈ ys, x.p.size ≤ 1000) :
    Calls Tryd.prog 15 #[.slice a n c] w fun e w' => (∃ a' c', e = .returned (.slice a' (textT ys).length c') ∧ RowB w' a' (textT ys).length c' (numsOf (txt (textT ys)))) ∧ Below w.heap.size w w' := by
  subst hn; exact refbody_any a c ys w h hb hgf hps
theorem few_short (x : TE) : (fewE x).p.size ≤ 1000 := by
  show (x.p.extract 0 (min x.p.size 300)).size ≤ _
  simp; omega
set_option maxRecDepth 100000 in
set_option maxHeartbeats 64000000 in
theorem lawtprints_any (a : Option Addr) (c : Nat) (xs : List TE) (w : World) (hE : Env w) (h : EsAt w a xs) (hn : xs.length ≤ 9223372036854775807) (hg : ∀ x ∈ xs, GoodE x) :
    Calls Tryd.prog 4 #[.slice a xs.length c] w fun e w' => e = .returned (.bool true) ∧ Below w.heap.size w w' := by
  have HE := Lib.hid hE
  obtain ⟨ys, hys⟩ : ∃ ys, (xs.take 60).map fewE = ys := ⟨_, rfl⟩
  have HYG : Hid (∀ y ∈ ys, GoodE y) := fun y hy => by
    rw [← hys] at hy
    obtain ⟨x, hx, rfl⟩ := List.mem_map.1 hy
    exact hg x (List.mem_of_mem_take hx)
  have HYP : Hid (∀ y ∈ ys, y.p.size ≤ 100000) := fun y hy => by
    rw [← hys] at hy
    obtain ⟨x, hx, rfl⟩ := List.mem_map.1 hy
    exact few_small x
  have HFEW0 := fun W (hW : Below w.heap.size w W) => few_any a c xs W (h.below hW) hn
  simp only [hys] at HFEW0
  obtain ⟨n, hyn⟩ : ∃ n, ys.length = n := ⟨_, rfl⟩
  have HN := Lib.hid hyn
  have HNB : Hid (n ≤ 60) := by
    show _ ≤ _
    rw [← hyn, ← hys, List.length_map, List.length_take]; omega
  obtain ⟨xn, hxn⟩ : ∃ n, xs.length = n := ⟨_, rfl⟩
  simp only [hxn] at HFEW0
  rw [hxn]
  have HFEW := Lib.hid HFEW0
  have HYS : Hid (∀ y ∈ ys, y.p.size ≤ 1000) := fun y hy => by
    rw [← hys] at hy
    obtain ⟨x, hx, rfl⟩ := List.mem_map.1 hy
    exact few_short x
  clear hys hyn hxn h hg hn hE HFEW0
  have HSN : Hid ((sortS ltT ys).length = n) := by show _ = _; rw [sortS_len, HN.out]
  go_enter Tryd.func4, Tryd.ntmps4
  go_wp2_with fail
  refine (HFEW.out w (Below.refl _ _)).mono ?_
  rintro e v1 ⟨⟨v, rfl, ho⟩, hb⟩
  have HV1 := Lib.hid hb
  obtain ⟨la, lc, rfl, hat, -, hnc⟩ := ho.at
  have HNC := Lib.hid hnc
  have HA1 := Lib.hid hat
  clear hat ho hb HFEW hnc
  rw [HN.out]
  go_wp2_with fail
  refine (tas_n n ys HN.out (by have := HNB.out; omega) la lc v1 HA1.out).mono ?_
  rintro e v2 ⟨⟨v, rfl, ho⟩, hb⟩
  have HV2 := Lib.hid (HV1.out.trans (hb.mono HV1.out.size))
  have HA2 := Lib.hid (HA1.out.below hb)
  obtain ⟨ra, rc, rfl, hat, -, -⟩ := ho.at
  have HR2 := Lib.hid hat
  rw [HN.out]
  clear hat ho hb HA1 HV1
  go_wp2_with fail
  refine (tprint_n n ys HN.out (by have := HNB.out; omega) la lc v2 HA2.out HYG.out HYP.out (HE.out.below HV2.out)).mono ?_
  rintro e v3 ⟨hpo, hb⟩
  have HV3 := Lib.hid (HV2.out.trans (hb.mono HV2.out.size))
  have HA3 := Lib.hid (HA2.out.below hb)
  have HR3 := Lib.hid (HR2.out.below hb)
  have HAT : Hid (∀ W, Below v3.heap.size v3 W → EsAt W la ys) := fun W hW => HA3.out.below hW
  have HRAT : Hid (∀ W, Below v3.heap.size v3 W → EsAt W ra ys) := fun W hW => HR3.out.below hW
  have HE3 : Hid (Env v3) := HE.out.below HV3.out
  clear hb HA2 HR2 HV2
  cases hr : rightT ys
  · obtain rfl := hpo.no hr
    have HRT := Lib.hid hr
    clear hr hpo
    go_wp2_with fail
    refine (refright_n n ys HN.out (by have := HNB.out; omega) ra rc v3 HR3.out HYP.out).mono ?_
    rintro e v4 ⟨rfl, hb⟩
    rw [HRT.out]
    have HV4 := Lib.hid hb
    clear hb
    go_wp2_with fail
    refine (known_any v4 (HE3.out.below HV4.out)).mono ?_
    rintro e v5 ⟨rfl, hb⟩
    have HV5 := Lib.hid (HV4.out.trans (hb.mono HV4.out.size))
    clear hb HV4
    go_wp2_with fail
    refine (tright_n n ys HN.out (by have := HNB.out; omega) la lc v5 (HAT.out v5 HV5.out) HYP.out).mono ?_
    rintro e v6 ⟨rfl, hb⟩
    rw [HRT.out]
    have HV6 := Lib.hid (HV5.out.trans (hb.mono HV5.out.size))
    clear hb HV5
    go_wp2_with fail
    refine (tsort_n n ys HN.out (by have := HNB.out; omega) la lc HNC.out v6 (HAT.out v6 HV6.out) HYP.out).mono ?_
    rintro e v7 ⟨⟨v, rfl, ho⟩, hb⟩
    have HV7 := Lib.hid (HV6.out.trans (hb.mono HV6.out.size))
    obtain ⟨sa, sc, rfl, hat, -, -⟩ := ho.at
    have HS7 := Lib.hid hat
    rw [HSN.out]
    clear hat ho hb HV6
    go_wp2_with fail
    refine (tas_n n (sortS ltT ys) HSN.out (by have := HNB.out; omega) sa sc v7 HS7.out).mono ?_
    rintro e v8 ⟨⟨v, rfl, ho⟩, hb⟩
    have HV8 := Lib.hid (HV7.out.trans (hb.mono HV7.out.size))
    obtain ⟨ta, tc, rfl, hat, -, -⟩ := ho.at
    have HT8 := Lib.hid hat
    rw [HSN.out]
    clear hat ho hb HV7 HS7
    go_wp2_with fail
    refine (refsort_n n ys HN.out (by have := HNB.out; omega) ra rc v8 (HRAT.out v8 HV8.out) HYP.out).mono ?_
    rintro e v9 ⟨⟨v, rfl, ho⟩, hb⟩
    have HV9 := Lib.hid (HV8.out.trans (hb.mono HV8.out.size))
    have HT9 := Lib.hid (HT8.out.below hb)
    obtain ⟨qa, qc, rfl, hat, -, -⟩ := ho.at
    have HQ9 := Lib.hid hat
    rw [HSN.out]
    clear hat ho hb HV8 HT8
    go_wp2_with fail
    refine (tsame_n n (sortS ltT ys) HSN.out (by have := HNB.out; omega) ta qa tc qc v9 HT9.out HQ9.out).mono ?_
    rintro e w1 ⟨rfl, hb⟩
    have HW1 := Lib.hid (HV9.out.trans (hb.mono HV9.out.size))
    clear hb HV9 HT9 HQ9
    go_wp2_with fail
    refine (tas_n n ys HN.out (by have := HNB.out; omega) la lc w1 (HAT.out w1 HW1.out)).mono ?_
    rintro e w2 ⟨⟨v, rfl, ho⟩, hb⟩
    have HW2 := Lib.hid (HW1.out.trans (hb.mono HW1.out.size))
    obtain ⟨ua, uc, rfl, hat, -, -⟩ := ho.at
    have HU2 := Lib.hid hat
    rw [HN.out]
    clear hat ho hb HW1
    go_wp2_with fail
    refine (tsame_n n ys HN.out (by have := HNB.out; omega) ua ra uc rc w2 HU2.out (HRAT.out w2 HW2.out)).mono ?_
    rintro e w3 ⟨rfl, hb⟩
    have HW3 := Lib.hid (HW2.out.trans (hb.mono HW2.out.size))
    clear hb HW2 HU2
    go_wp2_with fail
    (try simp only [Exit.inBlock, Exit.then])
    go_ret
    exact ⟨rfl, HV3.out.trans (HW3.out.mono HV3.out.size)⟩
  · obtain ⟨pa, pc, rfl, hbt⟩ := hpo.yes hr
    have HRT := Lib.hid hr
    obtain ⟨pl, hpl⟩ : ∃ l, (textT ys).length = l := ⟨_, rfl⟩
    obtain ⟨B, hB⟩ : ∃ s, strOfNums (numsOf (txt (textT ys))) = s := ⟨_, rfl⟩
    have HTN := Lib.hid hpl
    have HTE := Lib.hid hB
    have HTX : Hid (∀ W, Below v3.heap.size v3 W → (convert 39 9 (.slice pa pl pc)).run Tryd.prog W = .ok (.string B) W) := fun W hW => by
      have := text_run W pa _ pc _ (hbt.below hW).bytes
      rwa [hB, hpl] at this
    rw [hpl]
    clear hr hpo hbt hpl hB
    go_wp2_with fail
    refine (refright_n n ys HN.out (by have := HNB.out; omega) ra rc v3 HR3.out HYP.out).mono ?_
    rintro e v4 ⟨rfl, hb⟩
    rw [HRT.out]
    have HV4 := Lib.hid hb
    clear hb
    go_wp2_with fail
    refine (known_any v4 (HE3.out.below HV4.out)).mono ?_
    rintro e v5 ⟨rfl, hb⟩
    have HV5 := Lib.hid (HV4.out.trans (hb.mono HV4.out.size))
    clear hb HV4
    go_wp2_with fail
    refine (tright_n n ys HN.out (by have := HNB.out; omega) la lc v5 (HAT.out v5 HV5.out) HYP.out).mono ?_
    rintro e v6 ⟨rfl, hb⟩
    rw [HRT.out]
    have HV6 := Lib.hid (HV5.out.trans (hb.mono HV5.out.size))
    clear hb HV5
    go_wp2_with fail
    refine (tsort_n n ys HN.out (by have := HNB.out; omega) la lc HNC.out v6 (HAT.out v6 HV6.out) HYP.out).mono ?_
    rintro e v7 ⟨⟨v, rfl, ho⟩, hb⟩
    have HV7 := Lib.hid (HV6.out.trans (hb.mono HV6.out.size))
    obtain ⟨sa, sc, rfl, hat, -, -⟩ := ho.at
    have HS7 := Lib.hid hat
    rw [HSN.out]
    clear hat ho hb HV6
    go_wp2_with fail
    refine (tas_n n (sortS ltT ys) HSN.out (by have := HNB.out; omega) sa sc v7 HS7.out).mono ?_
    rintro e v8 ⟨⟨v, rfl, ho⟩, hb⟩
    have HV8 := Lib.hid (HV7.out.trans (hb.mono HV7.out.size))
    obtain ⟨ta, tc, rfl, hat, -, -⟩ := ho.at
    have HT8 := Lib.hid hat
    rw [HSN.out]
    clear hat ho hb HV7 HS7
    go_wp2_with fail
    refine (refsort_n n ys HN.out (by have := HNB.out; omega) ra rc v8 (HRAT.out v8 HV8.out) HYP.out).mono ?_
    rintro e v9 ⟨⟨v, rfl, ho⟩, hb⟩
    have HV9 := Lib.hid (HV8.out.trans (hb.mono HV8.out.size))
    have HT9 := Lib.hid (HT8.out.below hb)
    obtain ⟨qa, qc, rfl, hat, -, -⟩ := ho.at
    have HQ9 := Lib.hid hat
    rw [HSN.out]
    clear hat ho hb HV8 HT8
    go_wp2_with fail
    refine (tsame_n n (sortS ltT ys) HSN.out (by have := HNB.out; omega) ta qa tc qc v9 HT9.out HQ9.out).mono ?_
    rintro e w1 ⟨rfl, hb⟩
    have HW1 := Lib.hid (HV9.out.trans (hb.mono HV9.out.size))
    clear hb HV9 HT9 HQ9
    go_wp2_with fail
    refine (tas_n n ys HN.out (by have := HNB.out; omega) la lc w1 (HAT.out w1 HW1.out)).mono ?_
    rintro e w2 ⟨⟨v, rfl, ho⟩, hb⟩
    have HW2 := Lib.hid (HW1.out.trans (hb.mono HW1.out.size))
    obtain ⟨ua, uc, rfl, hat, -, -⟩ := ho.at
    have HU2 := Lib.hid hat
    rw [HN.out]
    clear hat ho hb HW1
    go_wp2_with fail
    refine (tsame_n n ys HN.out (by have := HNB.out; omega) ua ra uc rc w2 HU2.out (HRAT.out w2 HW2.out)).mono ?_
    rintro e w3 ⟨rfl, hb⟩
    have HW3 := Lib.hid (HW2.out.trans (hb.mono HW2.out.size))
    clear hb HW2 HU2
    go_wp2_with fail
    refine wp_region_noPanic ?_
    refine wp_region_held_drew (S := fun W => Below w3.heap.size w3 W) (by kernel_rfl) ?_ (fun hHeld => ?_)
    · exact (Below.refl _ _).drew
    refine wpAnyH_take (i := 0) (v := ?_) (by simp only [List.getElem?_toArray, List.getElem?_cons_zero]; rfl) (by kernel_rfl) (by kernel_rfl) (by kernel_rfl) (fun _ _ _ h => h) (Or.inl ⟨by rfl, ?_⟩) (by assumption) ?_
    rotate_left
    · intro W hSW
      go_simp
      try with_reducible rfl
    try simp only [Act.put, List.setIfInBounds_toArray, List.set_cons_zero, List.set_cons_succ]
    refine wpAnyH_take (i := 1) (v := ?_) (by simp only [List.getElem?_toArray, List.getElem?_cons_succ, List.getElem?_cons_zero]; rfl) (by kernel_rfl) (by kernel_rfl) (by kernel_rfl) (fun _ _ _ h => h) (Or.inl ⟨by rfl, ?_⟩) (by assumption) ?_
    rotate_left
    · intro W hSW
      go_simp
      try with_reducible rfl
    try simp only [Act.put, List.setIfInBounds_toArray, List.set_cons_zero, List.set_cons_succ]
    refine wpAnyH_take (i := 2) (v := ?_) (by simp only [List.getElem?_toArray, List.getElem?_cons_succ, List.getElem?_cons_zero]; rfl) (by kernel_rfl) (by kernel_rfl) (by kernel_rfl) (fun _ _ _ h => h) (Or.inl ⟨by rfl, ?_⟩) (by assumption) ?_
    rotate_left
    · intro W hSW
      go_simp
      try with_reducible rfl
    try simp only [Act.put, List.setIfInBounds_toArray, List.set_cons_zero, List.set_cons_succ]
    refine wpAnyH_take (i := 3) (v := ?_) (by simp only [List.getElem?_toArray, List.getElem?_cons_succ, List.getElem?_cons_zero]; rfl) (by kernel_rfl) (by kernel_rfl) (by kernel_rfl) (fun _ _ _ h => h) (Or.inl ⟨by rfl, ?_⟩) (by assumption) ?_
    rotate_left
    · intro W hSW
      go_simp
      try with_reducible rfl
    try simp only [Act.put, List.setIfInBounds_toArray, List.set_cons_zero, List.set_cons_succ]
    refine wpAnyH_take (i := 4) (by simp only [List.getElem?_toArray, List.getElem?_cons_succ, List.getElem?_cons_zero]; rfl) (by kernel_rfl) (by kernel_rfl) (by kernel_rfl) (fun _ _ _ h => h) (yieldsIf_conv (by rfl) 39 9 _ rfl (.slice pa pl pc) rfl (.string B) (fun W hSW => HTX.out W (HW3.out.trans (hSW.mono HW3.out.size)))) (by assumption) ?_
    try simp only [Act.put, List.setIfInBounds_toArray, List.set_cons_zero, List.set_cons_succ]
    refine wpAnyH_take (i := 5) (v := ?_) (by simp only [List.getElem?_toArray, List.getElem?_cons_succ, List.getElem?_cons_zero]; rfl) (by kernel_rfl) (by kernel_rfl) (by kernel_rfl) (fun _ _ _ h => h) (Or.inl ⟨by rfl, ?_⟩) (by assumption) ?_
    rotate_left
    · intro W hSW
      go_simp
      try with_reducible rfl
    try simp only [Act.put, List.setIfInBounds_toArray, List.set_cons_zero, List.set_cons_succ]
    refine wpAnyH_ready (rs := [6]) (by kernel_rfl) (by simp) ?_
    refine AllReadyH.cons (by simp only [List.getElem?_toArray, List.getElem?_cons_succ, List.getElem?_cons_zero]; rfl) (fun K hK => ?_) AllReadyH.nil
    go_simp
    refine (refbody_n n ys HN.out (by have := HNB.out; omega) ra rc _ (HRAT.out _ HW3.out.drew) HYG.out HYS.out).mono ?_
    rintro e w4 ⟨⟨xa, xc, rfl, hrow⟩, hb⟩
    have hb4 : Below w3.heap.size w3 w4 := (Below.refl _ _).drew.trans hb
    have HB4 := Lib.hid hb4
    have htx := text_run w4 xa _ xc _ hrow.bytes
    rw [HTE.out, HTN.out] at htx
    rw [HTN.out]
    have HTX4 := Lib.hid htx
    clear hb hrow htx
    go_wp2_with fail
    refine hK.out _ _ (hb4) (fun hHeld2 => ?_)
    clear hK K hHeld
    have hHeld := hHeld2
    clear hHeld2
    try simp only [Act.put, List.setIfInBounds_toArray, List.set_cons_zero, List.set_cons_succ]
    clear hb4
    refine wpAnyH_ready (rs := [7]) (by kernel_rfl) (by simp) ?_
    refine AllReadyH.cons (by simp only [List.getElem?_toArray, List.getElem?_cons_succ, List.getElem?_cons_zero]; rfl) (fun K hK => ?_) AllReadyH.nil
    have htx4 := HTX4.out
    go_wp2_with fail
    refine hK.out _ _ (HB4.out) (fun hHeld2 => ?_)
    clear hK K hHeld
    have hHeld := hHeld2
    clear hHeld2
    try simp only [Act.put, List.setIfInBounds_toArray, List.set_cons_zero, List.set_cons_succ]
    clear htx4
    refine wpAnyH_take (i := 8) (v := ?_) (by simp only [List.getElem?_toArray, List.getElem?_cons_succ, List.getElem?_cons_zero]; rfl) (by kernel_rfl) (by kernel_rfl) (by kernel_rfl) (fun _ _ _ h => h) (Or.inl ⟨by rfl, ?_⟩) (by assumption) ?_
    rotate_left
    · intro W hSW
      go_simp
      try with_reducible rfl
    try simp only [Act.put, List.setIfInBounds_toArray, List.set_cons_zero, List.set_cons_succ]
    refine wpAnyH_take (i := 9) (v := ?_) (by simp only [List.getElem?_toArray, List.getElem?_cons_succ, List.getElem?_cons_zero]; rfl) (by kernel_rfl) (by kernel_rfl) (by kernel_rfl) (fun _ _ _ h => h) (Or.inl ⟨by rfl, ?_⟩) (by assumption) ?_
    rotate_left
    · intro W hSW
      go_simp
      try with_reducible rfl
    try simp only [Act.put, List.setIfInBounds_toArray, List.set_cons_zero, List.set_cons_succ]
    refine wpAnyH_take (i := 10) (v := ?_) (by simp only [List.getElem?_toArray, List.getElem?_cons_succ, List.getElem?_cons_zero]; rfl) (by kernel_rfl) (by kernel_rfl) (by kernel_rfl) (fun _ _ _ h => h) (Or.inl ⟨by rfl, ?_⟩) (by assumption) ?_
    rotate_left
    · intro W hSW
      go_simp
      try with_reducible rfl
    try simp only [Act.put, List.setIfInBounds_toArray, List.set_cons_zero, List.set_cons_succ]
    refine wpAnyH_done (by kernel_rfl) ?_ _
    refine NoPanic.normal ?_
    clear hHeld
    go_wp2_with fail
    (try simp only [Exit.inBlock, Exit.then])
    go_ret
    exact ⟨rfl, HV3.out.trans ((HW3.out.trans (HB4.out.mono HW3.out.size)).mono HV3.out.size)⟩
end Go.Proofs.YthemolkmciofaaaDoor
