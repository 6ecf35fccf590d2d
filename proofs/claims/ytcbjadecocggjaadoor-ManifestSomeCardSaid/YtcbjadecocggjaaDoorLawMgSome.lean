/- ManifestSome: the walk. -/
import Derived.Test.YtcbjadecocggjaaDoorMgSome
namespace Go.Proofs.YtcbjadecocggjaaDoor
open Go.Sort Go.RowKit Go.WideMaps Go.Maps Plain Go.ChangeShapes Go.WideShapes Go.ChangeAt Go.Great
set_option linter.unusedVariables false
set_option linter.unusedSimpArgs false
theorem print_nM (n : Nat) (ys : List MF) (hn : ys.length = n) (hb : n ≤ 100000) (a : Option Addr) (c : Nat) (w : World) (h : FsAt w a ys) (hgf : ∀ x ∈ ys, GoodF x) (hE : Env w) :
    Calls Tryd.prog 11 #[.slice a n c] w fun e w' => MfPrint e w' ys ∧ Below w.heap.size w w' := by
  subst hn; exact mfprint_any a c ys w h hb hgf hE
theorem add_strM (a b : ByteArray) (h : a.size + b.size ≤ 1000000000) (W : World) : (Op.stringOp .add a b).run Tryd.prog W = .ok (.string (a ++ b)) W := run_string_add_sum W a b (by omega)
theorem guard_addM (x y : Operand) (s t : ByteArray) (W : World) : (eqGuard .add 9 x y (.string s) (.string t)).run Tryd.prog W = .ok () W := by simp [eqGuard]
theorem add_txtM (a b : ByteArray) (l : List UInt8) (h : a.data.toList ++ b.data.toList = l) (hs : a.size + b.size ≤ 1000000000) (W : World) : (binOp .add 9 (.string a) (.string b)).run Tryd.prog W = .ok (.string (txt l)) W := by
  have h1 := add_strM a b hs W
  have h2 : (binOp .add 9 (.string a) (.string b)).run Tryd.prog W = .ok (.string (a ++ b)) W := by simpa [binOp, run_underlying Tryd.underlying9] using h1
  have e : a ++ b = txt l := bytes_ext (by rw [txt_list, ← h, ByteArray.data_append, Array.toList_append])
  rw [h2, e]
set_option maxRecDepth 100000 in
set_option maxHeartbeats 32000000 in
theorem lawmgsome_any (a : Option Addr) (c : Nat) (xs : List MF) (b : Option Addr) (cb : Nat) (ys : List MF) (aw : Option Addr) (cw : Nat) (bs : List Bool) (z : Int) (w : World) (hE : Env w) (hg : ∀ x ∈ xs, GoodF x) (hbs : BsAt w aw bs) (hbn : bs.length ≤ 9223372036854775807) (h1 : FsAt w a xs) (hn : xs.length ≤ 9223372036854775807) (h2 : FsAt w b ys) (hm : ys.length ≤ 9223372036854775807) :
    Calls Tryd.prog 4 #[.slice a xs.length c, .slice b ys.length cb, .slice aw bs.length cw, .int .i64 z] w fun e w' => e = .returned (.bool true) ∧ Below w.heap.size w w' := by
  have HE := Lib.hid hE
  obtain ⟨A, hA⟩ : ∃ A, (xs.take 40).map fewF = A := ⟨_, rfl⟩
  obtain ⟨B, hB⟩ : ∃ B, (ys.take 40).map fewF = B := ⟨_, rfl⟩
  obtain ⟨n, hn1⟩ : ∃ n, A.length = n := ⟨_, rfl⟩
  obtain ⟨m, hm1⟩ : ∃ m, B.length = m := ⟨_, rfl⟩
  have HN := Lib.hid hn1
  have HM := Lib.hid hm1
  have HNB : Hid (n ≤ 40 ∧ m ≤ 40) := by
    refine ⟨?_, ?_⟩
    · rw [← hn1, ← hA, List.length_map, List.length_take]; omega
    · rw [← hm1, ← hB, List.length_map, List.length_take]; omega
  have HAP : Hid (∀ x ∈ A, x.p.size ≤ 100000) := fun x hx => by
    rw [← hA] at hx
    obtain ⟨y, -, rfl⟩ := List.mem_map.1 hx
    exact fewF_size y
  have HBP : Hid (∀ x ∈ B, x.p.size ≤ 100000) := fun x hx => by
    rw [← hB] at hx
    obtain ⟨y, -, rfl⟩ := List.mem_map.1 hx
    exact fewF_size y
  have HF1 := few_any a c xs w h1 hn
  rw [hA] at HF1
  have HF1 := Lib.hid HF1
  have HF2 : Hid (∀ W, Below w.heap.size w W → Calls Tryd.prog 5 #[.slice b ys.length cb] W fun e w' => (∃ v, e = .returned v ∧ OwnF 32 w' W.heap.size v B) ∧ Below W.heap.size W w') := fun W hW => by
    have h := few_any b cb ys W (h2.below hW) hm
    rwa [hB] at h
  have HAG : Hid (∀ y ∈ A, GoodF y) := fun y hy => by
    rw [← hA] at hy
    obtain ⟨x, hx, rfl⟩ := List.mem_map.1 hy
    exact hg x (List.mem_of_mem_take hx)
  have HBS := Lib.hid hbs
  obtain ⟨bn, hbl⟩ : ∃ n, bs.length = n := ⟨_, rfl⟩
  have HBN := Lib.hid hbl
  have HBM : Hid (bn ≤ 9223372036854775807) := by rw [← hbl]; exact hbn
  rw [hbl]
  clear hA hB hn1 hm1 h1 h2 hn hm hE hg hbs hbn hbl
  generalize xs.length = xn at *
  generalize ys.length = yn at *
  go_enter Tryd.func4, Tryd.ntmps4
  go_wp2_with fail
  refine HF1.out.mono ?_
  rintro e w1 ⟨⟨v1, rfl, ho⟩, hb⟩
  have HB1 := Lib.hid hb
  obtain ⟨la, lc, rfl, hat, hlc2, -⟩ := ho.at
  rw [HN.out] at hlc2
  have HLC := Lib.hid hlc2
  clear hlc2
  have HA1 := Lib.hid hat
  rw [HN.out]
  clear hat ho hb HF1
  go_wp2_with fail
  refine (HF2.out w1 HB1.out).mono ?_
  rintro e w2 ⟨⟨v2, rfl, ho⟩, hb⟩
  have HB2 := Lib.hid (HB1.out.trans (hb.mono HB1.out.size))
  have HA2 := Lib.hid (HA1.out.below hb)
  obtain ⟨ma, mc, rfl, hat, -, -⟩ := ho.at
  have HM2 := Lib.hid hat
  rw [HM.out]
  have HD := diff_any la lc A ma mc B w2 HA2.out HM2.out (by rw [HN.out]; have := HNB.out; omega) (by rw [HM.out]; have := HNB.out; omega) HAP.out HBP.out
  rw [HN.out, HM.out] at HD
  have HD := Lib.hid HD
  clear hat ho hb HF2 HA1 HB1
  go_wp2_with fail
  refine HD.out.mono ?_
  rintro e w3 ⟨⟨dv, ss, rfl, hro, hnd, -, hmem⟩, hb⟩
  clear HD
  have HB3 := Lib.hid (HB2.out.trans (hb.mono HB2.out.size))
  have HA3 := Lib.hid (HA2.out.below hb)
  have HM3 := Lib.hid (HM2.out.below hb)
  have HRO : Hid (OwnS w3 w2.heap.size dv (ss.mergeSort fun x y => decide (x ≤ y))) := hro
  have HND := Lib.hid hnd
  have HMEM := Lib.hid hmem
  have HD2 := diff_any ma mc B la lc A w3 HM3.out HA3.out (by rw [HM.out]; have := HNB.out; omega) (by rw [HN.out]; have := HNB.out; omega) HBP.out HAP.out
  rw [HN.out, HM.out] at HD2
  have HD2 := Lib.hid HD2
  clear hro hnd hmem hb HA2 HM2
  go_wp2_with fail
  refine HD2.out.mono ?_
  rintro e w6 ⟨⟨ev, s2, rfl, hro2, hnd2, HSL2, hmem2⟩, hb⟩
  have HB6 := Lib.hid (HB3.out.trans (hb.mono HB3.out.size))
  have hone : (ss.mergeSort fun x y => decide (x ≤ y)) = (s2.mergeSort fun x y => decide (x ≤ y)) := sorted_one HND.out hnd2 fun a => (HMEM.out a).trans ((ind_comm A B a).trans (hmem2 a).symm)
  have hro := HRO.out
  rw [hone] at hro
  obtain ⟨os, hos⟩ : ∃ os, (s2.mergeSort fun x y => decide (x ≤ y)) = os := ⟨_, rfl⟩
  rw [hos] at hro hro2
  obtain ⟨da, dc, rfl, hda, -, -⟩ := OwnS.at hro
  obtain ⟨ea, ec, rfl, hea, -, -⟩ := OwnS.at (show OwnS w6 w3.heap.size ev os from hro2)
  have HDA := Lib.hid (hda.below hb)
  have HEA := Lib.hid hea
  have HA6 := Lib.hid (HA3.out.below hb)
  obtain ⟨q, hq⟩ : ∃ q, os.length = q := ⟨_, rfl⟩
  have HQ := Lib.hid hq
  have HQB : Hid (q ≤ 2000) := by
    have h1 : s2.length ≤ 2000 := HSL2
    rw [← hq, ← hos, List.length_mergeSort]; exact h1
  rw [hq]
  have hqq : ((q : Int) != (q : Int)) = false := by simp
  clear hone hro hro2 hda hea hnd2 hmem2 hos hq hb HSL2 HRO HND HMEM HB2 HB3 HA3 HM3 HD2
  go_wp2_with fail
  go_loopw [13] (fun iv wr => ∃ k : Nat, k ≤ q ∧ iv = .int .i64 (k : Int) ∧ Below w6.heap.size w6 wr) (fun iv _ => q - (intOf iv).toNat)
  case atStart => exact ⟨0, Nat.zero_le _, rfl, Below.refl _ _⟩
  case round =>
    obtain ⟨k, hk, rfl, hbl⟩ := hrel
    have HBL := Lib.hid hbl
    clear hbl
    by_cases hkq : k < q
    · have hki : (k : Int) < (q : Int) := by omega
      have hk0 : (0 : Int) ≤ (k : Int) := Int.natCast_nonneg k
      have WK := Lib.hid (next_int k (by have := HQB.out; omega))
      obtain ⟨b1, o1, y, rfl, hy, -, hc1⟩ := strsAt_get (HDA.out.below HBL.out) (show k < os.length by rw [HQ.out]; exact hkq)
      obtain ⟨b2, o2, y', rfl, hy', -, hc2⟩ := strsAt_get (HEA.out.below HBL.out) (show k < os.length by rw [HQ.out]; exact hkq)
      obtain rfl : y = y' := by rw [hy] at hy'; injection hy'
      have HCC : Hid (wr.drew.cell? ⟨b1, o1 + k, none⟩ = some (.string ⟨y.toArray⟩) ∧ wr.drew.cell? ⟨b2, o2 + k, none⟩ = some (.string ⟨y.toArray⟩)) := ⟨hc1, hc2⟩
      have HKQ : Hid (k < q) := hkq
      clear hy hy' hc1 hc2 hkq hk
      go_wp2_with fail
      refine wp_region_noPanic ?_
      refine wp_region_held_drew (S := fun W => W.cell? ⟨b1, o1 + k, none⟩ = some (.string ⟨y.toArray⟩) ∧ W.cell? ⟨b2, o2 + k, none⟩ = some (.string ⟨y.toArray⟩)) (by kernel_rfl) ?_ (fun hHeld => ?_)
      · exact HCC.out
      refine wpAnyH_take (i := 0) (v := ?_) (by simp only [List.getElem?_toArray, List.getElem?_cons_zero]; rfl) (by kernel_rfl) (by kernel_rfl) (by kernel_rfl) (fun _ _ _ h => h) (Or.inl ⟨by rfl, ?_⟩) (by assumption) ?_
      rotate_left
      · intro W hSW
        go_simp
        try with_reducible rfl
      try simp only [Act.put, List.setIfInBounds_toArray, List.set_cons_zero, List.set_cons_succ]
      refine wpAnyH_take (i := 1) (v := ?_) (by simp only [List.getElem?_toArray, List.getElem?_cons_succ, List.getElem?_cons_zero]; rfl) (by kernel_rfl) (by kernel_rfl) (by kernel_rfl) (fun _ _ _ h => h) (Or.inl ⟨by rfl, ?_⟩) (by assumption) ?_
      rotate_left
      · intro W hSW
        go_simp
        try with_reducible rfl
      try simp only [Act.put, List.setIfInBounds_toArray, List.set_cons_zero, List.set_cons_succ]
      refine wpAnyH_take (i := 2) (v := ?_) (by simp only [List.getElem?_toArray, List.getElem?_cons_succ, List.getElem?_cons_zero]; rfl) (by kernel_rfl) (by kernel_rfl) (by kernel_rfl) (fun _ _ _ h => h) (Or.inl ⟨by rfl, ?_⟩) (by assumption) ?_
      rotate_left
      · intro W hSW
        go_simp
        try with_reducible rfl
      try simp only [Act.put, List.setIfInBounds_toArray, List.set_cons_zero, List.set_cons_succ]
      refine wpAnyH_take (i := 3) (by simp only [List.getElem?_toArray, List.getElem?_cons_succ, List.getElem?_cons_zero]; rfl) (by kernel_rfl) (by kernel_rfl) (by kernel_rfl) (fun _ _ _ h => h) (yieldsIf_load_str (by rfl) 9 _ rfl b1 (o1 + k) rfl ⟨y.toArray⟩ (fun W h => h.1) Tryd.underlying9) (by assumption) ?_
      try simp only [Act.put, List.setIfInBounds_toArray, List.set_cons_zero, List.set_cons_succ]
      refine wpAnyH_take (i := 4) (v := ?_) (by simp only [List.getElem?_toArray, List.getElem?_cons_succ, List.getElem?_cons_zero]; rfl) (by kernel_rfl) (by kernel_rfl) (by kernel_rfl) (fun _ _ _ h => h) (Or.inl ⟨by rfl, ?_⟩) (by assumption) ?_
      rotate_left
      · intro W hSW
        go_simp
        try with_reducible rfl
      try simp only [Act.put, List.setIfInBounds_toArray, List.set_cons_zero, List.set_cons_succ]
      refine wpAnyH_take (i := 5) (v := ?_) (by simp only [List.getElem?_toArray, List.getElem?_cons_succ, List.getElem?_cons_zero]; rfl) (by kernel_rfl) (by kernel_rfl) (by kernel_rfl) (fun _ _ _ h => h) (Or.inl ⟨by rfl, ?_⟩) (by assumption) ?_
      rotate_left
      · intro W hSW
        go_simp
        try with_reducible rfl
      try simp only [Act.put, List.setIfInBounds_toArray, List.set_cons_zero, List.set_cons_succ]
      refine wpAnyH_take (i := 6) (v := ?_) (by simp only [List.getElem?_toArray, List.getElem?_cons_succ, List.getElem?_cons_zero]; rfl) (by kernel_rfl) (by kernel_rfl) (by kernel_rfl) (fun _ _ _ h => h) (Or.inl ⟨by rfl, ?_⟩) (by assumption) ?_
      rotate_left
      · intro W hSW
        go_simp
        try with_reducible rfl
      try simp only [Act.put, List.setIfInBounds_toArray, List.set_cons_zero, List.set_cons_succ]
      refine wpAnyH_take (i := 7) (by simp only [List.getElem?_toArray, List.getElem?_cons_succ, List.getElem?_cons_zero]; rfl) (by kernel_rfl) (by kernel_rfl) (by kernel_rfl) (fun _ _ _ h => h) (yieldsIf_load_str (by rfl) 9 _ rfl b2 (o2 + k) rfl ⟨y.toArray⟩ (fun W h => h.2) Tryd.underlying9) (by assumption) ?_
      try simp only [Act.put, List.setIfInBounds_toArray, List.set_cons_zero, List.set_cons_succ]
      refine wpAnyH_take (i := 8) (by simp only [List.getElem?_toArray, List.getElem?_cons_succ, List.getElem?_cons_zero]; rfl) (by kernel_rfl) (by kernel_rfl) (by kernel_rfl) (fun _ _ _ h => h) (yieldsIf_eql (by rfl) .neq 9 _ _ _ rfl (.string ⟨y.toArray⟩) (.string ⟨y.toArray⟩) rfl rfl (.bool false) (fun W => guard_ne _ _ _ _ W) (fun W => neq_sameM _ W)) (by assumption) ?_
      try simp only [Act.put, List.setIfInBounds_toArray, List.set_cons_zero, List.set_cons_succ]
      refine wpAnyH_done (by kernel_rfl) ?_ _
      refine NoPanic.normal ?_
      clear hHeld
      go_wp2_with fail
      exact ⟨⟨k + 1, HKQ.out, by first | rw [WK.out _ rfl] | rfl, HBL.out.drew⟩, by have := HKQ.out; (first | rw [WK.out _ rfl] | skip); simp [intOf]; omega⟩
    · have hki : ¬ (k : Int) < (q : Int) := by omega
      have HB7 := Lib.hid (HB6.out.trans (HBL.out.mono HB6.out.size))
      have HA7 := Lib.hid (HA6.out.below HBL.out)
      have HBS7 := Lib.hid (HBS.out.below HB7.out)
      clear hkq hk
      go_wp2_with fail
      refine (print_nM n A HN.out (by have := HNB.out; omega) la lc wr HA7.out HAG.out (HE.out.below HB7.out)).mono ?_
      rintro e v2 ⟨hpo, hb⟩
      have HV2 := Lib.hid (HB7.out.trans (hb.mono HB7.out.size))
      have HA8 := Lib.hid (HA7.out.below hb)
      have HBS8 := Lib.hid (HBS7.out.below hb)
      clear hb
      cases hr : rightM A
      · obtain rfl := hpo.no hr
        clear hr hpo
        go_wp2_with fail
        refine (known_any v2 (HE.out.below HV2.out)).mono ?_
        rintro e z1 ⟨rfl, hb⟩
        have HZ1 := Lib.hid (HV2.out.trans (hb.mono HV2.out.size))
        clear hb
        go_wp2_with fail
        refine (known_any z1 (HE.out.below HZ1.out)).mono ?_
        rintro e z2 ⟨rfl, hb⟩
        have HZ2 := Lib.hid (HZ1.out.trans (hb.mono HZ1.out.size))
        clear hb
        go_wp2_with fail
        (try simp only [Exit.inBlock, Exit.then])
        go_ret
        exact ⟨rfl, HZ2.out⟩
      · obtain ⟨ba, bc, rfl, hbt⟩ := hpo.yes hr
        have HR := Lib.hid hr
        obtain ⟨tl, htl⟩ : ∃ t, (textF A).length = t := ⟨_, rfl⟩
        rw [htl] at hbt ⊢
        have HBT := Lib.hid hbt
        clear hr hpo hbt htl
        go_wp2_with fail
        refine (known_any v2 (HE.out.below HV2.out)).mono ?_
        rintro e v3 ⟨rfl, hb⟩
        have HV3 := Lib.hid (HV2.out.trans (hb.mono HV2.out.size))
        have HA9 := Lib.hid (HA8.out.below hb)
        have HBS9 := Lib.hid (HBS8.out.below hb)
        have HBT9 := Lib.hid (HBT.out.below hb)
        clear hb HA8 HBS8 HBT HV2 HA7 HBS7 HB7
        go_wp2_with fail
        go_loopw [16, 17] (fun ov iv wx => ∃ (k : Nat) (zs : List MF), iv = .int .i64 (k : Int) ∧ k ≤ n ∧ OwnF 32 wx v3.heap.size ov zs ∧ zs.Sublist (A.take k) ∧ zs.length ≤ k ∧ Below v3.heap.size v3 wx) (fun _ iv _ => n - (intOf iv).toNat)
        case atStart => exact ⟨0, [], rfl, Nat.zero_le _, OwnF.nil _ _ _, List.nil_sublist _, Nat.le_refl _, Below.refl _ _⟩
        case round =>
          rename World => wx
          obtain ⟨k, zs, rfl, hkn, ho, hsub, hzl, hbx⟩ := hrel
          have HBX := Lib.hid hbx
          have HSUB := Lib.hid hsub
          have HO := Lib.hid ho
          have WK := Lib.hid (next_int k (by have := HNB.out; omega))
          have hk0 : (0 : Int) ≤ (k : Int) := Int.natCast_nonneg k
          by_cases h1 : k < n
          · have hki : (k : Int) < (n : Int) := by omega
            have HKN : Hid (k < n ∧ zs.length ≤ k) := ⟨h1, hzl⟩
            obtain ⟨bx, ox, x, rfl, hx, hx20, hbl, hrx⟩ := (HA9.out.below HBX.out).at (show k < A.length by rw [HN.out]; exact h1)
            have Hx : Hid (x.n.length = 20) := hx20
            have HRX := Lib.hid hrx
            have HTK : Hid (A.take (k + 1) = A.take k ++ [x]) := by show _ = _; rw [List.take_add_one, hx]; rfl
            have HS0 : Hid (zs.Sublist (A.take (k + 1))) := by rw [HTK.out]; exact HSUB.out.trans (List.sublist_append_left _ _)
            have HS1 : Hid ((zs ++ [x]).Sublist (A.take (k + 1))) := by rw [HTK.out]; exact List.Sublist.append HSUB.out (List.Sublist.refl _)
            clear hkn ho hsub hzl hbx h1 hx hx20 hbl hrx
            by_cases h2 : k < bn
            · have hkb : (k : Int) < (bn : Int) := by omega
              obtain ⟨bb, ob, bv, rfl, hbb, hcb⟩ := (HBS9.out.below HBX.out).at (show k < bs.length by rw [HBN.out]; exact h2)
              clear h2
              cases bv
              · go_wp2_with fail
                exact ⟨⟨k + 1, zs, by first | rw [WK.out _ rfl] | rfl, HKN.out.1, HO.out, HS0.out, Nat.le_succ_of_le HKN.out.2, HBX.out⟩, by have := HKN.out; (first | rw [WK.out _ rfl] | skip); simp [intOf]; omega⟩
              · have HWA : Hid (Below wx.heap.size wx (wx.alloc (.cells (fileA x) 32))) := (Below.refl _ _).alloc (Nat.le_refl _) _
                have HOA := Lib.hid (HO.out.below HWA.out)
                have HXA : Hid (FsAt (wx.alloc (.cells (fileA x) 32)) (some ⟨wx.heap.size, 0, none⟩) [x]) := files_of_row Hx.out (heap_alloc_new wx _)
                have HIL := Lib.hid (file_infoL x Hx.out)
                have tok : True := trivial
                go_wp2_with (first
                  | refine wpList_file rfl 32 _ rfl bx (ox + k * 22) rfl x _ HRX.out Tryd.underlying32 rfl HIL.out ?_
                  | refine wpList_sliceM (by rfl) _ _ _ rfl #[(0, .agg (fileA x))] (map_one _ _ _ rfl) _ _ (slice_file x Hx.out _) ?_
                  | (have _t := tok; at_builtin; clear tok; refine Hid.out ?_))
                refine unhidM ?_
                refine wpList_append_filesN (by rfl) _ _ rfl v3.heap.size _ zs zs.length rfl rfl HOA.out _ 1 1 [x] rfl rfl HXA.out (zs.length + 1) (zs ++ [x]) rfl rfl (by have := HKN.out; have := HNB.out; omega) (Nat.le_trans HBX.out.size HWA.out.size) (fun v' w' ho hg => ?_)
                have HO2 := Lib.hid ho
                have HBX2 : Hid (Below v3.heap.size v3 w') := (HBX.out.trans (HWA.out.mono HBX.out.size)).trans (own_off HOA.out (Nat.le_trans HBX.out.size HWA.out.size) hg)
                clear ho hg
                go_wp2_with fail
                exact ⟨⟨k + 1, zs ++ [x], by first | rw [WK.out _ rfl] | rfl, HKN.out.1, HO2.out, HS1.out, by rw [List.length_append]; exact Nat.succ_le_succ HKN.out.2, HBX2.out⟩, by have := HKN.out; (first | rw [WK.out _ rfl] | skip); simp [intOf]; omega⟩
            · have hkb : ¬ (k : Int) < (bn : Int) := by omega
              clear h2
              go_wp2_with fail
              exact ⟨⟨k + 1, zs, by first | rw [WK.out _ rfl] | rfl, HKN.out.1, HO.out, HS0.out, Nat.le_succ_of_le HKN.out.2, HBX.out⟩, by have := HKN.out; (first | rw [WK.out _ rfl] | skip); simp [intOf]; omega⟩
          · have hki : ¬ (k : Int) < (n : Int) := by omega
            obtain ⟨m0, hm0⟩ : ∃ m0, zs.length = m0 := ⟨_, rfl⟩
            have HM0 := Lib.hid hm0
            have HMB : Hid (m0 ≤ 40) := by show _ ≤ _; have := HNB.out; omega
            obtain ⟨oa, oc, rfl, hoa, -, -⟩ := ho.at
            rw [hm0]
            have HOR := Lib.hid hoa
            have HSB : Hid (rightM zs = true) := rightM_sub (HSUB.out.trans (List.take_sublist _ _)) HR.out
            have HZG : Hid (∀ y ∈ zs, GoodF y) := fun y hy => HAG.out y (List.mem_of_mem_take (HSUB.out.subset hy))
            have HVR := Lib.hid (HV3.out.trans (HBX.out.mono HV3.out.size))
            have HAR := Lib.hid (HA9.out.below HBX.out)
            have HBR := Lib.hid (HBT9.out.below HBX.out)
            obtain ⟨r, hq, hqn⟩ := mod_is n z (by have := HNB.out; omega)
            have hu1 := u64_succ n (by have := HNB.out; omega)
            have hu2 := u64_succ2 n (by have := HNB.out; omega)
            have hk1 := hq.1
            have hk2 := hq.2
            have HQN := Lib.hid hqn
            have HTQ : Hid ((A.take r).length = r) := by show _ = _; rw [List.length_take, HN.out]; omega
            have HDQ : Hid ((A.drop r).length = n - r) := by show _ = _; rw [List.length_drop, HN.out]
            have hsl := fun W => slice_toN la n lc r (by have := HLC.out; omega) W
            have HSF := Lib.hid (fun W => slice_fromN la n lc r hqn HLC.out W)
            obtain ⟨nq, hnq⟩ : ∃ t, n - r = t := ⟨_, rfl⟩
            obtain ⟨lq, hlq⟩ : ∃ t, lc - r = t := ⟨_, rfl⟩
            rw [hnq, hlq] at HSF
            rw [hnq] at HDQ
            have HNQ : Hid (nq ≤ 40) := by show _ ≤ _; have := HNB.out; omega
            have HRB : Hid (r ≤ 40) := by show _ ≤ _; have := HNB.out; omega
            clear hkn ho hsub hzl hbx h1 hm0 hoa hq hqn hnq hlq HO HSUB HV3 HA9 HBT9 HBS9 WK HBX
            have wk := next_int n (by have := HNB.out; omega)
            have hz1 : ¬ ((n : Int) + 1 = 0) := by omega
            have hz2 : (((n : Int) + 1) == 0) = false := beq_eq_false_iff_ne.2 hz1
            have hz3 : ¬ (((n + 1 : Nat) : Int) = 0) := by omega
            have hz4 : (((n + 1 : Nat) : Int) == 0) = false := beq_eq_false_iff_ne.2 hz3
            go_wp2_with fail
            try rw [hk1]
            clear hz1 hz2 hz3 hz4 wk
            clear hsl hu1 hu2 hk1 hk2
            refine (print_nM r (A.take r) HTQ.out (by have := HRB.out; omega) la lc wx (HAR.out.take r) (fun y hy => HAG.out y (List.mem_of_mem_take hy)) (HE.out.below HVR.out)).mono ?_
            rintro e p1 ⟨hpo, hb⟩
            obtain ⟨ta, tc, rfl, hbt⟩ := hpo.yes (rightM_sub (List.take_sublist r A) HR.out)
            obtain ⟨t1, ht1⟩ : ∃ t, (textF (A.take r)).length = t := ⟨_, rfl⟩
            rw [ht1] at hbt ⊢
            have HB1 := Lib.hid hbt
            have HP1 := Lib.hid (HVR.out.trans (hb.mono HVR.out.size))
            have HAP1 := Lib.hid (HAR.out.below hb)
            have HOP1 := Lib.hid (HOR.out.below hb)
            have HBP1 := Lib.hid (HBR.out.below hb)
            clear hpo hbt ht1 hb HVR HAR HOR HBR
            have hsf := HSF.out
            go_wp2_with fail
            clear hsf HSF
            refine (print_nM nq (A.drop r) HDQ.out (by have := HNQ.out; omega) (subN la lc r) lq p1 (HAP1.out.drop lc r (by rw [HN.out]; exact HLC.out) (by rw [HN.out]; exact HQN.out)) (fun y hy => HAG.out y (List.mem_of_mem_drop hy)) (HE.out.below HP1.out)).mono ?_
            rintro e p2 ⟨hpo, hb⟩
            obtain ⟨da2, dc2, rfl, hbt⟩ := hpo.yes (rightM_sub (List.drop_sublist r A) HR.out)
            obtain ⟨t2, ht2⟩ : ∃ t, (textF (A.drop r)).length = t := ⟨_, rfl⟩
            rw [ht2] at hbt ⊢
            have HB2 := Lib.hid hbt
            have HP2 := Lib.hid (HP1.out.trans (hb.mono HP1.out.size))
            have HOP2 := Lib.hid (HOP1.out.below hb)
            have HBP2 := Lib.hid (HBP1.out.below hb)
            have HB12 := Lib.hid (HB1.out.below hb)
            clear hpo hbt ht2 hb HP1 HOP1 HBP1 HB1 HAP1
            go_wp2_with fail
            refine (print_nM m0 zs HM0.out (by have := HMB.out; omega) oa oc p2 HOP2.out HZG.out (HE.out.below HP2.out)).mono ?_
            rintro e p3 ⟨hpo, hb⟩
            obtain ⟨za, zc, rfl, hbt⟩ := hpo.yes HSB.out
            have HP3 := Lib.hid (HP2.out.trans (hb.mono HP2.out.size))
            have hc1 := text_run p3 ta _ tc _ (HB12.out.below hb)
            have hc2 := text_run p3 da2 _ dc2 _ (HB2.out.below hb)
            have hc3 := text_run p3 ba _ bc _ (HBP2.out.below hb)
            rw [str_nums] at hc1 hc2 hc3
            have HEQ : Hid (∀ W, (binOp .eql 9 (.string (txt (textF (A.take r)) ++ txt (textF (A.drop r)))) (.string (txt (textF A)))).run Tryd.prog W = .ok (.bool true) W) := fun W => by
              have e : (txt (textF (A.take r)) ++ txt (textF (A.drop r))) = txt (textF A) := by
                refine bytes_ext ?_
                rw [ByteArray.data_append, Array.toList_append, txt_list, txt_list, txt_list, ← textF_app, List.take_append_drop]
              rw [e, eq_strM, beq_self_eq_true]
            generalize (textF zs).length = t3 at *
            clear hpo hbt hb HP2 HOP2 HBP2 HB12 HB2
            have HL12 : Hid ((textF (A.take r)).length + (textF (A.drop r)).length ≤ 12000) := by
              have e1 : textF (A.take r) ++ textF (A.drop r) = textF A := by rw [← textF_app, List.take_append_drop]
              have e2 := congrArg List.length e1
              rw [List.length_append] at e2
              have e3 := textF_len A (small_of HR.out) (fun x hx => (HAG.out x hx).1)
              have := HN.out; have := HNB.out
              show _ ≤ _
              omega
            have HAD : Hid (∀ W, (binOp .add 9 (.string (txt (textF (A.take r)))) (.string (txt (textF (A.drop r))))).run Tryd.prog W = .ok (.string (txt (textF A))) W) := fun W => add_txtM _ _ _ (by rw [txt_list, txt_list, ← textF_app, List.take_append_drop]) (by rw [txt_size, txt_size]; have := HL12.out; omega) W
            have HEQ2 : Hid (∀ W, (binOp .eql 9 (.string (txt (textF A))) (.string (txt (textF A)))).run Tryd.prog W = .ok (.bool true) W) := fun W => by rw [eq_strM, beq_self_eq_true]
            clear HEQ
            go_wp2_with (first
              | refine wpList_eql (by rfl) .add 9 _ _ _ rfl (.string (txt (textF (A.take r)))) (.string (txt (textF (A.drop r)))) rfl rfl (.string (txt (textF A))) (guard_addM _ _ _ _) (fun W => HAD.out W) ?_
              | refine wpList_eql (by rfl) .eql 9 _ _ _ rfl (.string (txt (textF A))) (.string (txt (textF A))) rfl rfl (.bool true) (guard_eq _ _ _ _) (fun W => HEQ2.out W) ?_)
            (try simp only [Exit.inBlock, Exit.then])
            go_ret
            exact ⟨rfl, HP3.out⟩
end Go.Proofs.YtcbjadecocggjaaDoor
