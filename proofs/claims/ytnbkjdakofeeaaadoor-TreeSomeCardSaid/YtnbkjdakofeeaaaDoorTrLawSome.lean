/- TreeSome: the walk. -/
import Derived.Test.YtnbkjdakofeeaaaDoorTrSome
namespace Go.Proofs.YtnbkjdakofeeaaaDoor
open Go.RowKit Plain
set_option linter.unusedVariables false
set_option linter.unusedSimpArgs false
theorem range_far {w w' : World} {g : Nat} {x : TE} {row : Option Nat} (h : w.rangeAt g 0 (entL x)) (hg : w.grownBy w' row) (hl : g < w.heap.size) (hne : some g ≠ row) : w'.rangeAt g 0 (entL x) := rangeAt_block h (hg.block g hl hne)
theorem meas (n k : Nat) (x : Int) (hx : x = ((k + 1 : Nat) : Int)) (hk : k < n) : n - (intOf (.int .i64 x)).toNat < n - (intOf (.int .i64 (k : Int))).toNat := by
  subst hx
  show n - ((k + 1 : Nat) : Int).toNat < n - (k : Int).toNat
  rw [Int.toNat_natCast, Int.toNat_natCast]
  omega
set_option maxRecDepth 100000 in
set_option maxHeartbeats 64000000 in
theorem lawtsome_any (a : Option Addr) (c : Nat) (xs : List TE) (aw : Option Addr) (cw : Nat) (bs : List Bool) (z : Int) (w : World) (hE : Env w)
    (h : EsAt w a xs) (hn : xs.length ≤ 9223372036854775807) (hg : ∀ x ∈ xs, GoodE x) (hbs : BsAt w aw bs) (hbn : bs.length ≤ 9223372036854775807) :
    Calls Tryd.prog 5 #[.slice a xs.length c, .slice aw bs.length cw, .int .i64 z] w fun e w' => e = .returned (.bool true) ∧ Below w.heap.size w w' := by
  have HE := Lib.hid hE
  obtain ⟨ys, hys⟩ : ∃ ys, (xs.take 60).map fewE = ys := ⟨_, rfl⟩
  have HYG : Hid (∀ y ∈ ys, GoodE y) := fun y hy => by
    rw [← hys] at hy
    obtain ⟨x, hx, rfl⟩ := List.mem_map.1 hy
    exact hg x (List.mem_of_mem_take hx)
  have HYP : Hid (∀ y ∈ ys, y.p.size ≤ 100000) := fun y hy => by
    rw [← hys] at hy
    obtain ⟨x, hx, rfl⟩ := List.mem_map.1 hy
    exact few_small x
  have HFEW0 := fun W (hW : Below w.heap.size w W) => few_any a c xs W (h.below hW) hn
  simp only [hys] at HFEW0
  obtain ⟨n, hyn⟩ : ∃ n, ys.length = n := ⟨_, rfl⟩
  have HN := Lib.hid hyn
  have HNB : Hid (n ≤ 60) := by
    show _ ≤ _
    rw [← hyn, ← hys, List.length_map, List.length_take]; omega
  obtain ⟨xn, hxn⟩ : ∃ n, xs.length = n := ⟨_, rfl⟩
  simp only [hxn] at HFEW0
  rw [hxn]
  have HFEW := Lib.hid HFEW0
  clear hys hyn hxn h hg hn hE HFEW0
  have HBS := Lib.hid hbs
  obtain ⟨bn, hbl⟩ : ∃ n, bs.length = n := ⟨_, rfl⟩
  have HBN := Lib.hid hbl
  have HBM : Hid (bn ≤ 9223372036854775807) := by rw [← hbl]; exact hbn
  rw [hbl]
  clear hbs hbn hbl
  go_enter Tryd.func5, Tryd.ntmps5
  go_wp2_with fail
  refine (HFEW.out w (Below.refl _ _)).mono ?_
  rintro e v1 ⟨⟨v, rfl, ho⟩, hb⟩
  have HV1 := Lib.hid hb
  obtain ⟨la, lc, rfl, hat, hlc2, -⟩ := ho.at
  have HA1 := Lib.hid hat
  rw [HN.out] at hlc2
  have HLC := Lib.hid hlc2
  clear hat ho hb hlc2 HFEW
  rw [HN.out]
  go_wp2_with fail
  refine (known_any v1 (HE.out.below HV1.out)).mono ?_
  rintro e v2 ⟨rfl, hb⟩
  have HV2 := Lib.hid (HV1.out.trans (hb.mono HV1.out.size))
  have HA2 := Lib.hid (HA1.out.below hb)
  clear hb HA1 HV1
  go_wp2_with fail
  refine (tright_n n ys HN.out (by have := HNB.out; omega) la lc v2 HA2.out HYP.out).mono ?_
  rintro e v3 ⟨rfl, hb⟩
  have HV3 := Lib.hid (HV2.out.trans (hb.mono HV2.out.size))
  have HA3 := Lib.hid (HA2.out.below hb)
  clear hb HA2 HV2
  cases hr : rightT ys
  · clear hr
    go_wp2_with fail
    refine (known_any v3 (HE.out.below HV3.out)).mono ?_
    rintro e v4 ⟨rfl, hb⟩
    have HV4 := Lib.hid (HV3.out.trans (hb.mono HV3.out.size))
    clear hb
    go_wp2_with fail
    go_ret
    exact ⟨rfl, HV4.out⟩
  · have HR := Lib.hid hr
    clear hr
    go_wp2_with fail
    go_loopw [8, 9] (fun o i wr => ∃ (k m : Nat) (oa : Option Addr) (oc : Nat) (zs : List TE), k ≤ n ∧ i = .int .i64 (k : Int) ∧ o = .slice oa m oc ∧ zs.length = m ∧ OwnE 44 wr v3.heap.size (.slice oa m oc) zs ∧ zs.Sublist (ys.take k) ∧ Below v3.heap.size v3 wr) (fun o i _ => n - (intOf i).toNat)
    case atStart => exact ⟨0, 0, none, 0, [], by omega, rfl, rfl, rfl, OwnE.nil _ _ _, List.nil_sublist _, Below.refl _ _⟩
    case round =>
      obtain ⟨k, m, oa, oc, zs, hkn, rfl, rfl, hzl, ho, hsub, hb⟩ := hrel
      have HO := Lib.hid ho
      have HB := Lib.hid hb
      have HSUB := Lib.hid hsub
      have HZL := Lib.hid hzl
      have HZN : Hid (m ≤ 60) := by
        have h1 := hsub.length_le
        rw [List.length_take] at h1
        show _ ≤ _
        have := HNB.out
        omega
      have wk := next_int k (by have := HNB.out; omega)
      clear ho hb hsub hzl
      by_cases h1 : n = k
      · subst h1
        have HSB : Hid (rightT zs = true) := rightT_sub (by have := HSUB.out; rwa [List.take_of_length_le (by rw [HN.out]; omega)] at this) HR.out
        have HZP : Hid (∀ x ∈ zs, x.p.size ≤ 100000) := fun x hx => HYP.out x (List.mem_of_mem_take (HSUB.out.subset hx))
        have HVR := Lib.hid (HV3.out.trans (HB.out.mono HV3.out.size))
        have HAR := Lib.hid (HA3.out.below HB.out)
        have HOR := Lib.hid HO.out.fs.1
        clear HB HO HSUB HA3 HV3
        obtain ⟨q, hq, hqn⟩ := mod_is n z (by have := HNB.out; omega)
        have hu1 := u64_succ n (by have := HNB.out; omega)
        have hu2 := u64_succ2 n (by have := HNB.out; omega)
        have hk1 := hq.1
        have hk2 := hq.2
        have HQN := Lib.hid hqn
        have HTQ : Hid ((ys.take q).length = q) := by show _ = _; rw [List.length_take, HN.out]; omega
        have HDQ : Hid ((ys.drop q).length = n - q) := by show _ = _; rw [List.length_drop, HN.out]
        have hsl := fun W => slice_toE la n lc q (by have := HLC.out; omega) W
        have HSF := Lib.hid (fun W => slice_fromE la n lc q hqn HLC.out W)
        obtain ⟨nq, hnq⟩ : ∃ r, n - q = r := ⟨_, rfl⟩
        obtain ⟨lq, hlq⟩ : ∃ r, lc - q = r := ⟨_, rfl⟩
        rw [hnq, hlq] at HSF
        rw [hnq] at HDQ
        have HNQ : Hid (nq ≤ 60) := by show _ ≤ _; have := HNB.out; omega
        have HQB : Hid (q ≤ 60) := by show _ ≤ _; have := HNB.out; omega
        clear hq hqn hnq hlq
        go_wp2_with fail
        rw [hk1]
        clear hsl wk hu1 hu2 hk1 hk2
        refine (tprint_n q (ys.take q) HTQ.out (by have := HQB.out; omega) la lc wr (HAR.out.take q) (fun y hy => HYG.out y (List.mem_of_mem_take hy)) (fun y hy => HYP.out y (List.mem_of_mem_take hy)) (HE.out.below HVR.out)).mono ?_
        rintro e p1 ⟨hpo, hb⟩
        have hr1 := rightT_sub (List.take_sublist q ys) HR.out
        obtain ⟨ba, bc, rfl, hbt⟩ := hpo.yes hr1
        have htl := textT_len (ys.take q) (right_each hr1) (fun x hx => (HYG.out x (List.mem_of_mem_take hx)).1)
        rw [HTQ.out] at htl
        obtain ⟨t1, ht1⟩ : ∃ t, (textT (ys.take q)).length = t := ⟨_, rfl⟩
        rw [ht1] at hbt htl ⊢
        have HT1 := Lib.hid ht1
        have HB1 := Lib.hid hbt
        have HTB1 : Hid (t1 ≤ 17000) := by show _ ≤ _; have := HQB.out; omega
        have HP1 := Lib.hid (HVR.out.trans (hb.mono HVR.out.size))
        have HAP1 := Lib.hid (HAR.out.below hb)
        have HOP1 := Lib.hid (HOR.out.below hb)
        clear hpo hr1 hbt htl ht1 hb HVR HAR HOR
        have hsf := HSF.out
        go_wp2_with fail
        clear hsf HSF
        refine (tprint_n nq (ys.drop q) HDQ.out (by have := HNQ.out; omega) (subE la lc q) lq p1 (HAP1.out.drop lc q (by rw [HN.out]; exact HLC.out) (by rw [HN.out]; exact HQN.out)) (fun y hy => HYG.out y (List.mem_of_mem_drop hy)) (fun y hy => HYP.out y (List.mem_of_mem_drop hy)) (HE.out.below HP1.out)).mono ?_
        rintro e p2 ⟨hpo, hb⟩
        have hr1 := rightT_sub (List.drop_sublist q ys) HR.out
        obtain ⟨da, dc, rfl, hbt⟩ := hpo.yes hr1
        have htl := textT_len (ys.drop q) (right_each hr1) (fun x hx => (HYG.out x (List.mem_of_mem_drop hx)).1)
        rw [HDQ.out] at htl
        obtain ⟨t2, ht2⟩ : ∃ t, (textT (ys.drop q)).length = t := ⟨_, rfl⟩
        rw [ht2] at hbt htl ⊢
        have HT2 := Lib.hid ht2
        have HB2 := Lib.hid hbt
        have HTB2 : Hid (t2 ≤ 17000) := by show _ ≤ _; have := HNQ.out; omega
        have HP2 := Lib.hid (HP1.out.trans (hb.mono HP1.out.size))
        have HAP2 := Lib.hid (HAP1.out.below hb)
        have HOP2 := Lib.hid (HOP1.out.below hb)
        have HB1b := Lib.hid (HB1.out.below hb)
        obtain ⟨t3, ht3⟩ : ∃ t, t1 + t2 = t := ⟨_, rfl⟩
        have HT3 := Lib.hid ht3
        have HTL3 : Hid ((textT ys).length = t3) := by
          show _ = _
          rw [← HT3.out, ← HT1.out, ← HT2.out, ← List.length_append, ← textT_app, List.take_append_drop]
        have HTX := Lib.hid (text_halves ys q)
        have HTB3 : Hid (t3 ≤ 34000) := by show _ ≤ _; have := HTB1.out; have := HTB2.out; omega
        clear hpo hr1 hbt htl ht2 ht3 hb HP1 HAP1 HOP1 HB1
        have HAL : Hid (Below p2.heap.size p2 (p2.alloc (.cells #[] 5))) := (Below.refl _ _).alloc (Nat.le_refl _) _
        have tok : True := trivial
        go_wp2_with (have _t := tok; at_builtin; clear tok; refine Hid.out ?_)
        refine unhid ?_
        refine wpList_append_to rfl _ _ 22 rfl p2.heap.size (.slice (some ⟨p2.heap.size, 0, none⟩) 0 0) 0 [] rfl (Own.mid (Own.empty p2)) _ t1 (numsOf (txt (textT (ys.take q)))) rfl (src_bytes (HB1b.out.bytes.below HAL.out)) t1 _ (Nat.zero_add _) (List.nil_append _) (by have := HTB1.out; omega) HAL.out.size (fun ya yc p3 hm hb => ?_)
        have HM3 := Lib.hid hm
        have HL3 := Lib.hid (HAL.out.trans hb)
        clear hm hb
        have tok : True := trivial
        go_wp2_with (have _t := tok; at_builtin; clear tok; refine Hid.out ?_)
        refine unhid ?_
        refine wpList_append_to rfl _ _ 22 rfl p2.heap.size (.slice ya t1 yc) t1 (numsOf (txt (textT (ys.take q)))) rfl HM3.out _ t2 (numsOf (txt (textT (ys.drop q)))) rfl (src_bytes (HB2.out.bytes.below HL3.out)) t3 (numsOf (txt (textT ys))) HT3.out HTX.out (by have := HTB3.out; omega) HL3.out.size (fun za zc p4 hm hb => ?_)
        have HM4 := Lib.hid hm
        have HL4 := Lib.hid (HL3.out.trans hb)
        clear hm hb
        go_wp2_with fail
        have HP4 := Lib.hid (HP2.out.trans (HL4.out.mono HP2.out.size))
        have HAP4 := Lib.hid (HAP2.out.below HL4.out)
        have HOP4 := Lib.hid (HOP2.out.below HL4.out)
        have HRW4 := Lib.hid (HM4.out.row (range_of_mem (numsOf_bytes _)))
        clear HP2 HAP2 HOP2 HB1b HB2 HAL HL3 HL4 HM3 HM4
        have HRB := Lib.hid (tread_back HYG.out HR.out)
        refine (tparse_any za t3 zc (textT ys) p4 HRW4.out (by have := HTB3.out; omega) (HE.out.below HP4.out)).mono ?_
        rintro e v ⟨hpo, hb⟩
        rw [HRB.out] at hpo
        obtain ⟨xa, xc, rfl, hox⟩ := hpo
        have HXV := Lib.hid hox.fs.1
        have HVV := Lib.hid (HP4.out.trans (hb.mono HP4.out.size))
        have HAV := Lib.hid (HAP4.out.below hb)
        have HOV := Lib.hid (HOP4.out.below hb)
        rw [HN.out]
        clear hb hox HP4 HAP4 HOP4 HRW4
        by_cases hn0 : n = 0
        · subst hn0
          rw [show ((0 : Nat) : Int) = 0 from rfl]
          go_wp2_with fail
          refine wp_region_noPanic ?_
          refine wp_region_held_drew (S := fun W => True) (by kernel_rfl) ?_ (fun hHeld => ?_)
          · exact trivial
          refine wpAnyH_take (i := 0) (v := ?_) (by simp only [List.getElem?_toArray, List.getElem?_cons_zero]; rfl) (by kernel_rfl) (by kernel_rfl) (by kernel_rfl) (fun _ _ _ h => h) (Or.inl ⟨by rfl, ?_⟩) (by assumption) ?_
          rotate_left
          · intro W hSW
            go_simp
            try with_reducible rfl
          try simp only [Act.put, List.setIfInBounds_toArray, List.set_cons_zero, List.set_cons_succ]
          refine wpAnyH_take (i := 1) (v := ?_) (by simp only [List.getElem?_toArray, List.getElem?_cons_succ, List.getElem?_cons_zero]; rfl) (by kernel_rfl) (by kernel_rfl) (by kernel_rfl) (fun _ _ _ h => h) (Or.inl ⟨by rfl, ?_⟩) (by assumption) ?_
          rotate_left
          · intro W hSW
            go_simp
            try with_reducible rfl
          try simp only [Act.put, List.setIfInBounds_toArray, List.set_cons_zero, List.set_cons_succ]
          refine wpAnyH_take (i := 2) (v := ?_) (by simp only [List.getElem?_toArray, List.getElem?_cons_succ, List.getElem?_cons_zero]; rfl) (by kernel_rfl) (by kernel_rfl) (by kernel_rfl) (fun _ _ _ h => h) (Or.inl ⟨by rfl, ?_⟩) (by assumption) ?_
          rotate_left
          · intro W hSW
            go_simp
            try with_reducible rfl
          try simp only [Act.put, List.setIfInBounds_toArray, List.set_cons_zero, List.set_cons_succ]
          refine wpAnyH_take (i := 3) (v := ?_) (by simp only [List.getElem?_toArray, List.getElem?_cons_succ, List.getElem?_cons_zero]; rfl) (by kernel_rfl) (by kernel_rfl) (by kernel_rfl) (fun _ _ _ h => h) (Or.inl ⟨by rfl, ?_⟩) (by assumption) ?_
          rotate_left
          · intro W hSW
            go_simp
            try with_reducible rfl
          try simp only [Act.put, List.setIfInBounds_toArray, List.set_cons_zero, List.set_cons_succ]
          refine wpAnyH_take (i := 4) (v := undef) (by simp only [List.getElem?_toArray, List.getElem?_cons_succ, List.getElem?_cons_zero]; rfl) (by kernel_rfl) (by kernel_rfl) (by kernel_rfl) (fun _ _ _ h => h) (Or.inr ⟨by rfl, rfl⟩) (by assumption) ?_
          try simp only [Act.put, List.setIfInBounds_toArray, List.set_cons_zero, List.set_cons_succ]
          refine wpAnyH_take (i := 5) (v := undef) (by simp only [List.getElem?_toArray, List.getElem?_cons_succ, List.getElem?_cons_zero]; rfl) (by kernel_rfl) (by kernel_rfl) (by kernel_rfl) (fun _ _ _ h => h) (Or.inr ⟨by rfl, rfl⟩) (by assumption) ?_
          try simp only [Act.put, List.setIfInBounds_toArray, List.set_cons_zero, List.set_cons_succ]
          refine wpAnyH_take (i := 6) (v := undef) (by simp only [List.getElem?_toArray, List.getElem?_cons_succ, List.getElem?_cons_zero]; rfl) (by kernel_rfl) (by kernel_rfl) (by kernel_rfl) (fun _ _ _ h => h) (Or.inr ⟨by rfl, rfl⟩) (by assumption) ?_
          try simp only [Act.put, List.setIfInBounds_toArray, List.set_cons_zero, List.set_cons_succ]
          refine wpAnyH_take (i := 7) (v := undef) (by simp only [List.getElem?_toArray, List.getElem?_cons_succ, List.getElem?_cons_zero]; rfl) (by kernel_rfl) (by kernel_rfl) (by kernel_rfl) (fun _ _ _ h => h) (Or.inr ⟨by rfl, rfl⟩) (by assumption) ?_
          try simp only [Act.put, List.setIfInBounds_toArray, List.set_cons_zero, List.set_cons_succ]
          refine wpAnyH_take (i := 8) (v := undef) (by simp only [List.getElem?_toArray, List.getElem?_cons_succ, List.getElem?_cons_zero]; rfl) (by kernel_rfl) (by kernel_rfl) (by kernel_rfl) (fun _ _ _ h => h) (Or.inr ⟨by rfl, rfl⟩) (by assumption) ?_
          try simp only [Act.put, List.setIfInBounds_toArray, List.set_cons_zero, List.set_cons_succ]
          refine wpAnyH_take (i := 9) (v := undef) (by simp only [List.getElem?_toArray, List.getElem?_cons_succ, List.getElem?_cons_zero]; rfl) (by kernel_rfl) (by kernel_rfl) (by kernel_rfl) (fun _ _ _ h => h) (Or.inr ⟨by rfl, rfl⟩) (by assumption) ?_
          try simp only [Act.put, List.setIfInBounds_toArray, List.set_cons_zero, List.set_cons_succ]
          refine wpAnyH_take (i := 10) (v := undef) (by simp only [List.getElem?_toArray, List.getElem?_cons_succ, List.getElem?_cons_zero]; rfl) (by kernel_rfl) (by kernel_rfl) (by kernel_rfl) (fun _ _ _ h => h) (Or.inr ⟨by rfl, rfl⟩) (by assumption) ?_
          try simp only [Act.put, List.setIfInBounds_toArray, List.set_cons_zero, List.set_cons_succ]
          refine wpAnyH_take (i := 11) (v := undef) (by simp only [List.getElem?_toArray, List.getElem?_cons_succ, List.getElem?_cons_zero]; rfl) (by kernel_rfl) (by kernel_rfl) (by kernel_rfl) (fun _ _ _ h => h) (Or.inr ⟨by rfl, rfl⟩) (by assumption) ?_
          try simp only [Act.put, List.setIfInBounds_toArray, List.set_cons_zero, List.set_cons_succ]
          refine wpAnyH_take (i := 12) (v := undef) (by simp only [List.getElem?_toArray, List.getElem?_cons_succ, List.getElem?_cons_zero]; rfl) (by kernel_rfl) (by kernel_rfl) (by kernel_rfl) (fun _ _ _ h => h) (Or.inr ⟨by rfl, rfl⟩) (by assumption) ?_
          try simp only [Act.put, List.setIfInBounds_toArray, List.set_cons_zero, List.set_cons_succ]
          refine wpAnyH_take (i := 13) (v := undef) (by simp only [List.getElem?_toArray, List.getElem?_cons_succ, List.getElem?_cons_zero]; rfl) (by kernel_rfl) (by kernel_rfl) (by kernel_rfl) (fun _ _ _ h => h) (Or.inr ⟨by rfl, rfl⟩) (by assumption) ?_
          try simp only [Act.put, List.setIfInBounds_toArray, List.set_cons_zero, List.set_cons_succ]
          refine wpAnyH_take (i := 14) (v := undef) (by simp only [List.getElem?_toArray, List.getElem?_cons_succ, List.getElem?_cons_zero]; rfl) (by kernel_rfl) (by kernel_rfl) (by kernel_rfl) (fun _ _ _ h => h) (Or.inr ⟨by rfl, rfl⟩) (by assumption) ?_
          try simp only [Act.put, List.setIfInBounds_toArray, List.set_cons_zero, List.set_cons_succ]
          refine wpAnyH_take (i := 15) (v := undef) (by simp only [List.getElem?_toArray, List.getElem?_cons_succ, List.getElem?_cons_zero]; rfl) (by kernel_rfl) (by kernel_rfl) (by kernel_rfl) (fun _ _ _ h => h) (Or.inr ⟨by rfl, rfl⟩) (by assumption) ?_
          try simp only [Act.put, List.setIfInBounds_toArray, List.set_cons_zero, List.set_cons_succ]
          refine wpAnyH_take (i := 16) (v := undef) (by simp only [List.getElem?_toArray, List.getElem?_cons_succ, List.getElem?_cons_zero]; rfl) (by kernel_rfl) (by kernel_rfl) (by kernel_rfl) (fun _ _ _ h => h) (Or.inr ⟨by rfl, rfl⟩) (by assumption) ?_
          try simp only [Act.put, List.setIfInBounds_toArray, List.set_cons_zero, List.set_cons_succ]
          refine wpAnyH_take (i := 17) (v := ?_) (by simp only [List.getElem?_toArray, List.getElem?_cons_succ, List.getElem?_cons_zero]; rfl) (by kernel_rfl) (by kernel_rfl) (by kernel_rfl) (fun _ _ _ h => h) (Or.inl ⟨by rfl, ?_⟩) (by assumption) ?_
          rotate_left
          · intro W hSW
            go_simp
            try with_reducible rfl
          try simp only [Act.put, List.setIfInBounds_toArray, List.set_cons_zero, List.set_cons_succ]
          refine wpAnyH_take (i := 18) (v := ?_) (by simp only [List.getElem?_toArray, List.getElem?_cons_succ, List.getElem?_cons_zero]; rfl) (by kernel_rfl) (by kernel_rfl) (by kernel_rfl) (fun _ _ _ h => h) (Or.inl ⟨by rfl, ?_⟩) (by assumption) ?_
          rotate_left
          · intro W hSW
            go_simp
            try with_reducible rfl
          try simp only [Act.put, List.setIfInBounds_toArray, List.set_cons_zero, List.set_cons_succ]
          refine wpAnyH_done (by kernel_rfl) ?_ _
          refine NoPanic.normal ?_
          clear hHeld
          go_wp2_with fail
          refine (tright_n m zs HZL.out (by have := HZN.out; omega) oa oc v.drew (HOV.out.below ((Below.refl v.heap.size v).drew)) HZP.out).mono ?_
          rintro e r1 ⟨rfl, hb⟩
          rw [HSB.out]
          have HR1 := Lib.hid ((Below.trans ((Below.refl v.heap.size v).drew) (hb.mono (Below.size ((Below.refl v.heap.size v).drew)))))
          clear hb
          go_wp2_with fail
          refine (tas_n 0 ys HN.out (by have := HNB.out; omega) xa xc r1 (HXV.out.below HR1.out)).mono ?_
          rintro e r2 ⟨⟨u, rfl, ho⟩, hb⟩
          have HR2 := Lib.hid (HR1.out.trans (hb.mono HR1.out.size))
          obtain ⟨ra, rc, rfl, hat, -, -⟩ := ho.at
          have HRA := Lib.hid hat
          rw [HN.out]
          clear hat ho hb HR1
          go_wp2_with fail
          refine (tas_n 0 ys HN.out (by have := HNB.out; omega) _ lc r2 (HAV.out.below HR2.out)).mono ?_
          rintro e r3 ⟨⟨u, rfl, ho⟩, hb⟩
          have HR3 := Lib.hid (HR2.out.trans (hb.mono HR2.out.size))
          have HRA3 := Lib.hid (HRA.out.below hb)
          obtain ⟨ua, uc, rfl, hat, -, -⟩ := ho.at
          have HUA := Lib.hid hat
          rw [HN.out]
          clear hat ho hb HR2 HRA
          go_wp2_with fail
          refine (tsame_n 0 ys HN.out (by have := HNB.out; omega) ra ua rc uc r3 HRA3.out HUA.out).mono ?_
          rintro e r4 ⟨rfl, hb⟩
          have HR4 := Lib.hid (HR3.out.trans (hb.mono HR3.out.size))
          clear hb
          go_wp2_with fail
          go_ret
          exact ⟨rfl, HVV.out.trans (HR4.out.mono HVV.out.size)⟩
        · have hni : ¬ (n : Int) = 0 := by omega
          have hnb : ((n : Int) == 0) = false := beq_eq_false_iff_ne.2 hni
          obtain ⟨n1, hn1⟩ : ∃ n1, n = n1 + 1 := ⟨n - 1, by omega⟩
          have hws : wrap64 ((n : Int) - 1) = (n1 : Int) := by rw [hn1, show ((n1 + 1 : Nat) : Int) - 1 = (n1 : Int) by omega]; exact IntWalk.wrap64_in _ (by have := HNB.out; omega)
          have hwi : IntKind.i64.wrap ((n : Int) - 1) = (n1 : Int) := by rw [hn1, show ((n1 + 1 : Nat) : Int) - 1 = (n1 : Int) by omega]; exact IntWalk.i64_in _ (by have := HNB.out; omega)
          have hlt : (n1 : Int) < (n : Int) := by omega
          have hltn : n1 < n := by omega
          have HKP : Hid (0 < n) := by show _ < _; omega
          have HA20 := Lib.hid HAV.out.each
          rcases HAV.out.rows with h0 | ⟨b, off, rfl, hbl, hc⟩
          · rw [HN.out] at h0; omega
          have HROWS : Hid (∀ W, Below v.heap.size v W → ∀ (j : Nat) y, ys[j]? = some y → W.rangeAt b (off + j * 22) (entL y)) := fun W hW j y hj => range_below (hc j y hj) hW hbl
          obtain ⟨x, hp⟩ : ∃ x, ys[n1]? = some x := ⟨_, List.getElem?_eq_getElem (by rw [HN.out]; exact hltn)⟩
          have H20 := Lib.hid (HA20.out x (List.mem_of_getElem? hp))
          have HC0 : Hid (∀ W, Below v.heap.size v W → W.rangeAt b (off + n1 * 22) (entL x)) := fun W hW => HROWS.out W hW n1 x hp
          have HDUP : Hid (rightT (ys ++ [x]) = false) := rightT_dup (List.mem_of_getElem? hp)
          have HN1 : Hid ((ys ++ [x]).length = n + 1) := by show _ = _; rw [List.length_append, HN.out]; rfl
          have HP1 : Hid (∀ y ∈ ys ++ [x], y.p.size ≤ 100000) := fun y hy => by
            rcases List.mem_append.1 hy with hy | hy
            · exact HYP.out y hy
            · rw [List.mem_singleton.1 hy]; exact HYP.out x (List.mem_of_getElem? hp)
          clear hp hbl hc hn1 hn0 hltn
          go_wp2_with fail
          refine wp_region_noPanic ?_
          refine wp_region_held_drew (S := fun W => W.rangeAt b (off + n1 * 22) (entL x)) (by kernel_rfl) ?_ (fun hHeld => ?_)
          · exact HC0.out _ (Below.refl _ _).drew
          refine wpAnyH_take (i := 0) (v := ?_) (by simp only [List.getElem?_toArray, List.getElem?_cons_zero]; rfl) (by kernel_rfl) (by kernel_rfl) (by kernel_rfl) (fun _ _ _ h => h) (Or.inl ⟨by rfl, ?_⟩) (by assumption) ?_
          rotate_left
          · intro W hSW
            go_simp
            try with_reducible rfl
          try simp only [Act.put, List.setIfInBounds_toArray, List.set_cons_zero, List.set_cons_succ]
          refine wpAnyH_take (i := 1) (v := ?_) (by simp only [List.getElem?_toArray, List.getElem?_cons_succ, List.getElem?_cons_zero]; rfl) (by kernel_rfl) (by kernel_rfl) (by kernel_rfl) (fun _ _ _ h => h) (Or.inl ⟨by rfl, ?_⟩) (by assumption) ?_
          rotate_left
          · intro W hSW
            go_simp
            try with_reducible rfl
          try simp only [Act.put, List.setIfInBounds_toArray, List.set_cons_zero, List.set_cons_succ]
          refine wpAnyH_take (i := 2) (v := ?_) (by simp only [List.getElem?_toArray, List.getElem?_cons_succ, List.getElem?_cons_zero]; rfl) (by kernel_rfl) (by kernel_rfl) (by kernel_rfl) (fun _ _ _ h => h) (Or.inl ⟨by rfl, ?_⟩) (by assumption) ?_
          rotate_left
          · intro W hSW
            go_simp
            try with_reducible rfl
          try simp only [Act.put, List.setIfInBounds_toArray, List.set_cons_zero, List.set_cons_succ]
          refine wpAnyH_take (i := 3) (v := ?_) (by simp only [List.getElem?_toArray, List.getElem?_cons_succ, List.getElem?_cons_zero]; rfl) (by kernel_rfl) (by kernel_rfl) (by kernel_rfl) (fun _ _ _ h => h) (Or.inl ⟨by rfl, ?_⟩) (by assumption) ?_
          rotate_left
          · intro W hSW
            go_simp
            try with_reducible rfl
          try simp only [Act.put, List.setIfInBounds_toArray, List.set_cons_zero, List.set_cons_succ]
          refine wpAnyH_take (i := 5) (v := ?_) (by simp only [List.getElem?_toArray, List.getElem?_cons_succ, List.getElem?_cons_zero]; rfl) (by kernel_rfl) (by kernel_rfl) (by kernel_rfl) (fun _ _ _ h => h) (Or.inl ⟨by rfl, ?_⟩) (by assumption) ?_
          rotate_left
          · intro W hSW
            go_simp
            try with_reducible rfl
          try simp only [Act.put, List.setIfInBounds_toArray, List.set_cons_zero, List.set_cons_succ]
          refine wpAnyH_take (i := 7) (v := ?_) (by simp only [List.getElem?_toArray, List.getElem?_cons_succ, List.getElem?_cons_zero]; rfl) (by kernel_rfl) (by kernel_rfl) (by kernel_rfl) (fun _ _ _ h => h) (Or.inl ⟨by rfl, ?_⟩) (by assumption) ?_
          rotate_left
          · intro W hSW
            go_simp
            try with_reducible rfl
          try simp only [Act.put, List.setIfInBounds_toArray, List.set_cons_zero, List.set_cons_succ]
          refine wpAnyH_take (i := 8) (v := ?_) (by simp only [List.getElem?_toArray, List.getElem?_cons_succ, List.getElem?_cons_zero]; rfl) (by kernel_rfl) (by kernel_rfl) (by kernel_rfl) (fun _ _ _ h => h) (Or.inl ⟨by rfl, ?_⟩) (by assumption) ?_
          rotate_left
          · intro W hSW
            go_simp
            try with_reducible rfl
          try simp only [Act.put, List.setIfInBounds_toArray, List.set_cons_zero, List.set_cons_succ]
          refine wpAnyH_take (i := 9) (v := ?_) (by simp only [List.getElem?_toArray, List.getElem?_cons_succ, List.getElem?_cons_zero]; rfl) (by kernel_rfl) (by kernel_rfl) (by kernel_rfl) (fun _ _ _ h => h) (Or.inl ⟨by rfl, ?_⟩) (by assumption) ?_
          rotate_left
          · intro W hSW
            go_simp
            try with_reducible rfl
          try simp only [Act.put, List.setIfInBounds_toArray, List.set_cons_zero, List.set_cons_succ]
          refine wpAnyH_take (i := 10) (v := ?_) (by simp only [List.getElem?_toArray, List.getElem?_cons_succ, List.getElem?_cons_zero]; rfl) (by kernel_rfl) (by kernel_rfl) (by kernel_rfl) (fun _ _ _ h => h) (Or.inl ⟨by rfl, ?_⟩) (by assumption) ?_
          rotate_left
          · intro W hSW
            go_simp
            try with_reducible rfl
          try simp only [Act.put, List.setIfInBounds_toArray, List.set_cons_zero, List.set_cons_succ]
          refine wpAnyH_take (i := 11) (v := ?_) (by simp only [List.getElem?_toArray, List.getElem?_cons_succ, List.getElem?_cons_zero]; rfl) (by kernel_rfl) (by kernel_rfl) (by kernel_rfl) (fun _ _ _ h => h) (Or.inl ⟨by rfl, ?_⟩) (by assumption) ?_
          rotate_left
          · intro W hSW
            go_simp
            try with_reducible rfl
          try simp only [Act.put, List.setIfInBounds_toArray, List.set_cons_zero, List.set_cons_succ]
          have HIL := Lib.hid (ent_infoL x H20.out)
          refine wpAnyH_take (i := 12) (v := .agg (entA x)) (by simp only [List.getElem?_toArray, List.getElem?_cons_succ, List.getElem?_cons_zero]; rfl) (by kernel_rfl) (by kernel_rfl) (by kernel_rfl) (fun _ _ _ h => h) (yieldsIf_load_mid (by rfl) 44 _ rfl b (off + n1 * 22) rfl (entL x) _ (fun W hSW => hSW) Tryd.underlying44 rfl HIL.out) (by assumption) ?_
          try simp only [Act.put, List.setIfInBounds_toArray, List.set_cons_zero, List.set_cons_succ]
          refine wpAnyH_ready (rs := [4, 13]) (by kernel_rfl) (by simp) ?_
          refine AllReadyH.cons (by simp only [List.getElem?_toArray, List.getElem?_cons_succ, List.getElem?_cons_zero]; rfl) (fun K hK => ?_) (AllReadyH.cons (by simp only [List.getElem?_toArray, List.getElem?_cons_succ, List.getElem?_cons_zero]; rfl) (fun K hK => ?_) AllReadyH.nil)
          · refine step_slice (by rfl) _ _ _ rfl #[] (by simp) _ _ (slice_noE _) ?_
            have HBA : Hid (Below v.heap.size v (v.drew.alloc (.cells #[] 44))) := (Below.refl _ _).drew.alloc (Nat.le_refl _) _
            have HOA : Hid (OwnE 44 (v.drew.alloc (.cells #[] 44)) v.heap.size (.slice (some ⟨v.heap.size, 0, none⟩) 0 0) []) := OwnE.empty v.drew
            refine hK.out _ _ (HC0.out _ HBA.out) (fun hHeld2 => ?_)
            clear hK K hHeld
            have hHeld := hHeld2
            clear hHeld2
            try simp only [Act.put, List.setIfInBounds_toArray, List.set_cons_zero, List.set_cons_succ]
            refine wpAnyH_ready (rs := [6, 13]) (by kernel_rfl) (by simp) ?_
            refine AllReadyH.cons (by simp only [List.getElem?_toArray, List.getElem?_cons_succ, List.getElem?_cons_zero]; rfl) (fun K hK => ?_) (AllReadyH.cons (by simp only [List.getElem?_toArray, List.getElem?_cons_succ, List.getElem?_cons_zero]; rfl) (fun K hK => ?_) AllReadyH.nil)
            · refine step_append_ents (by rfl) _ _ rfl v.heap.size (.slice (some ⟨v.heap.size, 0, none⟩) 0 0) [] 0 rfl rfl HOA.out b off n lc ys HN.out (by have := HKP.out; omega) HA20.out rfl (HROWS.out _ HBA.out) n ys (Nat.zero_add _) (List.nil_append _) (by have := HNB.out; omega) HBA.out.size ?_
              rintro g5 gc5 w5 ho1 hg1 hgg hgl
              have HO5 := Lib.hid ho1
              have HB5 : Hid (Below v.heap.size v w5) := HBA.out.grown hg1 HBA.out.size (fun g hg => (HOA.out.lt hg).1)
              clear ho1 hg1 hgg hgl HOA HBA
              refine hK.out _ _ (HC0.out _ HB5.out) (fun hHeld2 => ?_)
              clear hK K hHeld
              have hHeld := hHeld2
              clear hHeld2
              try simp only [Act.put, List.setIfInBounds_toArray, List.set_cons_zero, List.set_cons_succ]
              refine wpAnyH_ready (rs := [13]) (by kernel_rfl) (by simp) ?_
              refine AllReadyH.cons (by simp only [List.getElem?_toArray, List.getElem?_cons_succ, List.getElem?_cons_zero]; rfl) (fun K hK => ?_) AllReadyH.nil
              refine step_slice (by rfl) _ _ _ rfl #[(0, .agg (entA x))] (map_one _ _ _ rfl) _ _ (slice_ent x H20.out _) ?_
              have HBX : Hid (Below v.heap.size v (w5.alloc (.cells (entA x) 44))) := HB5.out.alloc HB5.out.size _
              have HX5 : Hid ((w5.alloc (.cells (entA x) 44)).rangeAt w5.heap.size 0 (entL x)) := box_ent w5 x _
              have HOX : Hid (OwnE 44 (w5.alloc (.cells (entA x) 44)) v.heap.size (.slice (some ⟨g5, 0, none⟩) n gc5) ys) := HO5.out.below ((Below.refl _ _).alloc (Nat.le_refl _) _)
              clear HO5 HB5
              refine hK.out _ _ (HC0.out _ HBX.out) (fun hHeld2 => ?_)
              clear hK K hHeld
              have hHeld := hHeld2
              clear hHeld2
              try simp only [Act.put, List.setIfInBounds_toArray, List.set_cons_zero, List.set_cons_succ]
              refine wpAnyH_ready (rs := [14]) (by kernel_rfl) (by simp) ?_
              refine AllReadyH.cons (by simp only [List.getElem?_toArray, List.getElem?_cons_succ, List.getElem?_cons_zero]; rfl) (fun K hK => ?_) AllReadyH.nil
              refine step_append_ents (by rfl) _ _ rfl v.heap.size (.slice (some ⟨g5, 0, none⟩) n gc5) ys n HN.out rfl HOX.out w5.heap.size 0 1 1 [x] rfl (by decide) (one_20 H20.out) rfl (one_range HX5.out) (n + 1) (ys ++ [x]) rfl rfl (by have := HNB.out; omega) HBX.out.size ?_
              rintro g6 gc6 w6 ho2 hg2 hgg2 hgl2
              have HB6 : Hid (Below v.heap.size v w6) := HBX.out.grown hg2 HBX.out.size (fun g hg => (HOX.out.lt hg).1)
              have HA6 := Lib.hid ho2.fs.1
              clear ho2 hg2 hgg2 hgl2
              refine hK.out _ _ (HC0.out _ HB6.out) (fun hHeld2 => ?_)
              clear hK K hHeld
              have hHeld := hHeld2
              clear hHeld2
              try simp only [Act.put, List.setIfInBounds_toArray, List.set_cons_zero, List.set_cons_succ]
              refine wpAnyH_ready (rs := [15]) (by kernel_rfl) (by simp) ?_
              refine AllReadyH.cons (by simp only [List.getElem?_toArray, List.getElem?_cons_succ, List.getElem?_cons_zero]; rfl) (fun K hK => ?_) AllReadyH.nil
              go_simp
              refine (tright_n (n + 1) (ys ++ [x]) HN1.out (by have := HNB.out; omega) (some ⟨g6, 0, none⟩) gc6 w6 HA6.out HP1.out).mono ?_
              rintro e w7 ⟨rfl, hb⟩
              rw [HDUP.out]
              have HB7 := Lib.hid (HB6.out.trans (hb.mono HB6.out.size))
              clear hb HA6 HB6
              go_wp2_with fail
              refine hK.out _ _ (HC0.out _ HB7.out) (fun hHeld2 => ?_)
              clear hK K hHeld
              have hHeld := hHeld2
              clear hHeld2
              try simp only [Act.put, List.setIfInBounds_toArray, List.set_cons_zero, List.set_cons_succ]
              refine wpAnyH_take (i := 16) (v := ?_) (by simp only [List.getElem?_toArray, List.getElem?_cons_succ, List.getElem?_cons_zero]; rfl) (by kernel_rfl) (by kernel_rfl) (by kernel_rfl) (fun _ _ _ h => h) (Or.inl ⟨by rfl, ?_⟩) (by assumption) ?_
              rotate_left
              · intro W hSW
                go_simp
                try with_reducible rfl
              try simp only [Act.put, List.setIfInBounds_toArray, List.set_cons_zero, List.set_cons_succ]
              refine wpAnyH_take (i := 17) (v := ?_) (by simp only [List.getElem?_toArray, List.getElem?_cons_succ, List.getElem?_cons_zero]; rfl) (by kernel_rfl) (by kernel_rfl) (by kernel_rfl) (fun _ _ _ h => h) (Or.inl ⟨by rfl, ?_⟩) (by assumption) ?_
              rotate_left
              · intro W hSW
                go_simp
                try with_reducible rfl
              try simp only [Act.put, List.setIfInBounds_toArray, List.set_cons_zero, List.set_cons_succ]
              refine wpAnyH_take (i := 18) (v := ?_) (by simp only [List.getElem?_toArray, List.getElem?_cons_succ, List.getElem?_cons_zero]; rfl) (by kernel_rfl) (by kernel_rfl) (by kernel_rfl) (fun _ _ _ h => h) (Or.inl ⟨by rfl, ?_⟩) (by assumption) ?_
              rotate_left
              · intro W hSW
                go_simp
                try with_reducible rfl
              try simp only [Act.put, List.setIfInBounds_toArray, List.set_cons_zero, List.set_cons_succ]
              refine wpAnyH_done (by kernel_rfl) ?_ _
              refine NoPanic.normal ?_
              clear hHeld
              go_wp2_with fail
              refine (tright_n m zs HZL.out (by have := HZN.out; omega) oa oc w7 (HOV.out.below (HB7.out)) HZP.out).mono ?_
              rintro e r1 ⟨rfl, hb⟩
              rw [HSB.out]
              have HR1 := Lib.hid ((Below.trans (HB7.out) (hb.mono (Below.size (HB7.out)))))
              clear hb
              go_wp2_with fail
              refine (tas_n n ys HN.out (by have := HNB.out; omega) xa xc r1 (HXV.out.below HR1.out)).mono ?_
              rintro e r2 ⟨⟨u, rfl, ho⟩, hb⟩
              have HR2 := Lib.hid (HR1.out.trans (hb.mono HR1.out.size))
              obtain ⟨ra, rc, rfl, hat, -, -⟩ := ho.at
              have HRA := Lib.hid hat
              rw [HN.out]
              clear hat ho hb HR1
              go_wp2_with fail
              refine (tas_n n ys HN.out (by have := HNB.out; omega) _ lc r2 (HAV.out.below HR2.out)).mono ?_
              rintro e r3 ⟨⟨u, rfl, ho⟩, hb⟩
              have HR3 := Lib.hid (HR2.out.trans (hb.mono HR2.out.size))
              have HRA3 := Lib.hid (HRA.out.below hb)
              obtain ⟨ua, uc, rfl, hat, -, -⟩ := ho.at
              have HUA := Lib.hid hat
              rw [HN.out]
              clear hat ho hb HR2 HRA
              go_wp2_with fail
              refine (tsame_n n ys HN.out (by have := HNB.out; omega) ra ua rc uc r3 HRA3.out HUA.out).mono ?_
              rintro e r4 ⟨rfl, hb⟩
              have HR4 := Lib.hid (HR3.out.trans (hb.mono HR3.out.size))
              clear hb
              go_wp2_with fail
              go_ret
              exact ⟨rfl, HVV.out.trans (HR4.out.mono HVV.out.size)⟩
            · refine step_slice (by rfl) _ _ _ rfl #[(0, .agg (entA x))] (map_one _ _ _ rfl) _ _ (slice_ent x H20.out _) ?_
              have HBX : Hid (Below v.heap.size v ((v.drew.alloc (.cells #[] 44)).alloc (.cells (entA x) 44))) := HBA.out.alloc HBA.out.size _
              have HXA : Hid (((v.drew.alloc (.cells #[] 44)).alloc (.cells (entA x) 44)).rangeAt (v.drew.alloc (.cells #[] 44)).heap.size 0 (entL x)) := box_ent (v.drew.alloc (.cells #[] 44)) x 44
              have HOX : Hid (OwnE 44 ((v.drew.alloc (.cells #[] 44)).alloc (.cells (entA x) 44)) v.heap.size (.slice (some ⟨v.heap.size, 0, none⟩) 0 0) []) := HOA.out.below ((Below.refl _ _).alloc (Nat.le_refl _) _)
              clear HOA HBA
              refine hK.out _ _ (HC0.out _ HBX.out) (fun hHeld2 => ?_)
              clear hK K hHeld
              have hHeld := hHeld2
              clear hHeld2
              try simp only [Act.put, List.setIfInBounds_toArray, List.set_cons_zero, List.set_cons_succ]
              refine wpAnyH_ready (rs := [6]) (by kernel_rfl) (by simp) ?_
              refine AllReadyH.cons (by simp only [List.getElem?_toArray, List.getElem?_cons_succ, List.getElem?_cons_zero]; rfl) (fun K hK => ?_) AllReadyH.nil
              refine step_append_ents (by rfl) _ _ rfl v.heap.size (.slice (some ⟨v.heap.size, 0, none⟩) 0 0) [] 0 rfl rfl HOX.out b off n lc ys HN.out (by have := HKP.out; omega) HA20.out rfl (HROWS.out _ HBX.out) n ys (Nat.zero_add _) (List.nil_append _) (by have := HNB.out; omega) HBX.out.size ?_
              rintro g5 gc5 w5 ho1 hg1 hgg hgl
              have HO5 := Lib.hid ho1
              have HB5 : Hid (Below v.heap.size v w5) := HBX.out.grown hg1 HBX.out.size (fun g hg => (HOX.out.lt hg).1)
              have HX5 : Hid (w5.rangeAt (v.drew.alloc (.cells #[] 44)).heap.size 0 (entL x)) := range_far HXA.out hg1 (by simp) (by simp [Value.ownBlock])
              clear ho1 hg1 hgg hgl HOX HBX HXA
              refine hK.out _ _ (HC0.out _ HB5.out) (fun hHeld2 => ?_)
              clear hK K hHeld
              have hHeld := hHeld2
              clear hHeld2
              try simp only [Act.put, List.setIfInBounds_toArray, List.set_cons_zero, List.set_cons_succ]
              refine wpAnyH_ready (rs := [14]) (by kernel_rfl) (by simp) ?_
              refine AllReadyH.cons (by simp only [List.getElem?_toArray, List.getElem?_cons_succ, List.getElem?_cons_zero]; rfl) (fun K hK => ?_) AllReadyH.nil
              refine step_append_ents (by rfl) _ _ rfl v.heap.size (.slice (some ⟨g5, 0, none⟩) n gc5) ys n HN.out rfl HO5.out (v.drew.alloc (.cells #[] 44)).heap.size 0 1 1 [x] rfl (by decide) (one_20 H20.out) rfl (one_range HX5.out) (n + 1) (ys ++ [x]) rfl rfl (by have := HNB.out; omega) HB5.out.size ?_
              rintro g6 gc6 w6 ho2 hg2 hgg2 hgl2
              have HB6 : Hid (Below v.heap.size v w6) := HB5.out.grown hg2 HB5.out.size (fun g hg => (HO5.out.lt hg).1)
              have HA6 := Lib.hid ho2.fs.1
              clear ho2 hg2 hgg2 hgl2
              refine hK.out _ _ (HC0.out _ HB6.out) (fun hHeld2 => ?_)
              clear hK K hHeld
              have hHeld := hHeld2
              clear hHeld2
              try simp only [Act.put, List.setIfInBounds_toArray, List.set_cons_zero, List.set_cons_succ]
              refine wpAnyH_ready (rs := [15]) (by kernel_rfl) (by simp) ?_
              refine AllReadyH.cons (by simp only [List.getElem?_toArray, List.getElem?_cons_succ, List.getElem?_cons_zero]; rfl) (fun K hK => ?_) AllReadyH.nil
              go_simp
              refine (tright_n (n + 1) (ys ++ [x]) HN1.out (by have := HNB.out; omega) (some ⟨g6, 0, none⟩) gc6 w6 HA6.out HP1.out).mono ?_
              rintro e w7 ⟨rfl, hb⟩
              rw [HDUP.out]
              have HB7 := Lib.hid (HB6.out.trans (hb.mono HB6.out.size))
              clear hb HA6 HB6
              go_wp2_with fail
              refine hK.out _ _ (HC0.out _ HB7.out) (fun hHeld2 => ?_)
              clear hK K hHeld
              have hHeld := hHeld2
              clear hHeld2
              try simp only [Act.put, List.setIfInBounds_toArray, List.set_cons_zero, List.set_cons_succ]
              refine wpAnyH_take (i := 16) (v := ?_) (by simp only [List.getElem?_toArray, List.getElem?_cons_succ, List.getElem?_cons_zero]; rfl) (by kernel_rfl) (by kernel_rfl) (by kernel_rfl) (fun _ _ _ h => h) (Or.inl ⟨by rfl, ?_⟩) (by assumption) ?_
              rotate_left
              · intro W hSW
                go_simp
                try with_reducible rfl
              try simp only [Act.put, List.setIfInBounds_toArray, List.set_cons_zero, List.set_cons_succ]
              refine wpAnyH_take (i := 17) (v := ?_) (by simp only [List.getElem?_toArray, List.getElem?_cons_succ, List.getElem?_cons_zero]; rfl) (by kernel_rfl) (by kernel_rfl) (by kernel_rfl) (fun _ _ _ h => h) (Or.inl ⟨by rfl, ?_⟩) (by assumption) ?_
              rotate_left
              · intro W hSW
                go_simp
                try with_reducible rfl
              try simp only [Act.put, List.setIfInBounds_toArray, List.set_cons_zero, List.set_cons_succ]
              refine wpAnyH_take (i := 18) (v := ?_) (by simp only [List.getElem?_toArray, List.getElem?_cons_succ, List.getElem?_cons_zero]; rfl) (by kernel_rfl) (by kernel_rfl) (by kernel_rfl) (fun _ _ _ h => h) (Or.inl ⟨by rfl, ?_⟩) (by assumption) ?_
              rotate_left
              · intro W hSW
                go_simp
                try with_reducible rfl
              try simp only [Act.put, List.setIfInBounds_toArray, List.set_cons_zero, List.set_cons_succ]
              refine wpAnyH_done (by kernel_rfl) ?_ _
              refine NoPanic.normal ?_
              clear hHeld
              go_wp2_with fail
              refine (tright_n m zs HZL.out (by have := HZN.out; omega) oa oc w7 (HOV.out.below (HB7.out)) HZP.out).mono ?_
              rintro e r1 ⟨rfl, hb⟩
              rw [HSB.out]
              have HR1 := Lib.hid ((Below.trans (HB7.out) (hb.mono (Below.size (HB7.out)))))
              clear hb
              go_wp2_with fail
              refine (tas_n n ys HN.out (by have := HNB.out; omega) xa xc r1 (HXV.out.below HR1.out)).mono ?_
              rintro e r2 ⟨⟨u, rfl, ho⟩, hb⟩
              have HR2 := Lib.hid (HR1.out.trans (hb.mono HR1.out.size))
              obtain ⟨ra, rc, rfl, hat, -, -⟩ := ho.at
              have HRA := Lib.hid hat
              rw [HN.out]
              clear hat ho hb HR1
              go_wp2_with fail
              refine (tas_n n ys HN.out (by have := HNB.out; omega) _ lc r2 (HAV.out.below HR2.out)).mono ?_
              rintro e r3 ⟨⟨u, rfl, ho⟩, hb⟩
              have HR3 := Lib.hid (HR2.out.trans (hb.mono HR2.out.size))
              have HRA3 := Lib.hid (HRA.out.below hb)
              obtain ⟨ua, uc, rfl, hat, -, -⟩ := ho.at
              have HUA := Lib.hid hat
              rw [HN.out]
              clear hat ho hb HR2 HRA
              go_wp2_with fail
              refine (tsame_n n ys HN.out (by have := HNB.out; omega) ra ua rc uc r3 HRA3.out HUA.out).mono ?_
              rintro e r4 ⟨rfl, hb⟩
              have HR4 := Lib.hid (HR3.out.trans (hb.mono HR3.out.size))
              clear hb
              go_wp2_with fail
              go_ret
              exact ⟨rfl, HVV.out.trans (HR4.out.mono HVV.out.size)⟩
          · refine step_slice (by rfl) _ _ _ rfl #[(0, .agg (entA x))] (map_one _ _ _ rfl) _ _ (slice_ent x H20.out _) ?_
            have HBX : Hid (Below v.heap.size v (v.drew.alloc (.cells (entA x) 44))) := (Below.refl _ _).drew.alloc (Nat.le_refl _) _
            have HXA : Hid ((v.drew.alloc (.cells (entA x) 44)).rangeAt v.heap.size 0 (entL x)) := box_ent v.drew x _
            refine hK.out _ _ (HC0.out _ HBX.out) (fun hHeld2 => ?_)
            clear hK K hHeld
            have hHeld := hHeld2
            clear hHeld2
            try simp only [Act.put, List.setIfInBounds_toArray, List.set_cons_zero, List.set_cons_succ]
            refine wpAnyH_ready (rs := [4]) (by kernel_rfl) (by simp) ?_
            refine AllReadyH.cons (by simp only [List.getElem?_toArray, List.getElem?_cons_succ, List.getElem?_cons_zero]; rfl) (fun K hK => ?_) AllReadyH.nil
            refine step_slice (by rfl) _ _ _ rfl #[] (by simp) _ _ (slice_noE _) ?_
            have HBY : Hid (Below v.heap.size v ((v.drew.alloc (.cells (entA x) 44)).alloc (.cells #[] 44))) := HBX.out.alloc HBX.out.size _
            have HXB : Hid (((v.drew.alloc (.cells (entA x) 44)).alloc (.cells #[] 44)).rangeAt v.heap.size 0 (entL x)) := range_below HXA.out ((Below.refl _ _).alloc (Nat.le_refl _) _) (by simp)
            have HOX : Hid (OwnE 44 ((v.drew.alloc (.cells (entA x) 44)).alloc (.cells #[] 44)) v.heap.size (.slice (some ⟨(v.drew.alloc (.cells (entA x) 44)).heap.size, 0, none⟩) 0 0) []) := (OwnE.empty (v.drew.alloc (.cells (entA x) 44))).lower (base' := v.heap.size) (by simp)
            clear HXA HBX
            refine hK.out _ _ (HC0.out _ HBY.out) (fun hHeld2 => ?_)
            clear hK K hHeld
            have hHeld := hHeld2
            clear hHeld2
            try simp only [Act.put, List.setIfInBounds_toArray, List.set_cons_zero, List.set_cons_succ]
            refine wpAnyH_ready (rs := [6]) (by kernel_rfl) (by simp) ?_
            refine AllReadyH.cons (by simp only [List.getElem?_toArray, List.getElem?_cons_succ, List.getElem?_cons_zero]; rfl) (fun K hK => ?_) AllReadyH.nil
            refine step_append_ents (by rfl) _ _ rfl v.heap.size (.slice (some ⟨(v.drew.alloc (.cells (entA x) 44)).heap.size, 0, none⟩) 0 0) [] 0 rfl rfl HOX.out b off n lc ys HN.out (by have := HKP.out; omega) HA20.out rfl (HROWS.out _ HBY.out) n ys (Nat.zero_add _) (List.nil_append _) (by have := HNB.out; omega) HBY.out.size ?_
            rintro g5 gc5 w5 ho1 hg1 hgg hgl
            have HO5 := Lib.hid ho1
            have HB5 : Hid (Below v.heap.size v w5) := HBY.out.grown hg1 HBY.out.size (fun g hg => (HOX.out.lt hg).1)
            have HX5 : Hid (w5.rangeAt v.heap.size 0 (entL x)) := range_far HXB.out hg1 (by simp; omega) (by simp [Value.ownBlock])
            clear ho1 hg1 hgg hgl HOX HBY HXB
            refine hK.out _ _ (HC0.out _ HB5.out) (fun hHeld2 => ?_)
            clear hK K hHeld
            have hHeld := hHeld2
            clear hHeld2
            try simp only [Act.put, List.setIfInBounds_toArray, List.set_cons_zero, List.set_cons_succ]
            refine wpAnyH_ready (rs := [14]) (by kernel_rfl) (by simp) ?_
            refine AllReadyH.cons (by simp only [List.getElem?_toArray, List.getElem?_cons_succ, List.getElem?_cons_zero]; rfl) (fun K hK => ?_) AllReadyH.nil
            refine step_append_ents (by rfl) _ _ rfl v.heap.size (.slice (some ⟨g5, 0, none⟩) n gc5) ys n HN.out rfl HO5.out v.heap.size 0 1 1 [x] rfl (by decide) (one_20 H20.out) rfl (one_range HX5.out) (n + 1) (ys ++ [x]) rfl rfl (by have := HNB.out; omega) HB5.out.size ?_
            rintro g6 gc6 w6 ho2 hg2 hgg2 hgl2
            have HB6 : Hid (Below v.heap.size v w6) := HB5.out.grown hg2 HB5.out.size (fun g hg => (HO5.out.lt hg).1)
            have HA6 := Lib.hid ho2.fs.1
            clear ho2 hg2 hgg2 hgl2
            refine hK.out _ _ (HC0.out _ HB6.out) (fun hHeld2 => ?_)
            clear hK K hHeld
            have hHeld := hHeld2
            clear hHeld2
            try simp only [Act.put, List.setIfInBounds_toArray, List.set_cons_zero, List.set_cons_succ]
            refine wpAnyH_ready (rs := [15]) (by kernel_rfl) (by simp) ?_
            refine AllReadyH.cons (by simp only [List.getElem?_toArray, List.getElem?_cons_succ, List.getElem?_cons_zero]; rfl) (fun K hK => ?_) AllReadyH.nil
            go_simp
            refine (tright_n (n + 1) (ys ++ [x]) HN1.out (by have := HNB.out; omega) (some ⟨g6, 0, none⟩) gc6 w6 HA6.out HP1.out).mono ?_
            rintro e w7 ⟨rfl, hb⟩
            rw [HDUP.out]
            have HB7 := Lib.hid (HB6.out.trans (hb.mono HB6.out.size))
            clear hb HA6 HB6
            go_wp2_with fail
            refine hK.out _ _ (HC0.out _ HB7.out) (fun hHeld2 => ?_)
            clear hK K hHeld
            have hHeld := hHeld2
            clear hHeld2
            try simp only [Act.put, List.setIfInBounds_toArray, List.set_cons_zero, List.set_cons_succ]
            refine wpAnyH_take (i := 16) (v := ?_) (by simp only [List.getElem?_toArray, List.getElem?_cons_succ, List.getElem?_cons_zero]; rfl) (by kernel_rfl) (by kernel_rfl) (by kernel_rfl) (fun _ _ _ h => h) (Or.inl ⟨by rfl, ?_⟩) (by assumption) ?_
            rotate_left
            · intro W hSW
              go_simp
              try with_reducible rfl
            try simp only [Act.put, List.setIfInBounds_toArray, List.set_cons_zero, List.set_cons_succ]
            refine wpAnyH_take (i := 17) (v := ?_) (by simp only [List.getElem?_toArray, List.getElem?_cons_succ, List.getElem?_cons_zero]; rfl) (by kernel_rfl) (by kernel_rfl) (by kernel_rfl) (fun _ _ _ h => h) (Or.inl ⟨by rfl, ?_⟩) (by assumption) ?_
            rotate_left
            · intro W hSW
              go_simp
              try with_reducible rfl
            try simp only [Act.put, List.setIfInBounds_toArray, List.set_cons_zero, List.set_cons_succ]
            refine wpAnyH_take (i := 18) (v := ?_) (by simp only [List.getElem?_toArray, List.getElem?_cons_succ, List.getElem?_cons_zero]; rfl) (by kernel_rfl) (by kernel_rfl) (by kernel_rfl) (fun _ _ _ h => h) (Or.inl ⟨by rfl, ?_⟩) (by assumption) ?_
            rotate_left
            · intro W hSW
              go_simp
              try with_reducible rfl
            try simp only [Act.put, List.setIfInBounds_toArray, List.set_cons_zero, List.set_cons_succ]
            refine wpAnyH_done (by kernel_rfl) ?_ _
            refine NoPanic.normal ?_
            clear hHeld
            go_wp2_with fail
            refine (tright_n m zs HZL.out (by have := HZN.out; omega) oa oc w7 (HOV.out.below (HB7.out)) HZP.out).mono ?_
            rintro e r1 ⟨rfl, hb⟩
            rw [HSB.out]
            have HR1 := Lib.hid ((Below.trans (HB7.out) (hb.mono (Below.size (HB7.out)))))
            clear hb
            go_wp2_with fail
            refine (tas_n n ys HN.out (by have := HNB.out; omega) xa xc r1 (HXV.out.below HR1.out)).mono ?_
            rintro e r2 ⟨⟨u, rfl, ho⟩, hb⟩
            have HR2 := Lib.hid (HR1.out.trans (hb.mono HR1.out.size))
            obtain ⟨ra, rc, rfl, hat, -, -⟩ := ho.at
            have HRA := Lib.hid hat
            rw [HN.out]
            clear hat ho hb HR1
            go_wp2_with fail
            refine (tas_n n ys HN.out (by have := HNB.out; omega) _ lc r2 (HAV.out.below HR2.out)).mono ?_
            rintro e r3 ⟨⟨u, rfl, ho⟩, hb⟩
            have HR3 := Lib.hid (HR2.out.trans (hb.mono HR2.out.size))
            have HRA3 := Lib.hid (HRA.out.below hb)
            obtain ⟨ua, uc, rfl, hat, -, -⟩ := ho.at
            have HUA := Lib.hid hat
            rw [HN.out]
            clear hat ho hb HR2 HRA
            go_wp2_with fail
            refine (tsame_n n ys HN.out (by have := HNB.out; omega) ra ua rc uc r3 HRA3.out HUA.out).mono ?_
            rintro e r4 ⟨rfl, hb⟩
            have HR4 := Lib.hid (HR3.out.trans (hb.mono HR3.out.size))
            clear hb
            go_wp2_with fail
            go_ret
            exact ⟨rfl, HVV.out.trans (HR4.out.mono HVV.out.size)⟩
      · have hkl : k < n := by omega
        have hki : (k : Int) < (n : Int) := by omega
        obtain ⟨b, off, x, rfl, hp, h20, hbl, hrg⟩ := HA3.out.at (k := k) (by rw [HN.out]; exact hkl)
        have HTK := Lib.hid (take_snoc hp)
        have H20 := Lib.hid h20
        have HPX : Hid (x ∈ ys) := List.mem_of_getElem? hp
        have HC0 : Hid (∀ W, Below v3.heap.size v3 W → W.rangeAt b (off + k * 22) (entL x)) := fun W hW => range_below hrg hW hbl
        clear hp h20 hbl hrg
        by_cases h2 : k < bn
        · have hkb : (k : Int) < (bn : Int) := by omega
          obtain ⟨bb, ob, y, rfl, hbb, hcb⟩ := HBS.out.at (k := k) (by rw [HBN.out]; exact h2)
          have hwc : wr.cell? ⟨bb, ob + k, none⟩ = some (.bool y) := ((HV3.out.trans (HB.out.mono HV3.out.size)).cell (p := ⟨bb, ob + k, none⟩) hbb).trans hcb
          clear hcb hbb
          cases y
          · go_wp2_with fail
            refine ⟨⟨k + 1, m, oa, oc, zs, by omega, congrArg (Value.int .i64) (wk _ rfl), rfl, HZL.out, HO.out, by rw [HTK.out]; exact HSUB.out.trans (List.sublist_append_left _ _), HB.out⟩, meas n k _ (wk _ rfl) hkl⟩
          · have hfl := HC0.out wr HB.out
            have HIL := Lib.hid (ent_infoL x H20.out)
            have hbs := fun W => slice_ent x H20.out W
            go_wp2_with (first
              | refine wpList_load_e rfl 44 _ rfl b (off + k * 22) rfl x _ (HC0.out wr HB.out) Tryd.underlying44 rfl HIL.out ?_
              | refine wpList_slice rfl 23 1 #[(0, _)] rfl #[(0, .agg (entA x))] (map_one _ _ _ rfl) _ _ (slice_ent x H20.out wr) ?_
              | (refine wpList_append_ents rfl _ _ rfl v3.heap.size (.slice oa m oc) zs m HZL.out rfl (HO.out.below ((Below.refl _ _).alloc (Nat.le_refl _) _)) wr.heap.size 0 1 1 [x] rfl (by decide) (one_20 H20.out) rfl (one_range (box_ent wr x _)) (m + 1) (zs ++ [x]) rfl rfl (by have := HZN.out; omega) (HB.out.alloc HB.out.size _).size ?_
                 rintro g2 gc2 w7 ho1 hg1 hgg hgl
                 have HO1 := Lib.hid ho1
                 have HB7 : Hid (Below v3.heap.size v3 w7) := (HB.out.alloc HB.out.size _).grown hg1 (HB.out.alloc HB.out.size _).size (fun g hg => (HO.out.lt hg).1)
                 clear ho1 hg1 hgg hgl))
            refine ⟨⟨k + 1, m + 1, some ⟨g2, 0, none⟩, gc2, zs ++ [x], by omega, congrArg (Value.int .i64) (wk _ rfl), rfl, by rw [List.length_append, HZL.out]; rfl, HO1.out, by rw [HTK.out]; exact HSUB.out.append (List.Sublist.refl _), HB7.out⟩, meas n k _ (wk _ rfl) hkl⟩
        · have hkb : ¬ (k : Int) < (bn : Int) := by omega
          go_wp2_with fail
          refine ⟨⟨k + 1, m, oa, oc, zs, by omega, congrArg (Value.int .i64) (wk _ rfl), rfl, HZL.out, HO.out, by rw [HTK.out]; exact HSUB.out.trans (List.sublist_append_left _ _), HB.out⟩, meas n k _ (wk _ rfl) hkl⟩
end Go.Proofs.YtnbkjdakofeeaaaDoor
