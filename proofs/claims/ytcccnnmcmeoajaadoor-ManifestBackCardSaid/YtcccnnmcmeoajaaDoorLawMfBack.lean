/- ManifestBack: the walk. -/
import Derived.Test.YtcccnnmcmeoajaaDoorLawMfParses
namespace Go.Proofs.YtcccnnmcmeoajaaDoor
open Go.RowKit Plain
set_option linter.unusedVariables false
set_option linter.unusedSimpArgs false
theorem neq_self (s : ByteArray) (W : World) : (binOp .neq 9 (.string s) (.string s)).run Tryd.prog W = .ok (.bool false) W :=
  ne_str s s true (beq_self_eq_true _) W
set_option maxRecDepth 100000 in
set_option maxHeartbeats 32000000 in
theorem lawmfback_any (a : Option Addr) (c : Nat) (xs : List MF) (a1 : Option Addr) (len cap : Nat) (Z : List Int) (w : World) (hE : Env w) (h : FsAt w a xs) (hn : xs.length ≤ 9223372036854775807) (hg : ∀ x ∈ xs, GoodF x) (R0 : Bytes w a1 len Z) (hlc : len ≤ cap) :
    Calls Tryd.prog 5 #[.slice a xs.length c, .slice a1 len cap] w fun e w' => e = .returned (.bool true) ∧ Below w.heap.size w w' := by
  have hmin : min (len : Int) 3000 = ((min len 3000 : Nat) : Int) := by omega
  have R1 := R0.first (min len 3000)
  rw [show min len (min len 3000) = min len 3000 by omega] at R1
  obtain ⟨m, hm⟩ : ∃ m, min len 3000 = m := ⟨_, rfl⟩
  rw [hm] at hmin R1
  have HM3 : Hid (m ≤ 3000) := by show _ ≤ _; omega
  have hsl := fun W => slice_to a1 len cap m (by omega) W
  generalize Z.take m = T at *
  have HR := Lib.hid R1
  obtain ⟨LT, hLT⟩ : ∃ l, (strOfNums T).data.toList = l := ⟨_, rfl⟩
  have HLT := Lib.hid hLT
  have HLL : Hid (LT.length ≤ 3000) := by
    show _ ≤ _
    rw [← hLT, strOfNums_data, List.length_map, R1.1]
    exact HM3.out
  have HTR : Hid (∀ W, Below w.heap.size w W → (convert 26 9 (.slice a1 m cap)).run Tryd.prog W = .ok (.string (txt LT)) W) := fun W hW => by
    rw [← hLT, txt_of]; exact text_run W a1 m cap T (HR.out.below hW)
  clear R0 R1 hm hlc hLT
  have HMIN := Lib.hid hmin
  have HSL := Lib.hid hsl
  clear hmin hsl
  have HE := Lib.hid hE
  obtain ⟨ys, hys⟩ : ∃ ys, (xs.take 40).map fewF = ys := ⟨_, rfl⟩
  have HYG : Hid (∀ y ∈ ys, GoodF y) := fun y hy => by
    rw [← hys] at hy
    obtain ⟨x, hx, rfl⟩ := List.mem_map.1 hy
    exact hg x (List.mem_of_mem_take hx)
  have HFEW := Lib.hid (few_any a c xs w h hn)
  rw [hys] at HFEW
  obtain ⟨n, hyn⟩ : ∃ n, ys.length = n := ⟨_, rfl⟩
  have HN := Lib.hid hyn
  have HNB : Hid (n ≤ 40) := by
    show _ ≤ _
    rw [← hyn, ← hys, List.length_map, List.length_take]; omega
  obtain ⟨xn, hxn⟩ : ∃ n, xs.length = n := ⟨_, rfl⟩
  rw [hxn] at HFEW ⊢
  clear hys hyn hxn h hg hn hE
  go_enter Tryd.func5, Tryd.ntmps5
  go_wp2_with fail
  refine HFEW.out.mono ?_
  rintro e w1 ⟨⟨v, rfl, ho⟩, hb⟩
  have HW1 := Lib.hid hb
  obtain ⟨la, lc, rfl, hat, -, -⟩ := ho.at
  have HA1 := Lib.hid hat
  clear hat ho hb HFEW
  rw [HN.out]
  go_wp2_with fail
  refine (print_n n ys HN.out (by have := HNB.out; omega) la lc w1 HA1.out HYG.out (HE.out.below HW1.out)).mono ?_
  rintro e w2 ⟨hpo, hb⟩
  have HW2 := Lib.hid (HW1.out.trans (hb.mono HW1.out.size))
  have HA2 := Lib.hid (HA1.out.below hb)
  clear hb HA1 HW1
  cases hr : rightM ys
  · obtain rfl := hpo.no hr
    clear hr hpo
    have hmin := HMIN.out
    have hsl := HSL.out
    go_wp2_with fail
    clear hmin hsl
    refine (mfparse_any a1 m cap T w2 (HR.out.below HW2.out) (HE.out.below HW2.out) (by have := HM3.out; omega)).mono ?_
    rintro e z1 ⟨hpo, hb⟩
    rw [HLT.out] at hpo
    have HZ1 := Lib.hid (HW2.out.trans (hb.mono HW2.out.size))
    clear hb
    cases hq : readL LT with
    | none =>
      rw [hq] at hpo
      obtain rfl : e = _ := hpo
      clear hq
      go_wp2_with fail
      refine (known_any z1 (HE.out.below HZ1.out)).mono ?_
      rintro e z2 ⟨rfl, hb⟩
      have HZ2 := Lib.hid (HZ1.out.trans (hb.mono HZ1.out.size))
      clear hb
      go_wp2_with fail
      go_ret
      exact ⟨rfl, HZ2.out⟩
    | some qs =>
      rw [hq] at hpo
      obtain ⟨ja, jc, rfl, hol⟩ := hpo
      have HJ := Lib.hid hol.fs.1
      obtain ⟨qn, hqn⟩ : ∃ n, qs.length = n := ⟨_, rfl⟩
      have HQN := Lib.hid hqn
      obtain ⟨ht, hr, hgq, h42⟩ := read_text hq
      have HQB : Hid (qn ≤ 100000) := by
        show _ ≤ _
        have h2 := HLL.out
        omega
      have HT := Lib.hid ht
      have HRR := Lib.hid hr
      have HGQ := Lib.hid hgq
      rw [hqn]
      clear hq hol hqn ht hr hgq h42
      go_wp2_with fail
      refine (print_n qn qs HQN.out HQB.out ja jc z1 HJ.out HGQ.out (HE.out.below HZ1.out)).mono ?_
      rintro e z2 ⟨hpo, hb⟩
      obtain ⟨ka, kc, rfl, hbt⟩ := hpo.yes HRR.out
      rw [HT.out] at hbt
      rw [HT.out]
      have HZ2 := Lib.hid (HZ1.out.trans (hb.mono HZ1.out.size))
      have htx := HTR.out z2 HZ2.out
      have hty := text_run z2 ka _ kc _ hbt
      rw [str_nums] at hty
      clear hb hpo hbt
      generalize LT.length = ln at *
      go_wp2_with (first
        | refine wpList_eql (by rfl) .neq 9 _ _ _ rfl (.string (txt LT)) (.string (txt LT)) rfl rfl (.bool false) (guard_ne _ _ _ _) (neq_self (txt LT)) ?_)
      clear htx hty
      refine (known_any z2 (HE.out.below HZ2.out)).mono ?_
      rintro e z3 ⟨rfl, hb⟩
      have HZ3 := Lib.hid (HZ2.out.trans (hb.mono HZ2.out.size))
      clear hb
      go_wp2_with fail
      go_ret
      exact ⟨rfl, HZ3.out⟩
  · obtain ⟨ba, bc, rfl, hbt⟩ := hpo.yes hr
    have hrb := read_back HYG.out hr
    obtain ⟨TL, hTL⟩ : ∃ t, textF ys = t := ⟨_, rfl⟩
    have HTB : Hid (TL.length ≤ 12000) := by
      show _ ≤ _
      have h1 := textF_len ys (small_of hr) (fun x hx => (HYG.out x hx).1)
      rw [hTL] at h1
      have h2 := HN.out; have h3 := HNB.out
      omega
    rw [hTL] at hbt hrb ⊢
    have HBT := Lib.hid hbt
    have HRB := Lib.hid hrb
    obtain ⟨tl, htl⟩ : ∃ t, TL.length = t := ⟨_, rfl⟩
    rw [htl] at HBT HTB ⊢
    clear hr hpo hbt hrb hTL htl
    go_wp2_with fail
    refine (mfparse_any ba tl bc _ w2 HBT.out (HE.out.below HW2.out) (by have := HTB.out; omega)).mono ?_
    rintro e w3 ⟨hpo, hb⟩
    rw [str_nums, txt_list, HRB.out] at hpo
    obtain ⟨xa, xc, rfl, hox⟩ := hpo
    have HX3 := Lib.hid hox.fs.1
    have HW3 := Lib.hid (HW2.out.trans (hb.mono HW2.out.size))
    have HA3 := Lib.hid (HA2.out.below hb)
    rw [HN.out]
    clear hb hox HA2 HBT HRB HW2
    go_wp2_with fail
    refine (as_n n ys HN.out (by have := HNB.out; omega) xa xc w3 HX3.out).mono ?_
    rintro e w4 ⟨⟨v, rfl, ho⟩, hb⟩
    have HW4 := Lib.hid (HW3.out.trans (hb.mono HW3.out.size))
    have HA4 := Lib.hid (HA3.out.below hb)
    obtain ⟨ra, rc, rfl, hat, -, -⟩ := ho.at
    have HR4 := Lib.hid hat
    rw [HN.out]
    clear hat ho hb HA3 HW3 HX3
    go_wp2_with fail
    refine (as_n n ys HN.out (by have := HNB.out; omega) la lc w4 HA4.out).mono ?_
    rintro e w5 ⟨⟨v, rfl, ho⟩, hb⟩
    have HW5 := Lib.hid (HW4.out.trans (hb.mono HW4.out.size))
    have HR5 := Lib.hid (HR4.out.below hb)
    obtain ⟨ua, uc, rfl, hat, -, -⟩ := ho.at
    have HU5 := Lib.hid hat
    rw [HN.out]
    clear hat ho hb HA4 HW4 HR4
    go_wp2_with fail
    refine (same_n n ys HN.out (by have := HNB.out; omega) ra ua rc uc w5 HR5.out HU5.out).mono ?_
    rintro e w6 ⟨rfl, hb⟩
    have HW6 := Lib.hid (HW5.out.trans (hb.mono HW5.out.size))
    clear hb HW5 HR5 HU5
    have hmin := HMIN.out
    have hsl := HSL.out
    go_wp2_with fail
    clear hmin hsl
    refine (mfparse_any a1 m cap T w6 (HR.out.below HW6.out) (HE.out.below HW6.out) (by have := HM3.out; omega)).mono ?_
    rintro e z1 ⟨hpo, hb⟩
    rw [HLT.out] at hpo
    have HZ1 := Lib.hid (HW6.out.trans (hb.mono HW6.out.size))
    clear hb
    cases hq : readL LT with
    | none =>
      rw [hq] at hpo
      obtain rfl : e = _ := hpo
      clear hq
      go_wp2_with fail
      refine (known_any z1 (HE.out.below HZ1.out)).mono ?_
      rintro e z2 ⟨rfl, hb⟩
      have HZ2 := Lib.hid (HZ1.out.trans (hb.mono HZ1.out.size))
      clear hb
      go_wp2_with fail
      go_ret
      exact ⟨rfl, HZ2.out⟩
    | some qs =>
      rw [hq] at hpo
      obtain ⟨ja, jc, rfl, hol⟩ := hpo
      have HJ := Lib.hid hol.fs.1
      obtain ⟨qn, hqn⟩ : ∃ n, qs.length = n := ⟨_, rfl⟩
      have HQN := Lib.hid hqn
      obtain ⟨ht, hr, hgq, h42⟩ := read_text hq
      have HQB : Hid (qn ≤ 100000) := by
        show _ ≤ _
        have h2 := HLL.out
        omega
      have HT := Lib.hid ht
      have HRR := Lib.hid hr
      have HGQ := Lib.hid hgq
      rw [hqn]
      clear hq hol hqn ht hr hgq h42
      go_wp2_with fail
      refine (print_n qn qs HQN.out HQB.out ja jc z1 HJ.out HGQ.out (HE.out.below HZ1.out)).mono ?_
      rintro e z2 ⟨hpo, hb⟩
      obtain ⟨ka, kc, rfl, hbt⟩ := hpo.yes HRR.out
      rw [HT.out] at hbt
      rw [HT.out]
      have HZ2 := Lib.hid (HZ1.out.trans (hb.mono HZ1.out.size))
      have htx := HTR.out z2 HZ2.out
      have hty := text_run z2 ka _ kc _ hbt
      rw [str_nums] at hty
      clear hb hpo hbt
      generalize LT.length = ln at *
      go_wp2_with (first
        | refine wpList_eql (by rfl) .neq 9 _ _ _ rfl (.string (txt LT)) (.string (txt LT)) rfl rfl (.bool false) (guard_ne _ _ _ _) (neq_self (txt LT)) ?_)
      clear htx hty
      refine (known_any z2 (HE.out.below HZ2.out)).mono ?_
      rintro e z3 ⟨rfl, hb⟩
      have HZ3 := Lib.hid (HZ2.out.trans (hb.mono HZ2.out.size))
      clear hb
      go_wp2_with fail
      go_ret
      exact ⟨rfl, HZ3.out⟩
end Go.Proofs.YtcccnnmcmeoajaaDoor
