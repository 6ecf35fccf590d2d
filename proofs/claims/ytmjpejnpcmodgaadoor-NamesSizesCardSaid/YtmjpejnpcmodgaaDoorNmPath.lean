/- names.Path: the walk. -/
import Derived.Test.YtmjpejnpcmodgaaDoorNmName
namespace Go.Proofs.YtmjpejnpcmodgaaDoor
open Go.RowKit Plain
set_option linter.unusedVariables false
set_option linter.unusedSimpArgs false
theorem untold_len : ∀ l : List UInt8, (untoldL l).length ≤ l.length
  | [] => by simp [untoldL]
  | [c] => by simp [untoldL]
  | [c, d] => by simp only [untoldL]; split <;> simp
  | c :: d :: e :: r => by
    have h1 := untold_len (e :: r)
    have h2 := untold_len r
    have h3 := untold_len (d :: e :: r)
    simp only [untoldL]
    simp only [List.length_cons] at h1 h3
    split
    · simp only [List.length_cons]; omega
    · split
      · simp only [List.length_cons]; omega
      · simp only [List.length_cons]; omega
theorem trim_len (x : List UInt8) : (trimL x).length ≤ x.length := by
  unfold trimL Lib.trimSuffix
  split
  · rw [List.length_take]; omega
  · exact Nat.le_refl _
theorem join_tr_len : ∀ ps : List (List UInt8), (Lib.join (trL ps) [47]).length ≤ (Lib.join ps [47]).length
  | [] => Nat.le_refl _
  | [x] => Nat.le_refl _
  | x :: y :: r => by
    have ih := join_tr_len (y :: r)
    have hx := trim_len x
    obtain ⟨z, zs, hz⟩ : ∃ z zs, trL (y :: r) = z :: zs := by
      cases r with
      | nil => exact ⟨_, _, rfl⟩
      | cons u us => exact ⟨_, _, rfl⟩
    rw [trL]
    rw [hz] at ih ⊢
    rw [join_len2, join_len2]
    omega
theorem slice_toS (g n m : Nat) (h : m ≤ n) (W : World) : (Instr.sliceAt 29 (.slice (some ⟨g, 0, none⟩) n n) none (some (.int .i64 (m : Int))) none).run Tryd.prog W = .ok (.slice (some ⟨g, 0, none⟩) m n) W := by
  have hsz : ∀ W : World, (sizeOf (Tryd.prog.elem 29)).run Tryd.prog W = .ok 1 W := fun W => by kernel_rfl
  have h0 : ∀ x : Addr, x.add 0 = x := fun x => by unfold Addr.add; simp
  rw [run_sliceAt_slice W 29 _ _ _ _ (by kernel_rfl), run_slice_h W 29 (some ⟨g, 0, none⟩) n n (by kernel_rfl) .i64 (m : Int) (by omega) (by omega), hsz]
  simp [Result.andThen_ok, sliced, h0]
theorem str_neq (a b : ByteArray) (W : World) : (binOp .neq 9 (.string a) (.string b)).run Tryd.prog W = .ok (.bool (!(a.data.toList == b.data.toList))) W := by
  rw [ne_str a b _ rfl, Lib.toList_data, Lib.toList_data]
set_option maxRecDepth 100000 in
set_option maxHeartbeats 16000000 in
theorem path_any (s : ByteArray) (w : World) (hE : Env w) (hs : s.size ≤ 50000) :
    Calls Tryd.prog 7 #[.string s] w fun e w' => e = .returned (.tuple #[.string (txt (pathE s.data.toList).1), .int .i64 ((pathE s.data.toList).2 : Nat)]) ∧ Below w.heap.size w w' := by
  have HE := Lib.hid hE
  have HSB := Lib.hid hs
  have HC1 := Lib.hid (Tryd.strings_CutPrefix s ⟨#[100, 97, 116, 97, 47]⟩ w)
  obtain ⟨A, hA⟩ : ∃ A, Lib.trimPrefix s.data.toList frontL = A := ⟨_, rfl⟩
  obtain ⟨hp, hhp⟩ : ∃ b, Lib.hasPrefix s.data.toList frontL = b := ⟨_, rfl⟩
  have HAL : Hid (A.length ≤ 50000) := by
    show _ ≤ _
    rw [← hA]
    unfold Lib.trimPrefix
    have := Lib.size_eq s
    split
    · rw [List.length_drop]; omega
    · omega
  have hA' : (⟨(Lib.trimPrefix s.data.toList (⟨#[100, 97, 116, 97, 47]⟩ : ByteArray).data.toList).toArray⟩ : ByteArray) = txt A := by rw [← hA]; rfl
  have hhp' : Lib.hasPrefix s.data.toList (⟨#[100, 97, 116, 97, 47]⟩ : ByteArray).data.toList = hp := hhp
  rw [hA', hhp'] at HC1
  have HC2 := Lib.hid (Tryd.strings_CutSuffix (txt A) ⟨#[46, 105]⟩ w (by rw [txt_size]; have := HAL.out; omega))
  obtain ⟨M, hM⟩ : ∃ M, Lib.trimSuffix A [46, 105] = M := ⟨_, rfl⟩
  obtain ⟨hq, hhq⟩ : ∃ b, Lib.hasSuffix A [46, 105] = b := ⟨_, rfl⟩
  have HML : Hid (M.length ≤ 50000) := by
    show _ ≤ _
    rw [← hM]
    unfold Lib.trimSuffix
    have := HAL.out
    split
    · rw [List.length_take]; omega
    · omega
  have hM' : (⟨(Lib.trimSuffix (txt A).data.toList (⟨#[46, 105]⟩ : ByteArray).data.toList).toArray⟩ : ByteArray) = txt M := by rw [txt_list, ← hM]; rfl
  have hhq' : Lib.hasSuffix (txt A).data.toList (⟨#[46, 105]⟩ : ByteArray).data.toList = hq := by rw [txt_list]; exact hhq
  rw [hM', hhq'] at HC2
  have HMID : Hid (middleL s.data.toList = if hp = true then (if hq = true then some M else none) else none) := by
    show _ = _
    unfold middleL
    rw [hhp]
    cases hp with
    | false => rfl
    | true =>
      have e : s.data.toList.drop 5 = A := by rw [← hA]; unfold Lib.trimPrefix; rw [hhp]; rfl
      rw [if_pos rfl, if_pos rfl, e, hhq]
      cases hq with
      | false => rfl
      | true =>
        rw [if_pos rfl, if_pos rfl, ← hM]
        unfold Lib.trimSuffix
        rw [hhq]; rfl
  clear hA hhp hA' hhp' hM hhq hM' hhq' hE hs
  go_enter Tryd.func7, Tryd.ntmps7
  go_wp2_with fail
  refine HC1.out.mono ?_
  rintro e w1 ⟨rfl, rfl⟩
  rename World => w
  go_wp2_with fail
  refine HC2.out.mono ?_
  rintro e w2 ⟨rfl, rfl⟩
  rename World => w
  clear HC1 HC2
  cases hp
  · have HR : Hid (pathE s.data.toList = ([], 4)) := by show _ = _; unfold pathE; rw [HMID.out]; rfl
    go_wp2_with fail
    go_ret2
    rw [HR.out]
    exact ⟨rfl, Below.refl _ _⟩
  cases hq
  · have HR : Hid (pathE s.data.toList = ([], 4)) := by show _ = _; unfold pathE; rw [HMID.out]; rfl
    go_wp2_with fail
    go_ret2
    rw [HR.out]
    exact ⟨rfl, Below.refl _ _⟩
  have HPE : Hid (pathE s.data.toList = if nameE (pathOf M) = (s.data.toList, 0) then (pathOf M, 0) else ([], 4)) := by show _ = _; unfold pathE; rw [HMID.out]; rfl
  clear HMID
  go_wp2_with fail
  refine (untold_any M _ (by have := HML.out; omega)).mono ?_
  rintro e w1 ⟨rfl, hb⟩
  have HB1 := Lib.hid hb
  clear hb
  have HUL : Hid ((untoldL M).length ≤ 50000) := by have := untold_len M; have := HML.out; show _ ≤ _; omega
  have HPO : Hid (pathOf M = Lib.join (trL (partsL (untoldL M))) [47]) := rfl
  obtain ⟨U, hU⟩ : ∃ U, untoldL M = U := ⟨_, rfl⟩
  rw [hU] at HUL HPO ⊢
  obtain ⟨mx, hmx⟩ := (HE.out.below HB1.out).most
  have HSP := Lib.hid (Tryd.strings_Split (txt U) ⟨#[47]⟩ mx w1 (by rw [txt_size]; have := HUL.out; omega) hmx (by decide))
  have HSR := Lib.hid (split_row (txt U) w w1 HB1.out)
  have HLEN := Lib.hid (split_len (txt U))
  rw [txt_list] at HSR HLEN
  clear hU hmx
  go_wp2_with fail
  refine HSP.out.mono ?_
  rintro e w2 ⟨rfl, hw2⟩
  rw [← hw2] at HSR
  rw [HLEN.out]
  obtain ⟨ps, hps⟩ : ∃ ps, partsL U = ps := ⟨_, rfl⟩
  have HPS := Lib.hid hps
  have HNB0 : Hid (ps.length ≤ 50001) := by
    show _ ≤ _
    have := parts_count U
    have h1 := List.count_le_length (a := (47 : UInt8)) (l := U)
    have := HUL.out
    rw [← hps]
    omega
  have HJP : Hid (Lib.join ps [47] = U) := by show _ = _; rw [← hps]; exact join_parts U
  have HPN : Hid (ps ≠ []) := by rw [← hps]; exact partsL_ne U
  rw [hps] at HSR HPO ⊢
  obtain ⟨n, hn⟩ : ∃ n, ps.length = n := ⟨_, rfl⟩
  have HN := Lib.hid hn
  have HNB : Hid (n ≤ 50001) := by rw [← hn]; exact HNB0.out
  obtain ⟨n1, hn1⟩ : ∃ k, k + 1 = n := ⟨n - 1, by have := List.length_pos_iff.2 HPN.out; omega⟩
  have HN1 := Lib.hid hn1
  obtain ⟨g, hg⟩ : ∃ g, w1.heap.size = g := ⟨_, rfl⟩
  rw [hg] at HSR ⊢
  rw [hn]
  have hsub : wrap64 ((n : Int) - 1) = (n1 : Int) := by rw [show ((n : Int) - 1) = (n1 : Int) by omega]; exact IntWalk.wrap64_in _ (by have := HNB.out; omega)
  have hsl := fun W => slice_toS g n n1 (by omega) W
  have HTL : Hid ((trL ps).length = ps.length) := trL_length ps
  clear hn hn1 hg hw2 hps HSP HLEN HNB0
  go_wp2_with fail
  clear hsub hsl
  go_loopw [37] (fun i wr => ∃ k : Nat, k ≤ n1 ∧ i = .int .i64 (k : Int) ∧ SRow w g (mixL (trL ps) ps k) wr) (fun i _ => n1 - (intOf i).toNat)
  case atStart => exact ⟨0, Nat.zero_le _, rfl, HSR.out⟩
  case round =>
    rename World => v
    obtain ⟨k, hk, rfl, hsr⟩ := hrel
    have HSv := Lib.hid hsr
    have WK := Lib.hid (next_int k (by have := HNB.out; have := HN1.out; omega))
    clear hsr HSR
    by_cases hkn : k < n1
    · have hki : (k : Int) < (n1 : Int) := by omega
      have hki2 : (k : Int) < (n : Int) := by have := HN1.out; omega
      have HKN := Lib.hid hkn
      have HKN2 : Hid (k < ps.length) := by have := HN1.out; have := HN.out; show _ < _; omega
      obtain ⟨x, hx⟩ : ∃ x, ps[k]? = some x := ⟨_, List.getElem?_eq_getElem HKN2.out⟩
      have HCU : Hid ((mixL (trL ps) ps k)[k]? = some x) := by show _ = _; rw [mixL_at HTL.out HKN2.out, hx]
      have hcx := HSv.out.cell HCU.out
      have HNEW : Hid ((mixL (trL ps) ps k).set k (trimL x) = mixL (trL ps) ps (k + 1)) := mixL_set HTL.out HKN2.out (by rw [trL_at hx, if_pos (by have := HN1.out; have := HN.out; have := HKN.out; omega)])
      have HXL : Hid (x.length ≤ 50000) := by
        have h1 := HPS.out
        have h2 := parts_len U x (by rw [h1]; exact List.mem_of_getElem? hx)
        have := HUL.out
        show _ ≤ _
        omega
      have HTR := Lib.hid (Tryd.strings_TrimSuffix (txt x) ⟨#[46, 104, 103]⟩ v (by rw [txt_size]; have := HXL.out; omega))
      have htr : (⟨(Lib.trimSuffix (txt x).data.toList (⟨#[46, 104, 103]⟩ : ByteArray).data.toList).toArray⟩ : ByteArray) = txt (trimL x) := by rw [txt_list]; rfl
      rw [htr] at HTR
      have hfo := frozen_of_row v g k _ _ HSv.out.row
      have HS6 := Lib.hid (HSv.out.set k (trimL x))
      rw [HNEW.out] at HS6
      clear hx hkn hk htr
      go_wp2_with fail
      refine HTR.out.mono ?_
      rintro e w5 ⟨rfl, hw5⟩
      subst hw5
      go_wp2_with fail
      exact ⟨⟨k + 1, HKN.out, by first | rw [WK.out _ rfl] | rfl, HS6.out⟩, by have := HKN.out; (first | rw [WK.out _ rfl] | skip); simp [intOf]; omega⟩
    · have hki : ¬ (k : Int) < (n1 : Int) := by omega
      have hkn' : k = n1 := by omega
      obtain ⟨x, hx⟩ : ∃ x, ps[n1]? = some x := ⟨_, List.getElem?_eq_getElem (by have := HN1.out; have := HN.out; omega)⟩
      rw [hkn', mixL_end HTL.out (by have := HN1.out; have := HN.out; omega) hx (by rw [trL_at hx, if_neg (by have := HN1.out; have := HN.out; omega)])] at HSv
      have HJB : Hid ((Lib.join (trL ps) [47]).length ≤ 50000) := by
        have h1 := join_tr_len ps
        rw [HJP.out] at h1
        have := HUL.out
        show _ ≤ _
        omega
      have HJ := Lib.hid (join_row (trL ps) [47] w v g n HSv.out (by rw [HTL.out]; exact HN.out) (by have := HNB.out; omega) (by have := HJB.out; omega))
      rw [← HPO.out] at HJ HJB
      have hJE : txt [47] = (⟨#[47]⟩ : ByteArray) := rfl
      rw [hJE] at HJ
      obtain ⟨P, hP⟩ : ∃ P, pathOf M = P := ⟨_, rfl⟩
      rw [hP] at HJ HJB HPE
      clear hkn' hkn hk hx hJE hP
      go_wp2_with fail
      refine HJ.out.mono ?_
      rintro e v2 ⟨rfl, hb⟩
      have HB2 := Lib.hid ((HSv.out.below hb).bel)
      clear hb HJ
      go_wp2_with fail
      refine (name_any (txt P) v2 (HE.out.below HB2.out) (by rw [txt_size]; have := HJB.out; omega)).mono ?_
      rintro e v3 ⟨rfl, hb⟩
      have HB3 := Lib.hid (HB2.out.trans (hb.mono HB2.out.size))
      clear hb
      rw [txt_list]
      obtain ⟨G, hG⟩ : ∃ G, (nameE P).1 = G := ⟨_, rfl⟩
      obtain ⟨z, hz⟩ : ∃ z, (nameE P).2 = z := ⟨_, rfl⟩
      rw [hG, hz]
      have HNM : Hid (nameE P = (G, z)) := by show _ = _; rw [← hG, ← hz]
      clear hG hz
      by_cases hz0 : z = 0
      · subst hz0
        rw [show ((0 : Nat) : Int) = 0 from rfl]
        cases heq : G == s.data.toList
        · have HNE : Hid (∀ W, (binOp .neq 9 (.string (txt G)) (.string s)).run Tryd.prog W = .ok (.bool true) W) := fun W => by rw [str_neq, txt_list, heq]; rfl
          have HR : Hid (pathE s.data.toList = ([], 4)) := by
            show _ = _
            rw [HPE.out, HNM.out, if_neg]
            intro h
            have h1 : G = s.data.toList := congrArg Prod.fst h
            rw [h1] at heq
            simp at heq
          clear heq
          go_wp2_with (first
            | refine wpList_eql (by rfl) .neq 9 _ _ _ rfl (.string (txt G)) (.string s) rfl rfl (.bool true) (guard_ne _ _ _ _) HNE.out ?_)
          go_ret2
          rw [HR.out]
          exact ⟨rfl, HB3.out⟩
        · have HNE : Hid (∀ W, (binOp .neq 9 (.string (txt G)) (.string s)).run Tryd.prog W = .ok (.bool false) W) := fun W => by rw [str_neq, txt_list, heq]; rfl
          have HR : Hid (pathE s.data.toList = (P, 0)) := by
            show _ = _
            rw [HPE.out, HNM.out, eq_of_beq heq, if_pos rfl]
          clear heq
          go_wp2_with (first
            | refine wpList_eql (by rfl) .neq 9 _ _ _ rfl (.string (txt G)) (.string s) rfl rfl (.bool false) (guard_ne _ _ _ _) HNE.out ?_)
          go_ret2
          rw [HR.out]
          exact ⟨rfl, HB3.out⟩
      · have HR : Hid (pathE s.data.toList = ([], 4)) := by
          show _ = _
          rw [HPE.out, HNM.out, if_neg]
          intro h
          exact hz0 (congrArg Prod.snd h)
        have hzi : ((z : Int) != 0) = true := bne_iff_ne.2 (by omega)
        have hzi2 : ¬ (z : Int) = 0 := by omega
        clear hz0
        go_wp2_with fail
        go_ret2
        rw [HR.out]
        exact ⟨rfl, HB3.out⟩
end Go.Proofs.YtmjpejnpcmodgaaDoor
