/- names.Name: the walk. -/
import Derived.Test.YtmjpejnpcmodgaaDoorNmUntold
namespace Go.Proofs.YtmjpejnpcmodgaaDoor
open Go.RowKit Plain
set_option linter.unusedVariables false
set_option linter.unusedSimpArgs false
theorem hgL_at : ∀ {ps : List (List UInt8)} {k : Nat} {x : List UInt8}, ps[k]? = some x → (hgL ps)[k]? = some (if k + 1 < ps.length then hg1 x else x)
  | [], k, x, h => by simp at h
  | [y], 0, x, h => by
    have : y = x := by simpa using h
    subst this
    rw [hgL, if_neg (by simp)]; rfl
  | [y], k + 1, x, h => by simp at h
  | y :: z :: r, 0, x, h => by
    have : y = x := by simpa using h
    subst this
    rw [hgL, if_pos (by simp)]; rfl
  | y :: z :: r, k + 1, x, h => by
    have ih := hgL_at (ps := z :: r) (k := k) (x := x) (by simpa using h)
    rw [hgL, List.getElem?_cons_succ, ih]
    congr 1
    simp only [List.length_cons]
    split <;> split <;> first | rfl | omega
theorem trL_at : ∀ {ps : List (List UInt8)} {k : Nat} {x : List UInt8}, ps[k]? = some x → (trL ps)[k]? = some (if k + 1 < ps.length then trimL x else x)
  | [], k, x, h => by simp at h
  | [y], 0, x, h => by
    have : y = x := by simpa using h
    subst this
    rw [trL, if_neg (by simp)]; rfl
  | [y], k + 1, x, h => by simp at h
  | y :: z :: r, 0, x, h => by
    have : y = x := by simpa using h
    subst this
    rw [trL, if_pos (by simp)]; rfl
  | y :: z :: r, k + 1, x, h => by
    have ih := trL_at (ps := z :: r) (k := k) (x := x) (by simpa using h)
    rw [trL, List.getElem?_cons_succ, ih]
    congr 1
    simp only [List.length_cons]
    split <;> split <;> first | rfl | omega
theorem trL_length : ∀ l : List (List UInt8), (trL l).length = l.length
  | [] => rfl
  | [x] => rfl
  | x :: y :: r => by rw [trL, List.length_cons, trL_length (y :: r)]; rfl
/-- The first k of new ones, then the old ones. -/
def mixL (new old : List (List UInt8)) (k : Nat) : List (List UInt8) := new.take k ++ old.drop k
theorem mixL_zero (new old : List (List UInt8)) : mixL new old 0 = old := rfl
theorem mixL_len {new old : List (List UInt8)} (h : new.length = old.length) (k : Nat) (hk : k ≤ old.length) : (mixL new old k).length = old.length := by
  unfold mixL
  rw [List.length_append, List.length_take, List.length_drop]; omega
theorem mixL_at {new old : List (List UInt8)} (h : new.length = old.length) {k : Nat} (hk : k < old.length) : (mixL new old k)[k]? = old[k]? := by
  unfold mixL
  have e : (new.take k).length = k := by rw [List.length_take]; omega
  rw [List.getElem?_append_right (by omega), e, Nat.sub_self, List.getElem?_drop, Nat.add_zero]
theorem mixL_set {new old : List (List UInt8)} (h : new.length = old.length) {k : Nat} {y : List UInt8} (hk : k < old.length) (hy : new[k]? = some y) : (mixL new old k).set k y = mixL new old (k + 1) := by
  unfold mixL
  have e : (new.take k).length = k := by rw [List.length_take]; omega
  rw [List.set_append_right _ _ (by omega), e, Nat.sub_self, List.take_add_one, hy]
  simp
  rw [List.drop_eq_getElem_cons hk, List.set_cons_zero]
theorem mixL_all {new old : List (List UInt8)} (h : new.length = old.length) : mixL new old old.length = new := by
  unfold mixL
  rw [List.drop_length, List.append_nil, ← h, List.take_length]
theorem mixL_end {new old : List (List UInt8)} (h : new.length = old.length) {k : Nat} (hk : k + 1 = old.length) {x : List UInt8} (h1 : old[k]? = some x) (h2 : new[k]? = some x) : mixL new old k = new := by
  have e := mixL_set h (k := k) (y := x) (by omega) h2
  have e2 : (mixL new old k).set k x = mixL new old k := by
    apply List.ext_getElem?
    intro i
    rw [List.getElem?_set]
    by_cases hi : k = i
    · subst hi
      rw [if_pos rfl, mixL_at h (by omega), h1]
      rw [if_pos (by rw [mixL_len h k (by omega)]; omega)]
    · rw [if_neg hi]
  rw [e2, hk, mixL_all h] at e
  exact e
theorem parts_len : ∀ (l : List UInt8), ∀ x ∈ partsL l, x.length ≤ l.length
  | [], x, hx => by simp [partsL] at hx; subst hx; simp
  | c :: l, x, hx => by
    have ih := parts_len l
    by_cases hc : c = 47
    · subst hc
      rw [partsL_slash] at hx
      rcases List.mem_cons.1 hx with rfl | hx
      · simp
      · have := ih x hx; rw [List.length_cons]; omega
    · rw [partsL_other c l hc] at hx
      obtain ⟨y, ys, hy⟩ : ∃ y ys, partsL l = y :: ys := by
        cases h : partsL l with
        | nil => exact absurd h (partsL_ne l)
        | cons y ys => exact ⟨y, ys, rfl⟩
      rw [hy] at hx ih
      rcases List.mem_cons.1 hx with rfl | hx
      · have := ih y (by simp)
        show (c :: y).length ≤ _
        rw [List.length_cons, List.length_cons]; omega
      · have := ih x (List.mem_cons_of_mem _ hx)
        rw [List.length_cons]; omega
theorem right_facts {l : List UInt8} (h : rightL l = true) : l.length ≤ 255 ∧ ∀ x ∈ partsL l, x ≠ [] := by
  unfold rightL at h
  simp only [Bool.and_eq_true, decide_eq_true_eq, Bool.not_eq_true'] at h
  refine ⟨h.1.1, fun x hx e => ?_⟩
  have : (partsL l).any badPart = true := List.any_eq_true.2 ⟨x, hx, by rw [e]; rfl⟩
  rw [h.2] at this
  cases this
/-- What strings.Split leaves: a row of the parts. -/
theorem split_row (s : ByteArray) (w W : World) (hb : Below w.heap.size w W) : SRow w W.heap.size (partsL s.data.toList) (W.alloc (.cells ((Lib.splitB ⟨#[47]⟩ 0 (Lib.countB s ⟨#[47]⟩) s).map Value.string).toArray 9)) := by
  refine ⟨?_, hb.alloc hb.size _, hb.size⟩
  have e : ((Lib.splitB ⟨#[47]⟩ 0 (Lib.countB s ⟨#[47]⟩) s).map Value.string).toArray = rowS (partsL s.data.toList) := by
    unfold rowS
    rw [← splitB_parts, List.map_map]
    congr 1
  rw [heap_alloc_new, e]
theorem split_len (s : ByteArray) : Lib.countB s ⟨#[47]⟩ + 1 = (partsL s.data.toList).length := by
  have h1 := Lib.splitB_all ⟨#[47]⟩ (by decide) 0 (Lib.countB s ⟨#[47]⟩) s rfl
  have h2 := congrArg List.length (splitB_parts s)
  rw [List.length_map] at h2
  omega
theorem load_str (s : ByteArray) : True := trivial
set_option maxRecDepth 100000 in
set_option maxHeartbeats 16000000 in
theorem name_any (s : ByteArray) (w : World) (hE : Env w) (hs : s.size ≤ 100000) :
    Calls Tryd.prog 5 #[.string s] w fun e w' => e = .returned (.tuple #[.string (txt (nameE s.data.toList).1), .int .i64 ((nameE s.data.toList).2 : Nat)]) ∧ Below w.heap.size w w' := by
  have HE := Lib.hid hE
  have HRG := Lib.hid (right_any s w hE)
  have HSB := Lib.hid hs
  clear hE hs
  go_enter Tryd.func5, Tryd.ntmps5
  go_wp2_with fail
  refine HRG.out.mono ?_
  rintro e w1 ⟨rfl, hb⟩
  have HB1 := Lib.hid hb
  clear hb HRG
  cases hr : rightL s.data.toList
  · have HN : Hid (nameE s.data.toList = ([], 1)) := by show _ = _; unfold nameE; rw [hr]; rfl
    clear hr
    go_wp2_with fail
    go_ret2
    rw [HN.out]
    exact ⟨rfl, HB1.out⟩
  obtain ⟨h255, hne⟩ := right_facts hr
  have HNE := Lib.hid hne
  have H255 := Lib.hid h255
  have HR := Lib.hid hr
  obtain ⟨mx, hmx⟩ := (HE.out.below HB1.out).most
  have HSP := Lib.hid (Tryd.strings_Split s ⟨#[47]⟩ mx w1 (by have := HSB.out; omega) hmx (by decide))
  have HSR := Lib.hid (split_row s w w1 HB1.out)
  have HLEN := Lib.hid (split_len s)
  clear hr h255 hne hmx
  go_wp2_with fail
  refine HSP.out.mono ?_
  rintro e w2 ⟨rfl, hw2⟩
  rw [← hw2] at HSR
  rw [HLEN.out]
  obtain ⟨n, hn⟩ : ∃ n, (partsL s.data.toList).length = n := ⟨_, rfl⟩
  have HN := Lib.hid hn
  have HNB : Hid (n ≤ 1000) := by
    show _ ≤ _
    have := parts_count s.data.toList
    have h1 := List.count_le_length (a := (47 : UInt8)) (l := s.data.toList)
    have := H255.out
    omega
  obtain ⟨n1, hn1⟩ : ∃ k, k + 1 = n := ⟨n - 1, by have := parts_count s.data.toList; omega⟩
  have HN1 := Lib.hid hn1
  obtain ⟨g, hg⟩ : ∃ g, w1.heap.size = g := ⟨_, rfl⟩
  rw [hg] at HSR ⊢
  rw [hn]
  have hsub : wrap64 ((n : Int) - 1) = (n1 : Int) := by rw [show ((n : Int) - 1) = (n1 : Int) by omega]; exact IntWalk.wrap64_in _ (by have := HNB.out; omega)
  have HHL : Hid (((hgL (partsL s.data.toList)).map toldL).length = (partsL s.data.toList).length) := by show _ = _; rw [List.length_map, hgL_length]
  clear hn hn1 hg hw2 HSP HLEN
  go_wp2_with fail
  clear hsub
  go_loopw [15] (fun i wr => ∃ k : Nat, k ≤ n ∧ i = .int .i64 (k : Int) ∧ SRow w g (mixL ((hgL (partsL s.data.toList)).map toldL) (partsL s.data.toList) k) wr) (fun i _ => n - (intOf i).toNat)
  case atStart => exact ⟨0, Nat.zero_le _, rfl, HSR.out⟩
  case round =>
    rename World => v
    obtain ⟨k, hk, rfl, hsr⟩ := hrel
    have HSv := Lib.hid hsr
    have WK := Lib.hid (next_int k (by have := HNB.out; omega))
    have hsub : wrap64 ((n : Int) - 1) = (n1 : Int) := by rw [show ((n : Int) - 1) = (n1 : Int) by have := HN1.out; omega]; exact IntWalk.wrap64_in _ (by have := HNB.out; have := HN1.out; omega)
    clear hsr HSR
    by_cases hkn : k < n
    · have hki : (k : Int) < (n : Int) := by omega
      have HKN := Lib.hid hkn
      obtain ⟨x, hx⟩ : ∃ x, (partsL s.data.toList)[k]? = some x := ⟨_, List.getElem?_eq_getElem (by rw [HN.out]; exact hkn)⟩
      have hmem := List.mem_of_getElem? hx
      have HXN : Hid ((txt x).size ≠ 0 ∧ (txt x).size ≤ 255) := by
        have h1 := HNE.out x hmem
        have h2 := parts_len s.data.toList x hmem
        have h3 := H255.out
        show _ ∧ _
        rw [txt_size]
        exact ⟨fun e => h1 (List.eq_nil_of_length_eq_zero e), by omega⟩
      have HCU : Hid ((mixL ((hgL (partsL s.data.toList)).map toldL) (partsL s.data.toList) k)[k]? = some x) := by show _ = _; rw [mixL_at HHL.out (by rw [HN.out]; exact hkn), hx]
      have hcx := HSv.out.cell HCU.out
      have HNEW : Hid (∀ y, (if k + 1 < n then hg1 x else x) = y → (mixL ((hgL (partsL s.data.toList)).map toldL) (partsL s.data.toList) k).set k (toldL y) = mixL ((hgL (partsL s.data.toList)).map toldL) (partsL s.data.toList) (k + 1)) := fun y hy => by
        refine mixL_set HHL.out (by rw [HN.out]; exact HKN.out) ?_
        rw [List.getElem?_map, hgL_at hx, HN.out, hy]; rfl
      clear hmem hx hkn hk
      by_cases hk1 : k < n1
      · have hk1i : (k : Int) < (n1 : Int) := by omega
        have hif : k + 1 < n := by have := HN1.out; omega
        have HIF := Lib.hid hif
        clear hk1 hif
        have HDB := Lib.hid (doubt_any (txt x) v (by have := HXN.out; omega))
        rw [txt_list] at HDB
        go_wp2_with fail
        clear hcx
        refine HDB.out.mono ?_
        rintro e v2 ⟨rfl, hb⟩
        have HSv := Lib.hid (HSv.out.below hb)
        clear hb HDB
        rename World => v
        cases hd : doubtL x
        · have HS3 := Lib.hid (HNEW.out x (by rw [if_pos HIF.out]; unfold hg1; rw [hd]; rfl))
          clear hd HNEW
          go_wp2_with fail
          refine (told_any (txt x) v (HE.out.below HSv.out.bel) HXN.out.1 (by have := HXN.out; omega) ).mono ?_
          rintro e w5 ⟨rfl, hb⟩
          have HS5 := Lib.hid (HSv.out.below hb)
          have hco := HS5.out.cell HCU.out
          have hfo := frozen_of_row w5 g k _ _ HS5.out.row
          have HS6 := Lib.hid (HS5.out.set k (toldL x))
          rw [HS3.out] at HS6
          rw [txt_list]
          clear hb
          go_wp2_with fail
          exact ⟨⟨k + 1, HKN.out, by first | rw [WK.out _ rfl] | rfl, HS6.out⟩, by have := HKN.out; (first | rw [WK.out _ rfl] | skip); simp [intOf]; omega⟩
        · have HS3 := Lib.hid (HNEW.out (x ++ [46, 104, 103]) (by rw [if_pos HIF.out]; unfold hg1; rw [hd]; rfl))
          have HA : Hid (∀ W, (binOp .add 9 (.string (txt x)) (.string ⟨#[46, 104, 103]⟩)).run Tryd.prog W = .ok (.string (txt (x ++ [46, 104, 103]))) W) := fun W => add_txt _ _ _ (by rw [txt_list]) (by have := HXN.out; show _ + 3 ≤ _; omega) W
          have HXL : Hid ((txt (x ++ [46, 104, 103])).size ≠ 0 ∧ (txt (x ++ [46, 104, 103])).size ≤ 1000) := by
            have := HXN.out
            rw [txt_size] at this
            show _ ∧ _
            rw [txt_size, List.length_append]
            simp only [List.length_cons, List.length_nil]
            omega
          clear hd HNEW
          go_wp2_with (first
            | refine wpList_eql (by rfl) .add 9 _ _ _ rfl (.string (txt x)) (.string ⟨#[46, 104, 103]⟩) rfl rfl (.string (txt (x ++ [46, 104, 103]))) (guard_addn _ _ _ _) HA.out ?_)
          refine (told_any (txt (x ++ [46, 104, 103])) v (HE.out.below HSv.out.bel) HXL.out.1 HXL.out.2 ).mono ?_
          rintro e w5 ⟨rfl, hb⟩
          have HS5 := Lib.hid (HSv.out.below hb)
          have hco := HS5.out.cell HCU.out
          have hfo := frozen_of_row w5 g k _ _ HS5.out.row
          have HS6 := Lib.hid (HS5.out.set k (toldL (x ++ [46, 104, 103])))
          rw [HS3.out] at HS6
          rw [txt_list]
          clear hb
          go_wp2_with fail
          exact ⟨⟨k + 1, HKN.out, by first | rw [WK.out _ rfl] | rfl, HS6.out⟩, by have := HKN.out; (first | rw [WK.out _ rfl] | skip); simp [intOf]; omega⟩
      · have hk1i : ¬ (k : Int) < (n1 : Int) := by omega
        have HS3 := Lib.hid (HNEW.out x (by rw [if_neg (by have := HN1.out; omega)]))
        clear hk1 HNEW
        go_wp2_with fail
        clear hcx
        refine (told_any (txt x) v (HE.out.below HSv.out.bel) HXN.out.1 (by have := HXN.out; omega) ).mono ?_
        rintro e w5 ⟨rfl, hb⟩
        have HS5 := Lib.hid (HSv.out.below hb)
        have hco := HS5.out.cell HCU.out
        have hfo := frozen_of_row w5 g k _ _ HS5.out.row
        have HS6 := Lib.hid (HS5.out.set k (toldL x))
        rw [HS3.out] at HS6
        rw [txt_list]
        clear hb
        go_wp2_with fail
        exact ⟨⟨k + 1, HKN.out, by first | rw [WK.out _ rfl] | rfl, HS6.out⟩, by have := HKN.out; (first | rw [WK.out _ rfl] | skip); simp [intOf]; omega⟩
    · have hki : ¬ (k : Int) < (n : Int) := by omega
      have hkn' : k = (partsL s.data.toList).length := by rw [HN.out]; omega
      rw [hkn', mixL_all HHL.out] at HSv
      have HJB : Hid ((Lib.join ((hgL (partsL s.data.toList)).map toldL) [47]).length ≤ 10000) := by
        have h1 := (join_sizes (partsL s.data.toList) (partsL_ne _)).1
        rw [join_parts, HN.out] at h1
        have := HNB.out
        have := H255.out
        show _ ≤ _
        omega
      have HJ := Lib.hid (join_row ((hgL (partsL s.data.toList)).map toldL) [47] w v g n HSv.out (by rw [HHL.out]; exact HN.out) (by have := HNB.out; omega) (by have := HJB.out; omega))
      obtain ⟨J, hJ⟩ : ∃ l, Lib.join ((hgL (partsL s.data.toList)).map toldL) [47] = l := ⟨_, rfl⟩
      rw [hJ] at HJ HJB
      have HA1 : Hid (∀ W, (binOp .add 9 (.string ⟨#[100, 97, 116, 97, 47]⟩) (.string (txt J))).run Tryd.prog W = .ok (.string (txt (frontL ++ J))) W) := fun W => add_txt _ _ _ (by rw [txt_list]; rfl) (by rw [txt_size]; have := HJB.out; show 5 + _ ≤ _; omega) W
      obtain ⟨J1, hJ1⟩ : ∃ l, frontL ++ J = l := ⟨_, rfl⟩
      have HJ1B : Hid (J1.length ≤ 10005) := by show _ ≤ _; rw [← hJ1, List.length_append, show frontL.length = 5 from rfl]; have := HJB.out; omega
      rw [hJ1] at HA1
      have HA2 : Hid (∀ W, (binOp .add 9 (.string (txt J1)) (.string ⟨#[46, 105]⟩)).run Tryd.prog W = .ok (.string (txt (J1 ++ [46, 105]))) W) := fun W => add_txt _ _ _ (by rw [txt_list]) (by rw [txt_size]; have := HJ1B.out; show _ + 2 ≤ _; omega) W
      have HNM : Hid (nameL s.data.toList = J1 ++ [46, 105]) := by show _ = _; rw [← hJ1, ← hJ]; rfl
      obtain ⟨M, hM⟩ : ∃ l, J1 ++ [46, 105] = l := ⟨_, rfl⟩
      rw [hM] at HA2 HNM
      obtain ⟨mn, hmn⟩ : ∃ m, M.length = m := ⟨_, rfl⟩
      have hms : (txt M).size = mn := by rw [txt_size]; exact hmn
      have HMN := Lib.hid hmn
      have hJE : (⟨#[47]⟩ : ByteArray) = txt [47] := rfl
      rw [← hJE] at HJ
      clear hkn' hkn hk hJ hJ1 hM hmn hJE
      go_wp2_with fail
      refine HJ.out.mono ?_
      rintro e v2 ⟨rfl, hb⟩
      have HB2 := Lib.hid ((HSv.out.below hb).bel)
      clear hb HJ
      by_cases h255 : 255 < mn
      · have hgt : (255 : Int) < (mn : Int) := by omega
        have HNR : Hid (nameE s.data.toList = ([], 2)) := by show _ = _; unfold nameE; rw [if_pos HR.out, HNM.out, if_neg (by rw [HMN.out]; omega)]
        clear h255
        go_wp2_with (first
          | refine wpList_eql (by rfl) .add 9 _ _ _ rfl (.string ⟨#[100, 97, 116, 97, 47]⟩) (.string (txt J)) rfl rfl (.string (txt J1)) (guard_addn _ _ _ _) HA1.out ?_
          | refine wpList_eql (by rfl) .add 9 _ _ _ rfl (.string (txt J1)) (.string ⟨#[46, 105]⟩) rfl rfl (.string (txt M)) (guard_addn _ _ _ _) HA2.out ?_)
        go_ret2
        rw [HNR.out]
        exact ⟨rfl, HB2.out⟩
      · have hgt : ¬ (255 : Int) < (mn : Int) := by omega
        have HNR : Hid (nameE s.data.toList = (M, 0)) := by show _ = _; unfold nameE; rw [if_pos HR.out, HNM.out, if_pos (by rw [HMN.out]; omega)]
        clear h255
        go_wp2_with (first
          | refine wpList_eql (by rfl) .add 9 _ _ _ rfl (.string ⟨#[100, 97, 116, 97, 47]⟩) (.string (txt J)) rfl rfl (.string (txt J1)) (guard_addn _ _ _ _) HA1.out ?_
          | refine wpList_eql (by rfl) .add 9 _ _ _ rfl (.string (txt J1)) (.string ⟨#[46, 105]⟩) rfl rfl (.string (txt M)) (guard_addn _ _ _ _) HA2.out ?_)
        go_ret2
        rw [HNR.out]
        exact ⟨rfl, HB2.out⟩
end Go.Proofs.YtmjpejnpcmodgaaDoor
