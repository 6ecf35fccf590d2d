/- The law NamesBack. -/
import Derived.Test.YtmjpejnpcmodgaaDoorNmKnown
namespace Go.Proofs.YtmjpejnpcmodgaaDoor
open Go.RowKit Plain
set_option linter.unusedVariables false
set_option linter.unusedSimpArgs false
theorem nameE_zero {p n : List UInt8} (h : nameE p = (n, 0)) : n = nameL p ∧ n.length ≤ 255 := by
  unfold nameE at h
  split at h
  · split at h
    · rename_i h1 h2
      have e : nameL p = n := congrArg Prod.fst h
      rw [← e]; exact ⟨rfl, h2⟩
    · have := congrArg Prod.snd h; simp at this
  · have := congrArg Prod.snd h; simp at this
set_option maxRecDepth 100000 in
set_option maxHeartbeats 16000000 in
theorem lawback_any (s0 s1 : ByteArray) (w : World) (hE : Env w) (h0 : s0.size ≤ maxLen) (h1 : s1.size ≤ maxLen) :
    Calls Tryd.prog 3 #[.string s0, .string s1] w fun e w' => e = .returned (.bool true) ∧ Below w.heap.size w w' := by
  have HE := Lib.hid hE
  obtain ⟨m0, hm0⟩ : ∃ m, min s0.size 300 = m := ⟨_, rfl⟩
  have hmin0 : min (s0.size : Int) 300 = (m0 : Int) := by omega
  have hsl0 := fun W => slice_front s0 m0 (by omega) (m0 : Int) rfl W
  obtain ⟨P, hP⟩ : ∃ P, s0.extract 0 m0 = P := ⟨_, rfl⟩
  have HPB : Hid (P.size ≤ 300) := by show _ ≤ _; rw [← hP, ByteArray.size_extract]; omega
  rw [hP] at hsl0
  clear hm0 hP
  obtain ⟨m1, hm1⟩ : ∃ m, min s1.size 300 = m := ⟨_, rfl⟩
  have hmin1 : min (s1.size : Int) 300 = (m1 : Int) := by omega
  have hsl1 := fun W => slice_front s1 m1 (by omega) (m1 : Int) rfl W
  obtain ⟨Q, hQ⟩ : ∃ P, s1.extract 0 m1 = P := ⟨_, rfl⟩
  have HQB : Hid (Q.size ≤ 300) := by show _ ≤ _; rw [← hQ, ByteArray.size_extract]; omega
  rw [hQ] at hsl1
  clear hm1 hQ
  clear hE h0 h1
  go_enter Tryd.func3, Tryd.ntmps3
  go_wp2_with fail
  refine wp_region_noPanic ?_
  refine wp_region_held_drew (S := fun _ => True) (by kernel_rfl) ?_ (fun hHeld => ?_)
  · exact True.intro
  refine wpAnyH_take (i := 0) (v := ?_) (by simp only [List.getElem?_toArray, List.getElem?_cons_zero]; rfl) (by kernel_rfl) (by kernel_rfl) (by kernel_rfl) (fun _ _ _ h => h) (Or.inl ⟨by rfl, ?_⟩) (by assumption) ?_
  rotate_left
  · intro W hSW
    go_simp
    try with_reducible rfl
  try simp only [Act.put, List.setIfInBounds_toArray, List.set_cons_zero, List.set_cons_succ]
  refine wpAnyH_take (i := 1) (v := ?_) (by simp only [List.getElem?_toArray, List.getElem?_cons_succ, List.getElem?_cons_zero]; rfl) (by kernel_rfl) (by kernel_rfl) (by kernel_rfl) (fun _ _ _ h => h) (Or.inl ⟨by rfl, ?_⟩) (by assumption) ?_
  rotate_left
  · intro W hSW
    go_simp
    try with_reducible rfl
  try simp only [Act.put, List.setIfInBounds_toArray, List.set_cons_zero, List.set_cons_succ]
  refine wpAnyH_take (i := 2) (v := ?_) (by simp only [List.getElem?_toArray, List.getElem?_cons_succ, List.getElem?_cons_zero]; rfl) (by kernel_rfl) (by kernel_rfl) (by kernel_rfl) (fun _ _ _ h => h) (Or.inl ⟨by rfl, ?_⟩) (by assumption) ?_
  rotate_left
  · intro W hSW
    go_simp
    try with_reducible rfl
  try simp only [Act.put, List.setIfInBounds_toArray, List.set_cons_zero, List.set_cons_succ]
  refine wpAnyH_take (i := 3) (v := ?_) (by simp only [List.getElem?_toArray, List.getElem?_cons_succ, List.getElem?_cons_zero]; rfl) (by kernel_rfl) (by kernel_rfl) (by kernel_rfl) (fun _ _ _ h => h) (Or.inl ⟨by rfl, ?_⟩) (by assumption) ?_
  rotate_left
  · intro W hSW
    go_simp
    try with_reducible rfl
  try simp only [Act.put, List.setIfInBounds_toArray, List.set_cons_zero, List.set_cons_succ]
  refine wpAnyH_take (i := 4) (v := ?_) (by simp only [List.getElem?_toArray, List.getElem?_cons_succ, List.getElem?_cons_zero]; rfl) (by kernel_rfl) (by kernel_rfl) (by kernel_rfl) (fun _ _ _ h => h) (Or.inl ⟨by rfl, ?_⟩) (by assumption) ?_
  rotate_left
  · intro W hSW
    go_simp
    try with_reducible rfl
  try simp only [Act.put, List.setIfInBounds_toArray, List.set_cons_zero, List.set_cons_succ]
  refine wpAnyH_take (i := 5) (v := ?_) (by simp only [List.getElem?_toArray, List.getElem?_cons_succ, List.getElem?_cons_zero]; rfl) (by kernel_rfl) (by kernel_rfl) (by kernel_rfl) (fun _ _ _ h => h) (Or.inl ⟨by rfl, ?_⟩) (by assumption) ?_
  rotate_left
  · intro W hSW
    go_simp
    try with_reducible rfl
  try simp only [Act.put, List.setIfInBounds_toArray, List.set_cons_zero, List.set_cons_succ]
  refine wpAnyH_take (i := 6) (v := ?_) (by simp only [List.getElem?_toArray, List.getElem?_cons_succ, List.getElem?_cons_zero]; rfl) (by kernel_rfl) (by kernel_rfl) (by kernel_rfl) (fun _ _ _ h => h) (Or.inl ⟨by rfl, ?_⟩) (by assumption) ?_
  rotate_left
  · intro W hSW
    go_simp
    try with_reducible rfl
  try simp only [Act.put, List.setIfInBounds_toArray, List.set_cons_zero, List.set_cons_succ]
  refine wpAnyH_take (i := 7) (v := ?_) (by simp only [List.getElem?_toArray, List.getElem?_cons_succ, List.getElem?_cons_zero]; rfl) (by kernel_rfl) (by kernel_rfl) (by kernel_rfl) (fun _ _ _ h => h) (Or.inl ⟨by rfl, ?_⟩) (by assumption) ?_
  rotate_left
  · intro W hSW
    go_simp
    try with_reducible rfl
  try simp only [Act.put, List.setIfInBounds_toArray, List.set_cons_zero, List.set_cons_succ]
  refine wpAnyH_take (i := 8) (v := ?_) (by simp only [List.getElem?_toArray, List.getElem?_cons_succ, List.getElem?_cons_zero]; rfl) (by kernel_rfl) (by kernel_rfl) (by kernel_rfl) (fun _ _ _ h => h) (Or.inl ⟨by rfl, ?_⟩) (by assumption) ?_
  rotate_left
  · intro W hSW
    go_simp
    try with_reducible rfl
  try simp only [Act.put, List.setIfInBounds_toArray, List.set_cons_zero, List.set_cons_succ]
  refine wpAnyH_take (i := 9) (v := ?_) (by simp only [List.getElem?_toArray, List.getElem?_cons_succ, List.getElem?_cons_zero]; rfl) (by kernel_rfl) (by kernel_rfl) (by kernel_rfl) (fun _ _ _ h => h) (Or.inl ⟨by rfl, ?_⟩) (by assumption) ?_
  rotate_left
  · intro W hSW
    go_simp
    try with_reducible rfl
  try simp only [Act.put, List.setIfInBounds_toArray, List.set_cons_zero, List.set_cons_succ]
  refine wpAnyH_take (i := 10) (v := ?_) (by simp only [List.getElem?_toArray, List.getElem?_cons_succ, List.getElem?_cons_zero]; rfl) (by kernel_rfl) (by kernel_rfl) (by kernel_rfl) (fun _ _ _ h => h) (Or.inl ⟨by rfl, ?_⟩) (by assumption) ?_
  rotate_left
  · intro W hSW
    go_simp
    try with_reducible rfl
  try simp only [Act.put, List.setIfInBounds_toArray, List.set_cons_zero, List.set_cons_succ]
  refine wpAnyH_take (i := 11) (v := ?_) (by simp only [List.getElem?_toArray, List.getElem?_cons_succ, List.getElem?_cons_zero]; rfl) (by kernel_rfl) (by kernel_rfl) (by kernel_rfl) (fun _ _ _ h => h) (Or.inl ⟨by rfl, ?_⟩) (by assumption) ?_
  rotate_left
  · intro W hSW
    go_simp
    try with_reducible rfl
  try simp only [Act.put, List.setIfInBounds_toArray, List.set_cons_zero, List.set_cons_succ]
  refine wpAnyH_done (by kernel_rfl) ?_ _
  refine NoPanic.normal ?_
  clear hHeld hmin0 hmin1 hsl0 hsl1
  obtain ⟨w0, hw0⟩ : ∃ W, w.drew = W := ⟨_, rfl⟩
  have HB0 : Hid (Below w.heap.size w w0) := by rw [← hw0]; exact (Below.refl _ _).drew
  try rw [hw0]
  clear hw0
  go_wp2_with fail
  refine (name_any P w0 (HE.out.below HB0.out) (by have := HPB.out; omega)).mono ?_
  rintro e w1 ⟨rfl, hb⟩
  have HB1 := Lib.hid (HB0.out.trans (hb.mono HB0.out.size))
  clear hb
  obtain ⟨n, hn⟩ : ∃ n, (nameE P.data.toList).1 = n := ⟨_, rfl⟩
  obtain ⟨z, hz⟩ : ∃ z, (nameE P.data.toList).2 = z := ⟨_, rfl⟩
  have HNP : Hid (nameE P.data.toList = (n, z)) := by show _ = _; rw [← hn, ← hz]
  rw [hn, hz]
  clear hn hz
  go_wp2_with fail
  refine (name_any Q w1 (HE.out.below HB1.out) (by have := HQB.out; omega)).mono ?_
  rintro e w2 ⟨rfl, hb⟩
  have HB2 := Lib.hid (HB1.out.trans (hb.mono HB1.out.size))
  clear hb
  obtain ⟨m, hm⟩ : ∃ n, (nameE Q.data.toList).1 = n := ⟨_, rfl⟩
  obtain ⟨y, hy⟩ : ∃ z, (nameE Q.data.toList).2 = z := ⟨_, rfl⟩
  have HNQ : Hid (nameE Q.data.toList = (m, y)) := by show _ = _; rw [← hm, ← hy]
  rw [hm, hy]
  clear hm hy
  by_cases hz0 : z = 0
  rotate_left
  · have e1 : ((z : Int) == 0) = false := beq_eq_false_iff_ne.2 (by omega)
    have e2 : ((z : Int) != 0) = true := bne_iff_ne.2 (by omega)
    have e3 : ¬ (z : Int) = 0 := by omega
    clear hz0
    go_wp2_with fail
    refine (known_any w2 (HE.out.below HB2.out)).mono ?_
    rintro e wk ⟨rfl, hb⟩
    have HBK := Lib.hid (HB2.out.trans (hb.mono HB2.out.size))
    clear hb
    go_wp2_with fail
    go_ret
    exact ⟨rfl, HBK.out⟩
  subst hz0
  rw [show ((0 : Nat) : Int) = 0 from rfl]
  obtain ⟨hnn, hn255⟩ := nameE_zero HNP.out
  have HOK : Hid (∀ b ∈ n, okB b = true) := by rw [hnn]; exact name_ok _
  obtain ⟨nl, hnl⟩ : ∃ k, n.length = k := ⟨_, rfl⟩
  have HNL := Lib.hid hnl
  have hns : (txt n).size = nl := by rw [txt_size]; exact hnl
  have HNS := Lib.hid hns
  have HNLB : Hid (nl ≤ 255) := by rw [← hnl]; exact hn255
  have HBACK := Lib.hid (path_back HNP.out)
  clear hnn hn255 hnl
  by_cases hy0 : y = 0
  rotate_left
  · have e1 : ((y : Int) == 0) = false := beq_eq_false_iff_ne.2 (by omega)
    have e3 : ¬ (y : Int) = 0 := by omega
    clear hy0
    go_wp2_with fail
    clear e1 e3
    go_loopw [9] (fun i wr => ∃ k : Nat, k ≤ nl ∧ i = .int .i64 (k : Int) ∧ wr = w2) (fun i _ => nl - (intOf i).toNat)
    case atStart => exact ⟨0, Nat.zero_le _, rfl, rfl⟩
    case round =>
      obtain ⟨k, hk, rfl, rfl⟩ := hrel
      rename World => w2
      have WK := Lib.hid (next_int k (by have := HNLB.out; omega))
      by_cases hkn : k < nl
      · have hki : (k : Int) < (nl : Int) := by omega
        have HKN := Lib.hid hkn
        have hix := fun W => index_text (txt n) k (by rw [HNS.out]; exact hkn) (k : Int) rfl W
        obtain ⟨c, hc⟩ : ∃ c, n[k]? = some c := ⟨_, List.getElem?_eq_getElem (by rw [HNL.out]; exact hkn)⟩
        rw [at8_txt, hc, Option.getD_some] at hix
        have hok := HOK.out c (List.mem_of_getElem? hc)
        unfold okB at hok
        simp only [Bool.and_eq_true, decide_eq_true_eq, Bool.not_eq_true', Bool.and_eq_false_iff, decide_eq_false_iff_not] at hok
        have g1 : ¬ (c.toNat : Int) < 32 := by omega
        have g2 : ¬ (126 : Int) < (c.toNat : Int) := by omega
        have g3 : (¬ (65 : Int) ≤ (c.toNat : Int)) ∨ ((65 : Int) ≤ (c.toNat : Int) ∧ ¬ (c.toNat : Int) ≤ 90) := by omega
        clear hok hc hkn hk
        generalize (c.toNat : Int) = ci at *
        rcases g3 with g3 | ⟨g3, g4⟩
        all_goals
          go_wp2_with fail
          exact ⟨⟨k + 1, HKN.out, by first | rw [WK.out _ rfl] | rfl, by first | rfl | trivial⟩, by have := HKN.out; (first | rw [WK.out _ rfl] | skip); simp [intOf]; omega⟩
      · have hki : ¬ (k : Int) < (nl : Int) := by omega
        have HPA := Lib.hid (path_any (txt n) w2 (HE.out.below HB2.out) (by rw [HNS.out]; have := HNLB.out; omega))
        rw [txt_list, HBACK.out] at HPA
        have HTP : Hid (txt P.data.toList = P) := txt_of P
        rw [HTP.out] at HPA
        clear hkn hk
        go_wp2_with fail
        refine HPA.out.mono ?_
        rintro e w3 ⟨rfl, hb⟩
        have HB3 := Lib.hid (HB2.out.trans (hb.mono HB2.out.size))
        clear hb HPA
        rw [show ((0 : Nat) : Int) = 0 from rfl]
        have HSE := Lib.hid (fun W => eq_self P W)
        go_wp2_with fail
        refine (known_any w3 (HE.out.below HB3.out)).mono ?_
        rintro e wk ⟨rfl, hb⟩
        have HBK := Lib.hid (HB3.out.trans (hb.mono HB3.out.size))
        clear hb
        go_wp2_with (first
          | refine wpList_eql (by rfl) .eql 9 _ _ _ rfl (.string P) (.string P) rfl rfl (.bool true) (guard_eq _ _ _ _) HSE.out ?_)
        go_ret
        exact ⟨rfl, HBK.out⟩
  subst hy0
  rw [show ((0 : Nat) : Int) = 0 from rfl]
  cases hb1 : n == m
  · have H1 : Hid (∀ W, (binOp .eql 9 (.string (txt n)) (.string (txt m))).run Tryd.prog W = .ok (.bool false) W) := fun W => by rw [str_eql, txt_list, txt_list, hb1]
    have hpq : (P.data.toList == Q.data.toList) = false := by
      rw [beq_eq_false_iff_ne]
      intro e
      have h1 := HNP.out
      rw [e, HNQ.out] at h1
      have h2 : m = n := congrArg Prod.fst h1
      rw [h2] at hb1
      simp at hb1
    have H2 : Hid (∀ W, (binOp .eql 9 (.string P) (.string Q)).run Tryd.prog W = .ok (.bool false) W) := fun W => by rw [str_eql, hpq]
    clear hb1 hpq
    go_wp2_with (first
      | refine wpList_eql (by rfl) .eql 9 _ _ _ rfl (.string (txt n)) (.string (txt m)) rfl rfl (.bool false) (guard_eq _ _ _ _) H1.out ?_
      | refine wpList_eql (by rfl) .eql 9 _ _ _ rfl (.string P) (.string Q) rfl rfl (.bool false) (guard_eq _ _ _ _) H2.out ?_)
    go_loopw [9] (fun i wr => ∃ k : Nat, k ≤ nl ∧ i = .int .i64 (k : Int) ∧ wr = w2) (fun i _ => nl - (intOf i).toNat)
    case atStart => exact ⟨0, Nat.zero_le _, rfl, rfl⟩
    case round =>
      obtain ⟨k, hk, rfl, rfl⟩ := hrel
      rename World => w2
      have WK := Lib.hid (next_int k (by have := HNLB.out; omega))
      by_cases hkn : k < nl
      · have hki : (k : Int) < (nl : Int) := by omega
        have HKN := Lib.hid hkn
        have hix := fun W => index_text (txt n) k (by rw [HNS.out]; exact hkn) (k : Int) rfl W
        obtain ⟨c, hc⟩ : ∃ c, n[k]? = some c := ⟨_, List.getElem?_eq_getElem (by rw [HNL.out]; exact hkn)⟩
        rw [at8_txt, hc, Option.getD_some] at hix
        have hok := HOK.out c (List.mem_of_getElem? hc)
        unfold okB at hok
        simp only [Bool.and_eq_true, decide_eq_true_eq, Bool.not_eq_true', Bool.and_eq_false_iff, decide_eq_false_iff_not] at hok
        have g1 : ¬ (c.toNat : Int) < 32 := by omega
        have g2 : ¬ (126 : Int) < (c.toNat : Int) := by omega
        have g3 : (¬ (65 : Int) ≤ (c.toNat : Int)) ∨ ((65 : Int) ≤ (c.toNat : Int) ∧ ¬ (c.toNat : Int) ≤ 90) := by omega
        clear hok hc hkn hk
        generalize (c.toNat : Int) = ci at *
        rcases g3 with g3 | ⟨g3, g4⟩
        all_goals
          go_wp2_with fail
          exact ⟨⟨k + 1, HKN.out, by first | rw [WK.out _ rfl] | rfl, by first | rfl | trivial⟩, by have := HKN.out; (first | rw [WK.out _ rfl] | skip); simp [intOf]; omega⟩
      · have hki : ¬ (k : Int) < (nl : Int) := by omega
        have HPA := Lib.hid (path_any (txt n) w2 (HE.out.below HB2.out) (by rw [HNS.out]; have := HNLB.out; omega))
        rw [txt_list, HBACK.out] at HPA
        have HTP : Hid (txt P.data.toList = P) := txt_of P
        rw [HTP.out] at HPA
        clear hkn hk
        go_wp2_with fail
        refine HPA.out.mono ?_
        rintro e w3 ⟨rfl, hb⟩
        have HB3 := Lib.hid (HB2.out.trans (hb.mono HB2.out.size))
        clear hb HPA
        rw [show ((0 : Nat) : Int) = 0 from rfl]
        have HSE := Lib.hid (fun W => eq_self P W)
        go_wp2_with fail
        refine (known_any w3 (HE.out.below HB3.out)).mono ?_
        rintro e wk ⟨rfl, hb⟩
        have HBK := Lib.hid (HB3.out.trans (hb.mono HB3.out.size))
        clear hb
        go_wp2_with (first
          | refine wpList_eql (by rfl) .eql 9 _ _ _ rfl (.string P) (.string P) rfl rfl (.bool true) (guard_eq _ _ _ _) HSE.out ?_)
        go_ret
        exact ⟨rfl, HBK.out⟩
  · have H1 : Hid (∀ W, (binOp .eql 9 (.string (txt n)) (.string (txt m))).run Tryd.prog W = .ok (.bool true) W) := fun W => by rw [str_eql, txt_list, txt_list, hb1]
    have hpq : (P.data.toList == Q.data.toList) = true := by
      have e := eq_of_beq hb1
      have h1 := HNQ.out
      rw [← e] at h1
      rw [name_inj HNP.out h1]
      simp
    have H2 : Hid (∀ W, (binOp .eql 9 (.string P) (.string Q)).run Tryd.prog W = .ok (.bool true) W) := fun W => by rw [str_eql, hpq]
    clear hb1 hpq
    go_wp2_with (first
      | refine wpList_eql (by rfl) .eql 9 _ _ _ rfl (.string (txt n)) (.string (txt m)) rfl rfl (.bool true) (guard_eq _ _ _ _) H1.out ?_
      | refine wpList_eql (by rfl) .eql 9 _ _ _ rfl (.string P) (.string Q) rfl rfl (.bool true) (guard_eq _ _ _ _) H2.out ?_)
    go_loopw [9] (fun i wr => ∃ k : Nat, k ≤ nl ∧ i = .int .i64 (k : Int) ∧ wr = w2) (fun i _ => nl - (intOf i).toNat)
    case atStart => exact ⟨0, Nat.zero_le _, rfl, rfl⟩
    case round =>
      obtain ⟨k, hk, rfl, rfl⟩ := hrel
      rename World => w2
      have WK := Lib.hid (next_int k (by have := HNLB.out; omega))
      by_cases hkn : k < nl
      · have hki : (k : Int) < (nl : Int) := by omega
        have HKN := Lib.hid hkn
        have hix := fun W => index_text (txt n) k (by rw [HNS.out]; exact hkn) (k : Int) rfl W
        obtain ⟨c, hc⟩ : ∃ c, n[k]? = some c := ⟨_, List.getElem?_eq_getElem (by rw [HNL.out]; exact hkn)⟩
        rw [at8_txt, hc, Option.getD_some] at hix
        have hok := HOK.out c (List.mem_of_getElem? hc)
        unfold okB at hok
        simp only [Bool.and_eq_true, decide_eq_true_eq, Bool.not_eq_true', Bool.and_eq_false_iff, decide_eq_false_iff_not] at hok
        have g1 : ¬ (c.toNat : Int) < 32 := by omega
        have g2 : ¬ (126 : Int) < (c.toNat : Int) := by omega
        have g3 : (¬ (65 : Int) ≤ (c.toNat : Int)) ∨ ((65 : Int) ≤ (c.toNat : Int) ∧ ¬ (c.toNat : Int) ≤ 90) := by omega
        clear hok hc hkn hk
        generalize (c.toNat : Int) = ci at *
        rcases g3 with g3 | ⟨g3, g4⟩
        all_goals
          go_wp2_with fail
          exact ⟨⟨k + 1, HKN.out, by first | rw [WK.out _ rfl] | rfl, by first | rfl | trivial⟩, by have := HKN.out; (first | rw [WK.out _ rfl] | skip); simp [intOf]; omega⟩
      · have hki : ¬ (k : Int) < (nl : Int) := by omega
        have HPA := Lib.hid (path_any (txt n) w2 (HE.out.below HB2.out) (by rw [HNS.out]; have := HNLB.out; omega))
        rw [txt_list, HBACK.out] at HPA
        have HTP : Hid (txt P.data.toList = P) := txt_of P
        rw [HTP.out] at HPA
        clear hkn hk
        go_wp2_with fail
        refine HPA.out.mono ?_
        rintro e w3 ⟨rfl, hb⟩
        have HB3 := Lib.hid (HB2.out.trans (hb.mono HB2.out.size))
        clear hb HPA
        rw [show ((0 : Nat) : Int) = 0 from rfl]
        have HSE := Lib.hid (fun W => eq_self P W)
        go_wp2_with fail
        refine (known_any w3 (HE.out.below HB3.out)).mono ?_
        rintro e wk ⟨rfl, hb⟩
        have HBK := Lib.hid (HB3.out.trans (hb.mono HB3.out.size))
        clear hb
        go_wp2_with (first
          | refine wpList_eql (by rfl) .eql 9 _ _ _ rfl (.string P) (.string P) rfl rfl (.bool true) (guard_eq _ _ _ _) HSE.out ?_)
        go_ret
        exact ⟨rfl, HBK.out⟩
end Go.Proofs.YtmjpejnpcmodgaaDoor
