/- How a manifest's text is read, plainly: by the program, and by the document. -/
import Derived.Test.YtcbjadecocggjaaDoorMfPrint
import Derived.Test.YtcbjadecocggjaaDoorCutMath
namespace Go.Proofs.YtcbjadecocggjaaDoor
open Go.RowKit Plain
set_option linter.unusedVariables false
theorem at8_txt (l : List UInt8) (i : Nat) : at8 (txt l) i = (l[i]?.getD 0).toNat := by unfold at8; rw [txt_list]
theorem isHex_len {l : List UInt8} (h : isHex (txt l) = true) : l.length = 40 := by
  unfold isHex at h
  simp only [Bool.and_eq_true, decide_eq_true_eq] at h
  rw [← txt_size]; exact h.1
theorem isHex_not {l : List UInt8} (h : isHex (txt l) = true) {c : UInt8} (hc : nib c.toNat < 0) : c ∉ l := fun hm => by
  obtain ⟨j, hj, e⟩ := List.mem_iff_getElem.1 hm
  have h0 := isHex_at (txt l) h j (by rw [isHex_len h] at hj; exact hj)
  rw [at8_txt, List.getElem?_eq_getElem hj, Option.getD_some, e] at h0
  omega
theorem nib_10 : nib (10 : UInt8).toNat < 0 := by decide
theorem hex_back {ids : List Int} (h : ids.length = 20) (hb : ∀ x ∈ ids, 0 ≤ x ∧ x ≤ 255) : isHex (txt (hexOf ids)) = true ∧ parsed (txt (hexOf ids)) = ids := by
  have e : txt (hexOf ids) = strOfNums (hexN ids) := (hexN_text ids hb).symm
  rw [e]
  exact ⟨hex_good ids h hb, parsed_hex ids h hb⟩
/-! ### Reading -/
def readF (ok : List UInt8 → Bool) (is : List UInt8 → MF) (rs : List UInt8 → List UInt8) : Nat → List UInt8 → Option (List MF)
  | 0, _ => some []
  | n + 1, l => if l = [] then some [] else if ok l = true then (readF ok is rs n (rs l)).map (is l :: ·) else none
theorem readF_more {ok : List UInt8 → Bool} {is : List UInt8 → MF} {rs : List UInt8 → List UInt8} (hr : ∀ l, ok l = true → (rs l).length < l.length) : ∀ (n m : Nat) (l : List UInt8), l.length ≤ n → n ≤ m → readF ok is rs m l = readF ok is rs n l
  | 0, m, l, h, _ => by
    have : l = [] := List.eq_nil_of_length_eq_zero (by omega)
    subst this
    cases m with
    | zero => rfl
    | succ m => rfl
  | n + 1, 0, l, _, h => by omega
  | n + 1, m + 1, l, h, hm => by
    unfold readF
    by_cases hl : l = []
    · rw [if_pos hl, if_pos hl]
    · rw [if_neg hl, if_neg hl]
      by_cases ho : ok l = true
      · rw [if_pos ho, if_pos ho, readF_more hr n m (rs l) (by have := hr l ho; omega) (by omega)]
      · rw [if_neg ho, if_neg ho]
theorem readF_nil {ok : List UInt8 → Bool} {is : List UInt8 → MF} {rs : List UInt8 → List UInt8} : readF ok is rs ([] : List UInt8).length [] = some [] := rfl
theorem readF_bad {ok : List UInt8 → Bool} {is : List UInt8 → MF} {rs : List UInt8 → List UInt8} {l : List UInt8} (hl : l ≠ []) (h : ok l = false) : readF ok is rs l.length l = none := by
  obtain ⟨k, hk⟩ : ∃ k, l.length = k + 1 := ⟨l.length - 1, by have := List.length_pos_iff.2 hl; omega⟩
  rw [hk]
  unfold readF
  rw [if_neg hl, if_neg (by rw [h]; decide)]
theorem readF_step {ok : List UInt8 → Bool} {is : List UInt8 → MF} {rs : List UInt8 → List UInt8} (hr : ∀ l, ok l = true → (rs l).length < l.length) {l : List UInt8} (h : ok l = true) : readF ok is rs l.length l = (readF ok is rs (rs l).length (rs l)).map (is l :: ·) := by
  have h1 := hr l h
  obtain ⟨k, hk⟩ : ∃ k, l.length = k + 1 := ⟨l.length - 1, by omega⟩
  have hl : l ≠ [] := fun e => by rw [e] at hk; simp at hk
  rw [hk, readF, if_neg hl, if_pos h, readF_more hr (rs l).length k (rs l) (Nat.le_refl _) (by omega)]
theorem readF_all {ok : List UInt8 → Bool} {is : List UInt8 → MF} {rs : List UInt8 → List UInt8} {P : MF → Prop} (hp : ∀ l, ok l = true → P (is l)) : ∀ (n : Nat) (l : List UInt8) {xs : List MF}, readF ok is rs n l = some xs → ∀ x ∈ xs, P x
  | 0, l, xs, h => by
    obtain rfl : [] = xs := by simpa [readF] using h
    exact fun x hx => by cases hx
  | n + 1, l, xs, h => by
    unfold readF at h
    by_cases hl : l = []
    · rw [if_pos hl] at h
      obtain rfl : [] = xs := by simpa using h
      exact fun x hx => by cases hx
    · rw [if_neg hl] at h
      by_cases ho : ok l = true
      · rw [if_pos ho, Option.map_eq_some_iff] at h
        obtain ⟨ys, hy, rfl⟩ := h
        intro x hx
        rcases List.mem_cons.1 hx with rfl | hx
        · exact hp l ho
        · exact readF_all hp n _ hy x hx
      · rw [if_neg ho] at h; cases h
/-! ### The program's -/
def pathOf (l : List UInt8) : List UInt8 := (Lib.cut l [0]).1
def behind (l : List UInt8) : List UInt8 := (Lib.cut l [0]).2.1
def lineOf (l : List UInt8) : List UInt8 := (Lib.cut (behind l) [10]).1
def restOf (l : List UInt8) : List UInt8 := (Lib.cut (behind l) [10]).2.1
def fileOk (l : List UInt8) : Bool := (Lib.cut l [0]).2.2 && (Lib.cut (behind l) [10]).2.2 && decide (40 ≤ (lineOf l).length) && isHex (txt ((lineOf l).take 40))
def fileIs (l : List UInt8) : MF := ⟨txt (pathOf l), parsed (txt ((lineOf l).take 40)), txt ((lineOf l).drop 40)⟩
theorem file_text {l : List UInt8} (h : fileOk l = true) : l = pathOf l ++ 0 :: (lineOf l ++ 10 :: restOf l) ∧ (0 : UInt8) ∉ pathOf l ∧ (10 : UInt8) ∉ lineOf l := by
  unfold fileOk at h
  simp only [Bool.and_eq_true, decide_eq_true_eq] at h
  obtain ⟨⟨⟨h1, h2⟩, h3⟩, h4⟩ := h
  obtain ⟨e1, n1⟩ := cut_true h1
  obtain ⟨e2, n2⟩ := cut_true h2
  refine ⟨?_, n1, n2⟩
  unfold pathOf lineOf restOf
  rw [← e2]
  exact e1
theorem file_len {l : List UInt8} (h : fileOk l = true) : (restOf l).length + 42 ≤ l.length := by
  have e := congrArg List.length (file_text h).1
  unfold fileOk at h
  simp only [Bool.and_eq_true, decide_eq_true_eq] at h
  have := h.1.2
  simp only [List.length_append, List.length_cons] at e
  omega
theorem file_rest (l : List UInt8) (h : fileOk l = true) : (restOf l).length < l.length := by have := file_len h; omega
theorem file_line {l : List UInt8} (h : fileOk l = true) : lineF (fileIs l) ++ restOf l = l := by
  obtain ⟨e, -, -⟩ := file_text h
  unfold fileOk at h
  simp only [Bool.and_eq_true, decide_eq_true_eq] at h
  have h1 := hex_parsed _ h.2
  have h2 : hexOf (parsed (txt ((lineOf l).take 40))) = (lineOf l).take 40 := by
    have := congrArg (fun b => b.data.toList) h1
    simpa [txt] using this
  have h3 := List.take_append_drop 40 (lineOf l)
  conv => rhs; rw [e]
  unfold lineF fileIs
  simp only [txt_list]
  rw [h2]
  simp only [List.append_assoc, List.cons_append, List.nil_append]
  rw [← List.append_assoc ((lineOf l).take 40), h3]
theorem file_good (l : List UInt8) (h : fileOk l = true) : GoodF (fileIs l) := ⟨parsed_length _, parsed_bytes _⟩
def filesL (l : List UInt8) : Option (List MF) := readF fileOk fileIs restOf l.length l
theorem files_nil : filesL [] = some [] := rfl
theorem files_bad {l : List UInt8} (hl : l ≠ []) (h : fileOk l = false) : filesL l = none := readF_bad hl h
theorem files_step {l : List UInt8} (h : fileOk l = true) : filesL l = (filesL (restOf l)).map (fileIs l :: ·) := readF_step file_rest h
theorem files_good {l : List UInt8} {xs : List MF} (h : filesL l = some xs) : ∀ x ∈ xs, GoodF x := readF_all file_good _ _ h
theorem files_back : ∀ (n : Nat) (l : List UInt8) {xs : List MF}, l.length ≤ n → filesL l = some xs → textF xs = l ∧ 42 * xs.length ≤ l.length
  | n, l, xs, hn, h => by
    by_cases hl : l = []
    · subst hl
      rw [files_nil] at h
      obtain rfl : [] = xs := by simpa using h
      exact ⟨rfl, Nat.le_refl _⟩
    · cases ho : fileOk l
      · rw [files_bad hl ho] at h; cases h
      · have hlen := file_len ho
        match n, hn with
        | 0, hn => omega
        | n + 1, hn =>
          rw [files_step ho, Option.map_eq_some_iff] at h
          obtain ⟨ys, hy, rfl⟩ := h
          obtain ⟨h1, h2⟩ := files_back n (restOf l) (by omega) hy
          refine ⟨?_, by rw [List.length_cons]; omega⟩
          have e : textF (fileIs l :: ys) = lineF (fileIs l) ++ textF ys := by unfold textF; rw [List.flatMap_cons]
          rw [e, h1, file_line ho]
/-- What is written is read as it was. -/
theorem line_back {x : MF} (hg : GoodF x) (hp : (0 : UInt8) ∉ x.p.data.toList) (hf : (10 : UInt8) ∉ x.f.data.toList) (B : List UInt8) : fileOk (lineF x ++ B) = true ∧ fileIs (lineF x ++ B) = x ∧ restOf (lineF x ++ B) = B := by
  obtain ⟨b1, b2⟩ := hex_back hg.1 hg.2
  have l1 : (hexOf x.n).length = 40 := by rw [hexOf_length, hg.1]
  have e : lineF x ++ B = x.p.data.toList ++ 0 :: ((hexOf x.n ++ x.f.data.toList) ++ 10 :: B) := by unfold lineF; simp
  have c1 := cut_at x.p.data.toList ((hexOf x.n ++ x.f.data.toList) ++ 10 :: B) 0 hp
  rw [← e] at c1
  have c2 := cut_at (hexOf x.n ++ x.f.data.toList) B 10 (by
    rw [List.mem_append, not_or]
    exact ⟨isHex_not b1 nib_10, hf⟩)
  have hb : behind (lineF x ++ B) = (hexOf x.n ++ x.f.data.toList) ++ 10 :: B := by unfold behind; rw [c1]
  have hl : lineOf (lineF x ++ B) = hexOf x.n ++ x.f.data.toList := by unfold lineOf; rw [hb, c2]
  have ht : (hexOf x.n ++ x.f.data.toList).take 40 = hexOf x.n := by rw [← l1, List.take_left]
  have hd : (hexOf x.n ++ x.f.data.toList).drop 40 = x.f.data.toList := by rw [← l1, List.drop_left]
  refine ⟨?_, ?_, ?_⟩
  · unfold fileOk
    rw [hl, hb, c1, c2, ht, b1, decide_eq_true (by rw [List.length_append]; omega)]
    rfl
  · unfold fileIs pathOf
    rw [hl, c1, ht, hd, b2]
    simp only [txt_of]
  · unfold restOf
    rw [hb, c2]
theorem text_back : ∀ {xs : List MF}, (∀ x ∈ xs, GoodF x ∧ (0 : UInt8) ∉ x.p.data.toList ∧ (10 : UInt8) ∉ x.f.data.toList) → filesL (textF xs) = some xs
  | [], _ => rfl
  | x :: xs, h => by
    obtain ⟨h1, h2, h3⟩ := h x (List.mem_cons_self ..)
    obtain ⟨b1, b2, b3⟩ := line_back h1 h2 h3 (textF xs)
    have e : textF (x :: xs) = lineF x ++ textF xs := by unfold textF; rw [List.flatMap_cons]
    rw [e, files_step b1, b2, b3, text_back fun q hq => h q (List.mem_cons_of_mem _ hq)]
    rfl
/-! ### The document's -/
def rline (l : List UInt8) : List UInt8 := (Lib.cut l [10]).1
def rrest (l : List UInt8) : List UInt8 := (Lib.cut l [10]).2.1
def rpath (l : List UInt8) : List UInt8 := (Lib.cut (rline l) [0]).1
def rbehind (l : List UInt8) : List UInt8 := (Lib.cut (rline l) [0]).2.1
def refOk (l : List UInt8) : Bool := (Lib.cut l [10]).2.2 && (Lib.cut (rline l) [0]).2.2 && decide (40 ≤ (rbehind l).length) && isHex (txt ((rbehind l).take 40))
def refIs (l : List UInt8) : MF := ⟨txt (rpath l), parsed (txt ((rbehind l).take 40)), txt ((rbehind l).drop 40)⟩
theorem ref_file {l : List UInt8} (h : refOk l = true) : fileOk l = true ∧ fileIs l = refIs l ∧ restOf l = rrest l := by
  unfold refOk at h
  simp only [Bool.and_eq_true, decide_eq_true_eq] at h
  obtain ⟨⟨⟨h1, h2⟩, h3⟩, h4⟩ := h
  obtain ⟨e1, n1⟩ := cut_true h1
  obtain ⟨e2, n2⟩ := cut_true h2
  change l = rline l ++ 10 :: rrest l at e1
  change rline l = rpath l ++ 0 :: rbehind l at e2
  change (0 : UInt8) ∉ rpath l at n2
  have n3 : (10 : UInt8) ∉ rbehind l := fun hm => by
    refine n1 ?_
    show (10 : UInt8) ∈ rline l
    rw [e2]
    simp [hm]
  have e : l = rpath l ++ 0 :: (rbehind l ++ 10 :: rrest l) := by
    conv => lhs; rw [e1, e2]
    simp
  have c1 := cut_at (rpath l) (rbehind l ++ 10 :: rrest l) 0 n2
  rw [← e] at c1
  have c2 := cut_at (rbehind l) (rrest l) 10 n3
  have hb : behind l = rbehind l ++ 10 :: rrest l := by unfold behind; rw [c1]
  have hl : lineOf l = rbehind l := by unfold lineOf; rw [hb, c2]
  refine ⟨?_, ?_, ?_⟩
  · unfold fileOk
    rw [hl, hb, c1, c2, h4, decide_eq_true h3]
    rfl
  · unfold fileIs refIs pathOf
    rw [hl, c1]
  · unfold restOf
    rw [hb, c2]
theorem file_ref {l : List UInt8} (h : fileOk l = true) (hn : (10 : UInt8) ∉ pathOf l) : refOk l = true := by
  obtain ⟨e, n1, n2⟩ := file_text h
  unfold fileOk at h
  simp only [Bool.and_eq_true, decide_eq_true_eq] at h
  obtain ⟨⟨-, h3⟩, h4⟩ := h
  have e2 : l = (pathOf l ++ 0 :: lineOf l) ++ 10 :: restOf l := by
    conv => lhs; rw [e]
    simp
  have c1 := cut_at (pathOf l ++ 0 :: lineOf l) (restOf l) 10 (by
    simp only [List.mem_append, List.mem_cons, not_or]
    exact ⟨hn, by decide, n2⟩)
  rw [← e2] at c1
  have c2 := cut_at (pathOf l) (lineOf l) 0 n1
  have hl : rline l = pathOf l ++ 0 :: lineOf l := by unfold rline; rw [c1]
  have hb : rbehind l = lineOf l := by unfold rbehind; rw [hl, c2]
  unfold refOk
  rw [hb, hl, c1, c2, h4, decide_eq_true h3]
  rfl
theorem ref_rest (l : List UInt8) (h : refOk l = true) : (rrest l).length < l.length := by
  obtain ⟨h1, -, h3⟩ := ref_file h
  rw [← h3]
  exact file_rest l h1
def refL (l : List UInt8) : Option (List MF) := readF refOk refIs rrest l.length l
theorem ref_nil : refL [] = some [] := rfl
theorem ref_bad {l : List UInt8} (hl : l ≠ []) (h : refOk l = false) : refL l = none := readF_bad hl h
theorem ref_step {l : List UInt8} (h : refOk l = true) : refL l = (refL (rrest l)).map (refIs l :: ·) := readF_step ref_rest h
theorem ref_good {l : List UInt8} {xs : List MF} (h : refL l = some xs) : ∀ x ∈ xs, GoodF x := readF_all (fun l h => by rw [← (ref_file h).2.1]; exact file_good l (ref_file h).1) _ _ h
theorem ref_files : ∀ (n : Nat) (l : List UInt8) {xs : List MF}, l.length ≤ n → refL l = some xs → filesL l = some xs
  | n, l, xs, hn, h => by
    by_cases hl : l = []
    · subst hl; exact h
    · cases ho : refOk l
      · rw [ref_bad hl ho] at h; cases h
      · obtain ⟨h1, h2, h3⟩ := ref_file ho
        have hlen := file_len h1
        match n, hn with
        | 0, hn => omega
        | n + 1, hn =>
          rw [ref_step ho, Option.map_eq_some_iff] at h
          obtain ⟨ys, hy, rfl⟩ := h
          rw [files_step h1, h3, ref_files n (rrest l) (by rw [← h3]; omega) hy, h2]
          rfl
theorem files_ref : ∀ (n : Nat) (l : List UInt8) {xs : List MF}, l.length ≤ n → filesL l = some xs → (∀ x ∈ xs, (10 : UInt8) ∉ x.p.data.toList) → refL l = some xs
  | n, l, xs, hn, h, hx => by
    by_cases hl : l = []
    · subst hl; exact h
    · cases ho : fileOk l
      · rw [files_bad hl ho] at h; cases h
      · have hlen := file_len ho
        match n, hn with
        | 0, hn => omega
        | n + 1, hn =>
          rw [files_step ho, Option.map_eq_some_iff] at h
          obtain ⟨ys, hy, rfl⟩ := h
          have hr : refOk l = true := file_ref ho (by
            have := hx (fileIs l) (List.mem_cons_self ..)
            unfold fileIs at this
            rw [txt_list] at this
            exact this)
          obtain ⟨h1, h2, h3⟩ := ref_file hr
          rw [ref_step hr, ← h3, files_ref n (restOf l) (by omega) hy (fun x hx' => hx x (List.mem_cons_of_mem _ hx')), ← h2]
          rfl
/-- What both make of a text: its files, where they are right. -/
def readL (l : List UInt8) : Option (List MF) := match filesL l with | some xs => if rightM xs = true then some xs else none | none => none
theorem read_ref (l : List UInt8) : readL l = match refL l with | some xs => if rightM xs = true then some xs else none | none => none := by
  unfold readL
  cases hr : refL l with
  | some xs => rw [ref_files _ l (Nat.le_refl _) hr]
  | none =>
    cases hf : filesL l with
    | none => rfl
    | some xs =>
      cases hm : rightM xs
      · simp [hm]
      · have := files_ref _ l (Nat.le_refl _) hf (fun x hx => by
          obtain ⟨k, hk⟩ := List.mem_iff_getElem?.1 hx
          have ho := ((rightM_iff xs).1 hm).1 k x hk
          exact fun h10 => (rightL_no (okAt_path ho) 10 h10).2 rfl)
        rw [hr] at this
        cases this
theorem read_back {xs : List MF} (hg : ∀ x ∈ xs, GoodF x) (hm : rightM xs = true) : readL (textF xs) = some xs := by
  unfold readL
  rw [text_back fun x hx => ?_]
  · simp [hm]
  · obtain ⟨k, hk⟩ := List.mem_iff_getElem?.1 hx
    have ho := ((rightM_iff xs).1 hm).1 k x hk
    exact ⟨hg x hx, fun h0 => (rightL_no (okAt_path ho) 0 h0).1 rfl, fun h10 => (flagOk_no (okAt_flag ho) 10 h10).2 rfl⟩
theorem read_text {l : List UInt8} {xs : List MF} (h : readL l = some xs) : textF xs = l ∧ rightM xs = true ∧ (∀ x ∈ xs, GoodF x) ∧ 42 * xs.length ≤ l.length := by
  unfold readL at h
  cases hf : filesL l with
  | none => rw [hf] at h; cases h
  | some ys =>
    rw [hf] at h
    cases hm : rightM ys
    · simp [hm] at h
    · simp [hm] at h
      subst h
      obtain ⟨h1, h2⟩ := files_back _ l (Nat.le_refl _) hf
      exact ⟨h1, hm, files_good hf, h2⟩
end Go.Proofs.YtcbjadecocggjaaDoor
