/- Marks as text: what they say, plainly. -/
import Derived.Test.YtlhdjbnilfbaoaaBackText
import Derived.Test.YtlhdjbnilfbaoaaCutMath
namespace Go.Proofs.Ytlhdjbnilfbaoaa
open Go.RowKit Plain
set_option linter.unusedVariables false
def txt (l : List UInt8) : ByteArray := ⟨l.toArray⟩
theorem txt_list (l : List UInt8) : (txt l).data.toList = l := by simp [txt]
theorem txt_size (l : List UInt8) : (txt l).size = l.length := by rw [Lib.size_eq, txt_list]
theorem txt_of (s : ByteArray) : txt s.data.toList = s := by cases s; simp [txt]
theorem at8_txt (l : List UInt8) (i : Nat) : at8 (txt l) i = (l[i]?.getD 0).toNat := by unfold at8; rw [txt_list]
def gitL (l : List UInt8) : List UInt8 := l.take 40
def hgL (l : List UInt8) : List UInt8 := (l.drop 41).take 40
/-- Does a line of marks stand at the text's front? -/
def lineOk (l : List UInt8) : Bool := decide (82 ≤ l.length) && l[40]? == some 32 && l[81]? == some 10 && isHex (txt (gitL l)) && isHex (txt (hgL l))
def lineP (l : List UInt8) : List Int := parsed (txt (gitL l)) ++ parsed (txt (hgL l))
theorem isHex_len {l : List UInt8} (h : isHex (txt l) = true) : l.length = 40 := by
  unfold isHex at h
  simp only [Bool.and_eq_true, decide_eq_true_eq] at h
  rw [← txt_size]; exact h.1
theorem isHex_not {l : List UInt8} (h : isHex (txt l) = true) {c : UInt8} (hc : nib c.toNat < 0) : c ∉ l := fun hm => by
  obtain ⟨j, hj, e⟩ := List.mem_iff_getElem.1 hm
  have h0 := isHex_at (txt l) h j (by rw [isHex_len h] at hj; exact hj)
  rw [at8_txt, List.getElem?_eq_getElem hj, Option.getD_some, e] at h0
  omega
theorem nib_10 : nib (10 : UInt8).toNat < 0 := by decide
theorem nib_32 : nib (32 : UInt8).toNat < 0 := by decide
theorem split_at {l : List UInt8} {i : Nat} {c : UInt8} (h : l[i]? = some c) : l = l.take i ++ c :: l.drop (i + 1) := by
  obtain ⟨hi, e⟩ := List.getElem?_eq_some_iff.1 h
  rw [← e, ← List.drop_eq_getElem_cons hi, List.take_append_drop]
theorem line_cut {l : List UInt8} (h : lineOk l = true) : Lib.cut l [10] = (gitL l ++ 32 :: hgL l, l.drop 82, true) ∧ Lib.cut (gitL l ++ 32 :: hgL l) [32] = (gitL l, hgL l, true) := by
  unfold lineOk at h
  simp only [Bool.and_eq_true, decide_eq_true_eq, beq_iff_eq] at h
  obtain ⟨⟨⟨⟨h82, h40⟩, h81⟩, hg⟩, hh⟩ := h
  have e1 := split_at h40
  have e2 : (l.drop 41)[40]? = some 10 := by rw [List.getElem?_drop]; exact h81
  have e3 := split_at e2
  rw [List.drop_drop] at e3
  have e4 : l = (gitL l ++ 32 :: hgL l) ++ 10 :: l.drop 82 := by
    rw [List.append_assoc, List.cons_append]
    unfold gitL hgL
    rw [← e3]
    exact e1
  have n1 : (10 : UInt8) ∉ gitL l ++ 32 :: hgL l := by
    simp only [List.mem_append, List.mem_cons, not_or]
    exact ⟨isHex_not hg nib_10, by decide, isHex_not hh nib_10⟩
  refine ⟨?_, cut_at _ _ _ (isHex_not hg nib_32)⟩
  have e5 := cut_at (gitL l ++ 32 :: hgL l) (l.drop 82) 10 n1
  rw [← e4] at e5
  exact e5
/-- The program's reading of a line tells just that. -/
theorem line_is (l : List UInt8) : ((Lib.cut l [10]).2.2 && (Lib.cut (Lib.cut l [10]).1 [32]).2.2 && isHex (txt (Lib.cut (Lib.cut l [10]).1 [32]).1) && isHex (txt (Lib.cut (Lib.cut l [10]).1 [32]).2.1)) = lineOk l := by
  cases hl : lineOk l
  · rw [Bool.eq_false_iff]
    intro h
    simp only [Bool.and_eq_true] at h
    obtain ⟨⟨⟨h1, h2⟩, hg⟩, hh⟩ := h
    obtain ⟨e1, n1⟩ := cut_true h1
    obtain ⟨e2, n2⟩ := cut_true h2
    generalize (Lib.cut l [10]).2.1 = B at *
    generalize (Lib.cut l [10]).1 = A at *
    generalize (Lib.cut A [32]).1 = G at *
    generalize (Lib.cut A [32]).2.1 = H at *
    have lg := isHex_len hg
    have lh := isHex_len hh
    subst e2
    subst e1
    have g1 : gitL ((G ++ 32 :: H) ++ 10 :: B) = G := by
      unfold gitL
      rw [List.append_assoc, ← lg, List.take_left]
    have g2 : hgL ((G ++ 32 :: H) ++ 10 :: B) = H := by
      unfold hgL
      rw [List.append_assoc, show (41 : Nat) = G.length + 1 by omega, ← List.drop_drop, List.drop_left]
      rw [List.cons_append, List.drop_succ_cons, List.drop_zero, ← lh, List.take_left]
    have : lineOk ((G ++ 32 :: H) ++ 10 :: B) = true := by
      unfold lineOk
      rw [g1, g2, hg, hh]
      have a1 : ((G ++ 32 :: H) ++ 10 :: B)[40]? = some 32 := by
        rw [List.append_assoc, List.getElem?_append_right (by omega), lg]; rfl
      have a2 : ((G ++ 32 :: H) ++ 10 :: B)[81]? = some 10 := by
        rw [List.getElem?_append_right (by simp; omega)]
        simp [lg, lh]
      rw [a1, a2, decide_eq_true (by simp; omega)]
      rfl
    rw [hl] at this
    cases this
  · obtain ⟨h1, h2⟩ := line_cut hl
    unfold lineOk at hl
    simp only [Bool.and_eq_true, decide_eq_true_eq, beq_iff_eq] at hl
    obtain ⟨⟨⟨⟨h82, h40⟩, h81⟩, hg⟩, hh⟩ := hl
    rw [h1, h2, hg, hh]
    rfl
theorem line_get {l : List UInt8} (h : lineOk l = true) : (Lib.cut (Lib.cut l [10]).1 [32]).1 = gitL l ∧ (Lib.cut (Lib.cut l [10]).1 [32]).2.1 = hgL l ∧ (Lib.cut l [10]).2.1 = l.drop 82 := by
  obtain ⟨h1, h2⟩ := line_cut h
  rw [h1, h2]
  exact ⟨rfl, rfl, rfl⟩
/-- The pairs that a text tells; none: it isn't right. -/
def pairsF : Nat → List UInt8 → Option (List (List Int))
  | 0, _ => some []
  | n + 1, l => if l = [] then some [] else if lineOk l = true then (pairsF n (l.drop 82)).map (lineP l :: ·) else none
theorem pairsF_more : ∀ (n m : Nat) (l : List UInt8), l.length ≤ n → n ≤ m → pairsF m l = pairsF n l
  | 0, m, l, h, _ => by
    have : l = [] := List.eq_nil_of_length_eq_zero (by omega)
    subst this
    cases m with
    | zero => rfl
    | succ m => simp [pairsF]
  | n + 1, m, l, h, hm => by
    obtain ⟨k, rfl⟩ : ∃ k, m = k + 1 := ⟨m - 1, by omega⟩
    unfold pairsF
    by_cases hl : l = []
    · rw [if_pos hl, if_pos hl]
    · have : 0 < l.length := List.length_pos_iff.2 hl
      rw [pairsF_more n k (l.drop 82) (by rw [List.length_drop]; omega) (by omega)]
def pairsL (l : List UInt8) : Option (List (List Int)) := pairsF l.length l
theorem pairs_nil : pairsL [] = some [] := rfl
theorem pairs_bad {l : List UInt8} (hl : l ≠ []) (h : lineOk l = false) : pairsL l = none := by
  unfold pairsL
  obtain ⟨k, hk⟩ : ∃ k, l.length = k + 1 := ⟨l.length - 1, by have := List.length_pos_iff.2 hl; omega⟩
  rw [hk]
  unfold pairsF
  rw [if_neg hl, if_neg (by rw [h]; decide)]
theorem pairs_step {l : List UInt8} (h : lineOk l = true) : pairsL l = (pairsL (l.drop 82)).map (lineP l :: ·) := by
  have h82 : 82 ≤ l.length := by unfold lineOk at h; simp only [Bool.and_eq_true, decide_eq_true_eq] at h; exact h.1.1.1.1
  have hl : l ≠ [] := fun e => by rw [e] at h82; simp at h82
  unfold pairsL
  obtain ⟨k, hk⟩ : ∃ k, l.length = k + 1 := ⟨l.length - 1, by omega⟩
  rw [hk]
  rw [show pairsF (k + 1) l = if l = [] then some [] else if lineOk l = true then (pairsF k (l.drop 82)).map (lineP l :: ·) else none from rfl, if_neg hl, if_pos h]
  rw [pairsF_more (l.drop 82).length k _ (Nat.le_refl _) (by rw [List.length_drop]; omega)]
theorem lineP_len (l : List UInt8) : (lineP l).length = 40 := by unfold lineP; rw [List.length_append, parsed_length, parsed_length]
theorem lineP_take (l : List UInt8) : (lineP l).take 20 = parsed (txt (gitL l)) := by unfold lineP; rw [← parsed_length (txt (gitL l)), List.take_left]
theorem lineP_drop (l : List UInt8) : (lineP l).drop 20 = parsed (txt (hgL l)) := by unfold lineP; rw [← parsed_length (txt (gitL l)), List.drop_left]
/-- Marks as a text. -/
def lineT (p : List Int) : List UInt8 := hexOf (p.take 20) ++ 32 :: (hexOf (p.drop 20) ++ [10])
def textT (ps : List (List Int)) : List UInt8 := ps.flatMap lineT
def GoodP (p : List Int) : Prop := p.length = 40 ∧ ∀ x ∈ p, 0 ≤ x ∧ x ≤ 255
theorem lineT_len {p : List Int} (h : p.length = 40) : (lineT p).length = 82 := by
  unfold lineT
  simp [hexOf_length, h]
theorem textT_len : ∀ {ps : List (List Int)}, (∀ p ∈ ps, p.length = 40) → (textT ps).length = 82 * ps.length
  | [], _ => rfl
  | p :: ps, h => by
    have := textT_len (ps := ps) fun q hq => h q (List.mem_cons_of_mem _ hq)
    show (lineT p ++ textT ps).length = _
    rw [List.length_append, this, lineT_len (h p (List.mem_cons_self ..)), List.length_cons]; omega
theorem textT_app (ps qs : List (List Int)) : textT (ps ++ qs) = textT ps ++ textT qs := by unfold textT; rw [List.flatMap_append]
theorem hex_back {ids : List Int} (h : ids.length = 20) (hb : ∀ x ∈ ids, 0 ≤ x ∧ x ≤ 255) : isHex (txt (hexOf ids)) = true ∧ parsed (txt (hexOf ids)) = ids := by
  have e : txt (hexOf ids) = strOfNums (hexN ids) := (hexN_text ids hb).symm
  rw [e]
  exact ⟨hex_good ids h hb, parsed_hex ids h hb⟩
theorem line_back {p : List Int} (h : GoodP p) (B : List UInt8) : lineOk (lineT p ++ B) = true ∧ lineP (lineT p ++ B) = p ∧ (lineT p ++ B).drop 82 = B := by
  have h20 : (p.take 20).length = 20 := by rw [List.length_take, h.1]; rfl
  have h21 : (p.drop 20).length = 20 := by rw [List.length_drop, h.1]
  have b1 := hex_back h20 fun x hx => h.2 x (List.mem_of_mem_take hx)
  have b2 := hex_back h21 fun x hx => h.2 x (List.mem_of_mem_drop hx)
  have l1 : (hexOf (p.take 20)).length = 40 := by rw [hexOf_length, h20]
  have l2 : (hexOf (p.drop 20)).length = 40 := by rw [hexOf_length, h21]
  have e : lineT p ++ B = hexOf (p.take 20) ++ 32 :: (hexOf (p.drop 20) ++ 10 :: B) := by unfold lineT; simp
  have g1 : gitL (lineT p ++ B) = hexOf (p.take 20) := by
    rw [e]; unfold gitL; rw [← l1, List.take_left]
  have g2 : hgL (lineT p ++ B) = hexOf (p.drop 20) := by
    rw [e]; unfold hgL
    rw [show (41 : Nat) = 40 + 1 from rfl, ← List.drop_drop, ← l1, List.drop_left, List.drop_succ_cons, List.drop_zero, l1, ← l2, List.take_left]
  refine ⟨?_, ?_, ?_⟩
  · unfold lineOk
    rw [g1, g2, b1.1, b2.1]
    have a1 : (lineT p ++ B)[40]? = some 32 := by
      rw [e, List.getElem?_append_right (by omega), l1]; rfl
    have a2 : (lineT p ++ B)[81]? = some 10 := by
      rw [e, List.getElem?_append_right (by omega), l1, List.getElem?_cons_succ, List.getElem?_append_right (by omega), l2]; rfl
    rw [a1, a2, decide_eq_true (by rw [List.length_append, lineT_len h.1]; omega)]
    rfl
  · unfold lineP
    rw [g1, g2, b1.2, b2.2, List.take_append_drop]
  · rw [← lineT_len h.1, List.drop_left]
theorem text_back : ∀ {ps : List (List Int)}, (∀ p ∈ ps, GoodP p) → pairsL (textT ps) = some ps
  | [], _ => rfl
  | p :: ps, h => by
    obtain ⟨b1, b2, b3⟩ := line_back (h p (List.mem_cons_self ..)) (textT ps)
    show pairsL (lineT p ++ textT ps) = _
    rw [pairs_step b1, b2, b3, text_back fun q hq => h q (List.mem_cons_of_mem _ hq)]
    rfl
/-- Some of a text's bytes: whole lines, or nothing. -/
theorem text_cut : ∀ {ps : List (List Int)} (k : Nat), (∀ p ∈ ps, GoodP p) → k ≤ 82 * ps.length → pairsL ((textT ps).take k) = if k % 82 = 0 then some (ps.take (k / 82)) else none
  | [], k, _, h => by
    have : k = 0 := by simp at h; omega
    subst this; rfl
  | p :: ps, k, h, hk => by
    have hp := h p (List.mem_cons_self ..)
    have hl := lineT_len hp.1
    show pairsL ((lineT p ++ textT ps).take k) = _
    rcases Nat.lt_or_ge k 82 with hlt | hge
    · rw [List.take_append_of_le_length (by omega)]
      rcases Nat.eq_zero_or_pos k with h0 | h0
      · subst h0; rfl
      · have hne : (lineT p).take k ≠ [] := fun e => by
          have := congrArg List.length e
          rw [List.length_take, hl] at this
          simp at this; omega
        rw [pairs_bad hne, if_neg (by rw [Nat.mod_eq_of_lt hlt]; omega)]
        unfold lineOk
        rw [decide_eq_false (by rw [List.length_take, hl]; omega)]
        rfl
    · have e1 : (lineT p ++ textT ps).take k = lineT p ++ (textT ps).take (k - 82) := by
        rw [List.take_append, List.take_of_length_le (by omega), hl]
      obtain ⟨b1, b2, b3⟩ := line_back hp ((textT ps).take (k - 82))
      rw [e1, pairs_step b1, b2, b3, text_cut (k - 82) (fun q hq => h q (List.mem_cons_of_mem _ hq)) (by rw [List.length_cons] at hk; omega)]
      have em : k % 82 = (k - 82) % 82 := by omega
      have ed : k / 82 = (k - 82) / 82 + 1 := by omega
      rw [← em, ed]
      by_cases hm : k % 82 = 0
      · rw [if_pos hm, if_pos hm]; rfl
      · rw [if_neg hm, if_neg hm]; rfl
theorem pairs_good : ∀ (n : Nat) {l : List UInt8} {ps : List (List Int)}, l.length ≤ n → pairsL l = some ps → (∀ p ∈ ps, GoodP p) ∧ 82 * ps.length = l.length
  | n, l, ps, hn, h => by
    by_cases hl : l = []
    · subst hl
      rw [pairs_nil] at h
      injection h with h
      subst h
      exact ⟨fun p hp => absurd hp (by simp), rfl⟩
    · cases hok : lineOk l
      · rw [pairs_bad hl hok] at h; cases h
      · rw [pairs_step hok] at h
        cases hq : pairsL (l.drop 82) with
        | none => rw [hq] at h; cases h
        | some qs =>
          rw [hq] at h
          simp only [Option.map_some, Option.some.injEq] at h
          subst h
          have h82 : 82 ≤ l.length := by unfold lineOk at hok; simp only [Bool.and_eq_true, decide_eq_true_eq] at hok; exact hok.1.1.1.1
          cases n with
          | zero => omega
          | succ n =>
            obtain ⟨h1, h2⟩ := pairs_good n (by rw [List.length_drop]; omega) hq
            refine ⟨fun p hp => ?_, ?_⟩
            · rcases List.mem_cons.1 hp with rfl | hp
              · refine ⟨lineP_len l, fun x hx => ?_⟩
                unfold lineP at hx
                rcases List.mem_append.1 hx with hx | hx
                · exact parsed_bytes _ x hx
                · exact parsed_bytes _ x hx
              · exact h1 p hp
            · rw [List.length_drop] at h2
              rw [List.length_cons]; omega
end Go.Proofs.Ytlhdjbnilfbaoaa
