/- A tree's body, read plainly. -/
import Derived.Test.YtnbkjdakofeeaaaDoorTrPrint
import Derived.Test.YtnbkjdakofeeaaaDoorCutMath
namespace Go.Proofs.YtnbkjdakofeeaaaDoor
open Go.RowKit Plain
set_option linter.unusedVariables false
def readF (ok : List UInt8 → Bool) (is : List UInt8 → TE) (rs : List UInt8 → List UInt8) : Nat → List UInt8 → Option (List TE)
  | 0, _ => some []
  | n + 1, l => if l = [] then some [] else if ok l = true then (readF ok is rs n (rs l)).map (is l :: ·) else none
theorem readF_more {ok : List UInt8 → Bool} {is : List UInt8 → TE} {rs : List UInt8 → List UInt8} (hr : ∀ l, ok l = true → (rs l).length < l.length) : ∀ (n m : Nat) (l : List UInt8), l.length ≤ n → n ≤ m → readF ok is rs m l = readF ok is rs n l
  | 0, m, l, h, _ => by
    have : l = [] := List.eq_nil_of_length_eq_zero (by omega)
    subst this
    cases m with
    | zero => rfl
    | succ m => rfl
  | n + 1, 0, l, _, h => by omega
  | n + 1, m + 1, l, h, hm => by
    unfold readF
    by_cases hl : l = []
    · rw [if_pos hl, if_pos hl]
    · rw [if_neg hl, if_neg hl]
      by_cases ho : ok l = true
      · rw [if_pos ho, if_pos ho, readF_more hr n m (rs l) (by have := hr l ho; omega) (by omega)]
      · rw [if_neg ho, if_neg ho]
theorem readF_nil {ok : List UInt8 → Bool} {is : List UInt8 → TE} {rs : List UInt8 → List UInt8} : readF ok is rs ([] : List UInt8).length [] = some [] := rfl
theorem readF_bad {ok : List UInt8 → Bool} {is : List UInt8 → TE} {rs : List UInt8 → List UInt8} {l : List UInt8} (hl : l ≠ []) (h : ok l = false) : readF ok is rs l.length l = none := by
  obtain ⟨k, hk⟩ : ∃ k, l.length = k + 1 := ⟨l.length - 1, by have := List.length_pos_iff.2 hl; omega⟩
  rw [hk]
  unfold readF
  rw [if_neg hl, if_neg (by rw [h]; decide)]
theorem readF_step {ok : List UInt8 → Bool} {is : List UInt8 → TE} {rs : List UInt8 → List UInt8} (hr : ∀ l, ok l = true → (rs l).length < l.length) {l : List UInt8} (h : ok l = true) : readF ok is rs l.length l = (readF ok is rs (rs l).length (rs l)).map (is l :: ·) := by
  have h1 := hr l h
  obtain ⟨k, hk⟩ : ∃ k, l.length = k + 1 := ⟨l.length - 1, by omega⟩
  have hl : l ≠ [] := fun e => by rw [e] at hk; simp at hk
  rw [hk, readF, if_neg hl, if_pos h, readF_more hr (rs l).length k (rs l) (Nat.le_refl _) (by omega)]
theorem readF_all {ok : List UInt8 → Bool} {is : List UInt8 → TE} {rs : List UInt8 → List UInt8} {P : TE → Prop} (hp : ∀ l, ok l = true → P (is l)) : ∀ (n : Nat) (l : List UInt8) {xs : List TE}, readF ok is rs n l = some xs → ∀ x ∈ xs, P x
  | 0, l, xs, h => by
    obtain rfl : [] = xs := by simpa [readF] using h
    exact fun x hx => by cases hx
  | n + 1, l, xs, h => by
    unfold readF at h
    by_cases hl : l = []
    · rw [if_pos hl] at h
      obtain rfl : [] = xs := by simpa using h
      exact fun x hx => by cases hx
    · rw [if_neg hl] at h
      by_cases ho : ok l = true
      · rw [if_pos ho, Option.map_eq_some_iff] at h
        obtain ⟨ys, hy, rfl⟩ := h
        intro x hx
        rcases List.mem_cons.1 hx with rfl | hx
        · exact hp l ho
        · exact readF_all hp n _ hy x hx
      · rw [if_neg ho] at h; cases h

def digT (l : List UInt8) : List UInt8 := (Lib.cut l [32]).1
def behT (l : List UInt8) : List UInt8 := (Lib.cut l [32]).2.1
def namT (l : List UInt8) : List UInt8 := (Lib.cut (behT l) [0]).1
def talT (l : List UInt8) : List UInt8 := (Lib.cut (behT l) [0]).2.1
def entT (l : List UInt8) : Bool := (Lib.cut l [32]).2.2 && (Lib.cut (behT l) [0]).2.2 && !(modeOf (digT l) == 0) && decide (20 ≤ (talT l).length)
def isT (l : List UInt8) : TE := ⟨modeOf (digT l), txt (namT l), numsOf (txt ((talT l).take 20))⟩
def rsT (l : List UInt8) : List UInt8 := (talT l).drop 20
theorem ent_parts {l : List UInt8} (h : entT l = true) : (l = digT l ++ 32 :: (namT l ++ 0 :: talT l) ∧ (32 : UInt8) ∉ digT l ∧ (0 : UInt8) ∉ namT l) ∧ modeOf (digT l) ≠ 0 ∧ 20 ≤ (talT l).length := by
  unfold entT at h
  simp only [Bool.and_eq_true, decide_eq_true_eq, Bool.not_eq_true', beq_eq_false_iff_ne] at h
  obtain ⟨⟨⟨h1, h2⟩, h3⟩, h4⟩ := h
  obtain ⟨e1, n1⟩ := cut_true h1
  obtain ⟨e2, n2⟩ := cut_true h2
  refine ⟨⟨?_, n1, n2⟩, h3, h4⟩
  conv => lhs; rw [e1]
  show digT l ++ 32 :: behT l = _
  conv => lhs; rw [e2]
  rfl
theorem bytes_nums (l : List UInt8) : bytesI (numsOf (txt l)) = l := by
  rw [numsOf_txt]
  unfold bytesI
  rw [List.map_map]
  conv => rhs; rw [← List.map_id l]
  apply List.map_congr_left
  intro x hx
  simp
theorem ent_line {l : List UInt8} (h : entT l = true) : lineT (isT l) ++ rsT l = l := by
  obtain ⟨⟨e, -, -⟩, hm, h20⟩ := ent_parts h
  unfold lineT isT rsT
  rw [(digits_mode hm).1, txt_list, bytes_nums]
  conv => rhs; rw [e]
  simp
theorem ent_good (l : List UInt8) (h : entT l = true) : GoodE (isT l) := by
  obtain ⟨-, -, h20⟩ := ent_parts h
  refine ⟨?_, numsOf_bytes _⟩
  show (numsOf (txt ((talT l).take 20))).length = 20
  rw [numsOf_len, List.length_take]; omega
theorem ent_len {l : List UInt8} (h : entT l = true) : (rsT l).length + 22 ≤ l.length ∧ (namT l).length ≤ l.length := by
  obtain ⟨⟨e, -, -⟩, hm, h20⟩ := ent_parts h
  have := congrArg List.length e
  rw [List.length_append, List.length_cons, List.length_append, List.length_cons] at this
  unfold rsT
  rw [List.length_drop]
  omega
theorem ent_rest (l : List UInt8) (h : entT l = true) : (rsT l).length < l.length := by have := (ent_len h).1; omega
def entsT (l : List UInt8) : Option (List TE) := readF entT isT rsT l.length l
theorem ents_nil : entsT [] = some [] := rfl
theorem ents_bad {l : List UInt8} (hl : l ≠ []) (h : entT l = false) : entsT l = none := readF_bad hl h
theorem ents_step {l : List UInt8} (h : entT l = true) : entsT l = (entsT (rsT l)).map (isT l :: ·) := readF_step ent_rest h
theorem ents_good {l : List UInt8} {xs : List TE} (h : entsT l = some xs) : ∀ x ∈ xs, GoodE x := readF_all ent_good _ _ h
theorem ents_back : ∀ (n : Nat) (l : List UInt8) {xs : List TE}, l.length ≤ n → entsT l = some xs → textT xs = l ∧ 22 * xs.length ≤ l.length ∧ ∀ x ∈ xs, x.p.size ≤ l.length
  | n, l, xs, hn, h => by
    by_cases hl : l = []
    · subst hl
      rw [ents_nil] at h
      obtain rfl : [] = xs := by simpa using h
      exact ⟨rfl, Nat.le_refl _, fun x hx => by cases hx⟩
    · cases ho : entT l
      · rw [ents_bad hl ho] at h; cases h
      · have hlen := ent_len ho
        match n, hn with
        | 0, hn => omega
        | n + 1, hn =>
          rw [ents_step ho, Option.map_eq_some_iff] at h
          obtain ⟨ys, hy, rfl⟩ := h
          obtain ⟨h1, h2, h3⟩ := ents_back n (rsT l) (by omega) hy
          refine ⟨?_, by rw [List.length_cons]; omega, fun x hx => ?_⟩
          · have e : textT (isT l :: ys) = lineT (isT l) ++ textT ys := by unfold textT; rw [List.flatMap_cons]
            rw [e, h1, ent_line ho]
          · rcases List.mem_cons.1 hx with rfl | hx
            · show (txt (namT l)).size ≤ _
              rw [txt_size]; exact hlen.2
            · have := h3 x hx; omega
/-- What is written is read as it was. -/
theorem tline_back {x : TE} (hg : GoodE x) (hm : modeOk x.k = true) (hp : (0 : UInt8) ∉ x.p.data.toList) (B : List UInt8) : entT (lineT x ++ B) = true ∧ isT (lineT x ++ B) = x ∧ rsT (lineT x ++ B) = B := by
  obtain ⟨m1, m2, m3, m4⟩ := mode_digits hm
  have e : lineT x ++ B = digitsL x.k ++ 32 :: (x.p.data.toList ++ 0 :: (bytesI x.n ++ B)) := by unfold lineT; simp
  have c1 := cut_at (digitsL x.k) (x.p.data.toList ++ 0 :: (bytesI x.n ++ B)) 32 m3
  rw [← e] at c1
  have c2 := cut_at x.p.data.toList (bytesI x.n ++ B) 0 hp
  have hd : digT (lineT x ++ B) = digitsL x.k := by unfold digT; rw [c1]
  have hb : behT (lineT x ++ B) = x.p.data.toList ++ 0 :: (bytesI x.n ++ B) := by unfold behT; rw [c1]
  have hn : namT (lineT x ++ B) = x.p.data.toList := by unfold namT; rw [hb, c2]
  have ht : talT (lineT x ++ B) = bytesI x.n ++ B := by unfold talT; rw [hb, c2]
  have hl : (bytesI x.n).length = 20 := by rw [bytesI_len, hg.1]
  have hk0 : x.k ≠ 0 := by rcases modeOk_cases hm with h | h | h | h | h <;> omega
  refine ⟨?_, ?_, ?_⟩
  · unfold entT
    rw [hb, hd, ht, c1, c2, m1, beq_eq_false_iff_ne.2 hk0, decide_eq_true (by rw [List.length_append]; omega)]
    rfl
  · unfold isT
    rw [hd, hn, ht, m1, txt_of, List.take_append_of_le_length (by omega), List.take_of_length_le (by omega), nums_id x.n hg.2]
  · unfold rsT
    rw [ht, ← hl, List.drop_left]
theorem ttext_back : ∀ {xs : List TE}, (∀ x ∈ xs, GoodE x ∧ modeOk x.k = true ∧ (0 : UInt8) ∉ x.p.data.toList) → entsT (textT xs) = some xs
  | [], _ => rfl
  | x :: xs, h => by
    obtain ⟨h1, h2, h3⟩ := h x (List.mem_cons_self ..)
    obtain ⟨b1, b2, b3⟩ := tline_back h1 h2 h3 (textT xs)
    have e : textT (x :: xs) = lineT x ++ textT xs := by unfold textT; rw [List.flatMap_cons]
    rw [e, ents_step b1, b2, b3, ttext_back fun q hq => h q (List.mem_cons_of_mem _ hq)]
    rfl
theorem ent_more {l : List UInt8} (h : entT l = true) (m : List UInt8) : entT (l ++ m) = true ∧ isT (l ++ m) = isT l ∧ rsT (l ++ m) = rsT l ++ m := by
  obtain ⟨⟨-, -, hn⟩, hm, -⟩ := ent_parts h
  have e : l ++ m = lineT (isT l) ++ (rsT l ++ m) := by rw [← List.append_assoc, ent_line h]
  have hp : (0 : UInt8) ∉ (isT l).p.data.toList := by
    show (0 : UInt8) ∉ (txt (namT l)).data.toList
    rw [txt_list]; exact hn
  have := tline_back (ent_good l h) (digits_mode hm).2.1 hp (rsT l ++ m)
  rw [← e] at this
  exact this
theorem ents_prefix : ∀ (n : Nat) (l m : List UInt8) {zs ys : List TE}, l.length ≤ n → entsT l = some zs → entsT (l ++ m) = some ys → zs = ys.take zs.length
  | n, l, m, zs, ys, hn, hz, hy => by
    by_cases hl : l = []
    · subst hl
      rw [ents_nil] at hz
      obtain rfl : [] = zs := by simpa using hz
      rfl
    · cases ho : entT l
      · rw [ents_bad hl ho] at hz; cases hz
      · have hlen := ent_len ho
        obtain ⟨b1, b2, b3⟩ := ent_more ho m
        match n, hn with
        | 0, hn => omega
        | n + 1, hn =>
          rw [ents_step ho, Option.map_eq_some_iff] at hz
          obtain ⟨zs', hz', rfl⟩ := hz
          rw [ents_step b1, b2, b3, Option.map_eq_some_iff] at hy
          obtain ⟨ys', hy', rfl⟩ := hy
          have := ents_prefix n (rsT l) m (by omega) hz' hy'
          rw [List.length_cons, List.take_succ_cons, ← this]
def readT (l : List UInt8) : Option (List TE) := match entsT l with | some xs => if rightT xs = true then some xs else none | none => none
theorem tread_back {xs : List TE} (hg : ∀ x ∈ xs, GoodE x) (hr : rightT xs = true) : readT (textT xs) = some xs := by
  have he := right_each hr
  unfold readT
  rw [ttext_back fun x hx => ⟨hg x hx, (he x hx).1, (nameOk_parts (he x hx).2).2.2⟩]
  simp [hr]
theorem tread_text {l : List UInt8} {xs : List TE} (h : readT l = some xs) : textT xs = l ∧ rightT xs = true ∧ (∀ x ∈ xs, GoodE x) ∧ 22 * xs.length ≤ l.length ∧ entsT l = some xs := by
  unfold readT at h
  cases hq : entsT l with
  | none => rw [hq] at h; cases h
  | some ys =>
    rw [hq] at h
    simp only at h
    by_cases hr : rightT ys = true
    · rw [if_pos hr] at h
      obtain rfl : ys = xs := by simpa using h
      obtain ⟨h1, h2, -⟩ := ents_back l.length l (Nat.le_refl _) hq
      exact ⟨h1, hr, ents_good hq, h2, rfl⟩
    · rw [if_neg hr] at h; cases h
theorem tread_prefix {l m : List UInt8} {zs ys : List TE} (hz : readT l = some zs) (hy : readT (l ++ m) = some ys) : zs = ys.take zs.length :=
  ents_prefix l.length l m (Nat.le_refl _) (tread_text hz).2.2.2.2 (tread_text hy).2.2.2.2
end Go.Proofs.YtnbkjdakofeeaaaDoor
