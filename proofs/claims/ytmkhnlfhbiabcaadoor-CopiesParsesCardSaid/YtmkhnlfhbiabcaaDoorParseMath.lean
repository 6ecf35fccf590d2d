/- The document's reading of a copy, plainly: which line end is the right one. -/
import Derived.Test.YtmkhnlfhbiabcaaDoorLawBack
namespace Go.Proofs.YtmkhnlfhbiabcaaDoor
open Go.RowKit Plain
set_option linter.unusedVariables false
set_option linter.unusedSimpArgs false
def hitP (xs : List Int) (i : Nat) : ByteArray := strOfNums ((xs.drop 8).take (i - 8))
def hitH (xs : List Int) (i : Nat) : ByteArray := strOfNums ((xs.drop (i + 10)).take 40)
def hitV (xs : List Int) (i : Nat) : List Int := xs.drop (i + 53)
/-- Is that the line end behind a copy's path? -/
def hitAt (xs : List Int) (i : Nat) : Bool :=
  xs[i]? == some 10 && decide (i + 53 ≤ xs.length) && isHex (hitH xs i) && printL (hitV xs i) (hitP xs i) (parsed (hitH xs i)) == some xs && !noFrom (hitP xs i) (parsed (hitH xs i))
theorem hit_parse {xs : List Int} {i : Nat} (h : hitAt xs i = true) : parseL xs = some (hitV xs i, hitP xs i, parsed (hitH xs i)) := by
  unfold hitAt at h
  simp only [Bool.and_eq_true, beq_iff_eq] at h
  exact back_same (parsed_length _) (parsed_bytes _) h.1.2
theorem drop_at {α : Type} (A B : List α) (n : Nat) (h : A.length = n) : (A ++ B).drop n = B := by rw [← h, List.drop_left]
theorem take_at {α : Type} (A B : List α) (n : Nat) (h : A.length = n) : (A ++ B).take n = A := by rw [← h, List.take_left]
theorem parse_hit {xs v : List Int} {p : ByteArray} {id : List Int} (hx : ∀ x ∈ xs, 0 ≤ x ∧ x ≤ 255) (h : parseL xs = some (v, p, id)) (hf : noFrom p id = false) : hitAt xs (8 + p.size) = true ∧ 8 + p.size < xs.length := by
  obtain ⟨h1, h20, hb, hv⟩ := parse_back hx h
  have h0 := h1
  unfold printL at h1
  rw [hf, if_neg (by decide)] at h1
  cases hr : rightL p.data.toList
  · rw [hr, if_neg (by decide)] at h1; cases h1
  · rw [hr, if_pos rfl] at h1
    injection h1 with h1
    rw [told_parts] at h1
    have lc : (numsOf markB ++ numsOf cpB).length = 8 := by decide
    have lp : (numsOf p).length = p.size := numsOf_length p
    have lr : (numsOf crB).length = 9 := by decide
    have lh : (numsOf ⟨(hexOf id).toArray⟩).length = 40 := by rw [numsOf_length]; exact hexB_size id h20
    have lm : (numsOf markB).length = 2 := by decide
    have e : xs = (numsOf markB ++ numsOf cpB) ++ (numsOf p ++ (10 :: (numsOf crB ++ (numsOf ⟨(hexOf id).toArray⟩ ++ (10 :: (numsOf markB ++ v)))))) := by
      rw [← h1]
      simp only [List.append_assoc, List.cons_append]
    have e8 : xs.drop 8 = numsOf p ++ (10 :: (numsOf crB ++ (numsOf ⟨(hexOf id).toArray⟩ ++ (10 :: (numsOf markB ++ v))))) := by rw [e]; exact drop_at _ _ _ lc
    have ei : xs.drop (8 + p.size) = 10 :: (numsOf crB ++ (numsOf ⟨(hexOf id).toArray⟩ ++ (10 :: (numsOf markB ++ v)))) := by
      rw [← List.drop_drop, e8]; exact drop_at _ _ _ lp
    have e10 : xs.drop (8 + p.size + 10) = numsOf ⟨(hexOf id).toArray⟩ ++ (10 :: (numsOf markB ++ v)) := by
      rw [← List.drop_drop, ei]
      exact drop_at (10 :: numsOf crB) _ 10 (by simp [lr])
    have e53 : xs.drop (8 + p.size + 53) = v := by
      rw [show 8 + p.size + 53 = 8 + p.size + 10 + 43 by omega, ← List.drop_drop, e10]
      have e' : numsOf ⟨(hexOf id).toArray⟩ ++ (10 :: (numsOf markB ++ v)) = (numsOf ⟨(hexOf id).toArray⟩ ++ (10 :: numsOf markB)) ++ v := by simp only [List.append_assoc, List.cons_append]
      rw [e']
      exact drop_at _ v 43 (by simp [lh, lm])
    have hl : xs.length = 8 + p.size + 53 + v.length := by
      have := congrArg List.length e
      simp only [List.length_append, List.length_cons, lp, lr, lh, lm, show (numsOf cpB).length = 6 by decide] at this
      omega
    have hP : hitP xs (8 + p.size) = p := by
      unfold hitP
      rw [e8, Nat.add_sub_cancel_left, take_at _ _ _ lp, str_nums']
    have hH : hitH xs (8 + p.size) = ⟨(hexOf id).toArray⟩ := by
      unfold hitH
      rw [e10, take_at _ _ _ lh, str_nums']
    have hV : hitV xs (8 + p.size) = v := e53
    have hpa : parsed ⟨(hexOf id).toArray⟩ = id := by rw [← hexN_text id hb]; exact parsed_hex id h20 hb
    have hx10 : xs[8 + p.size]? = some 10 := by
      have := congrArg (·[0]?) ei
      simpa using this
    have hhx : isHex ⟨(hexOf id).toArray⟩ = true := by rw [← hexN_text id hb]; exact hex_good id h20 hb
    refine ⟨?_, by omega⟩
    unfold hitAt
    rw [hP, hH, hV, hpa, hhx, h0, hf, hx10, decide_eq_true (by omega)]
    simp
theorem some_from {xs v : List Int} {p : ByteArray} {id : List Int} (hx : ∀ x ∈ xs, 0 ≤ x ∧ x ≤ 255) (h1 : pre xs markB = true) (h2 : pre (xs.drop 2) markB = false) (h : parseL xs = some (v, p, id)) : noFrom p id = false := by
  obtain ⟨hp, -, -, -⟩ := parse_back hx h
  cases hf : noFrom p id
  · rfl
  · unfold printL at hp
    rw [hf, if_pos rfl] at hp
    split at hp
    · injection hp with hp
      rw [← hp] at h2
      exact absurd (pre_app markB v) (by rw [show numsOf markB ++ v = ([1, 10, 1, 10] ++ v).drop 2 from rfl, h2]; decide)
    · rename_i hv
      injection hp with hp
      rw [hp] at hv
      exact absurd h1 hv
/-- No line end is right: no copy is told. -/
theorem no_hit {xs : List Int} (hx : ∀ x ∈ xs, 0 ≤ x ∧ x ≤ 255) (h1 : pre xs markB = true) (h2 : pre (xs.drop 2) markB = false) (h : ∀ i, 8 ≤ i → i < xs.length → hitAt xs i = false) : parseL xs = none := by
  cases hp : parseL xs with
  | none => rfl
  | some t =>
    obtain ⟨v, p, id⟩ := t
    have hf := some_from hx h1 h2 hp
    obtain ⟨h3, h4⟩ := parse_hit hx hp hf
    rw [h _ (by omega) h4] at h3
    cases h3
theorem pre_split {xs : List Int} {p : ByteArray} (hx : ∀ x ∈ xs, 0 ≤ x ∧ x ≤ 255) (h : pre xs p = true) : xs = numsOf p ++ xs.drop p.size := by
  unfold pre Lib.hasPrefix at h
  obtain ⟨t, ht⟩ := List.isPrefixOf_iff_prefix.1 h
  have hl : p.data.toList.length = p.size := (Lib.size_eq p).symm
  have e1 : Lib.bytesOf (xs.take p.size) = Lib.bytesOf (numsOf p) := by
    have : Lib.bytesOf (xs.take p.size) = (Lib.bytesOf xs).take p.size := by unfold Lib.bytesOf; rw [List.map_take]
    rw [this, bytesOf_nums, ← ht, take_at _ _ _ hl]
  have e2 := bytesOf_inj (fun x hm => hx x (List.mem_of_mem_take hm)) (numsOf_bytes p) e1
  rw [← e2, List.take_append_drop]
/-- Told twice: the text behind it, where it is printed so. -/
theorem twice {xs : List Int} (hx : ∀ x ∈ xs, 0 ≤ x ∧ x ≤ 255) (h1 : pre xs markB = true) (h2 : pre (xs.drop 2) markB = true) :
    parseL xs = if printL (xs.drop 4) ⟨#[]⟩ zeros20 = some xs then some (xs.drop 4, ⟨#[]⟩, zeros20) else none := by
  have e1 := pre_split hx h1
  have e2 := pre_split (fun x hm => hx x (List.mem_of_mem_drop hm)) h2
  obtain ⟨T, hT⟩ : ∃ T, xs.drop 4 = T := ⟨_, rfl⟩
  have e3 : xs.drop 2 = numsOf markB ++ T := by
    rw [← hT, show (4 : Nat) = 2 + 2 from rfl, ← List.drop_drop]; exact e2
  have e4 : xs = numsOf markB ++ (numsOf markB ++ T) := by
    rw [← e3]; exact e1
  rw [hT]
  by_cases hp : printL T ⟨#[]⟩ zeros20 = some xs
  · rw [if_pos hp]
    exact back_same rfl (by decide) hp
  · rw [if_neg hp]
    cases h : parseL xs with
    | none => rfl
    | some t =>
      exfalso
      obtain ⟨v, p, id⟩ := t
      have hok : copyOk (numsOf markB ++ T) = false := by
        unfold copyOk
        rw [show numsOf markB ++ T = [1] ++ 10 :: T from rfl, cutA_at [1] T (by decide)]
        decide
      have hcut : cutP xs markB = numsOf markB ++ T := by rw [e4]; exact cutP_app _ _
      have ht : textL xs = T := by
        unfold textL
        rw [hcut, show copyR (numsOf markB ++ T) = numsOf markB ++ T from by unfold copyR; rw [hok, if_neg (by decide)]]
        exact cutP_app _ _
      have h' := h
      unfold parseL at h'
      rw [h1, if_pos rfl, ht, hcut, show copyP (numsOf markB ++ T) = ⟨#[]⟩ from by unfold copyP; rw [hok, if_neg (by decide)], show copyI (numsOf markB ++ T) = zeros20 from by unfold copyI; rw [hok, if_neg (by decide)]] at h'
      have hb := (parse_back hx h).1
      cases hpr : printL T ⟨#[]⟩ zeros20 with
      | none => rw [hpr] at h'; cases h'
      | some ys =>
        rw [hpr] at h'
        simp only at h'
        split at h'
        · simp only [Option.some.injEq, Prod.mk.injEq] at h'
          obtain ⟨rfl, rfl, rfl⟩ := h'
          exact hp hb
        · cases h'
end Go.Proofs.YtmkhnlfhbiabcaaDoor
