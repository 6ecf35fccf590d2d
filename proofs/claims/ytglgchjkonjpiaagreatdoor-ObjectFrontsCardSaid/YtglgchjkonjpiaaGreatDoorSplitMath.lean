/- Where an object's front ends, and what it says: maths. -/
import Derived.Test.YtglgchjkonjpiaaGreatDoorObjB
import Derived.Test.YtglgchjkonjpiaaGreatDoorFromDec
import Derived.Test.YtglgchjkonjpiaaGreatDoorInfE
namespace Go.Proofs.YtglgchjkonjpiaaGreatDoor
open Go.RowKit Plain
set_option linter.unusedVariables false
theorem first_unique {A B : List Int} {z : Int} {xs : List Int} {i : Nat} (h : xs = A ++ z :: B) (hA : z ∉ A) (hi : xs[i]? = some z) (hn : z ∉ xs.take i) : i = A.length := by
  subst h
  rcases Nat.lt_trichotomy i A.length with h | h | h
  · rw [List.getElem?_append_left h] at hi
    exact absurd (List.mem_of_getElem? hi) hA
  · exact h
  · refine absurd (List.mem_of_getElem? (i := A.length) ?_) hn
    rw [List.getElem?_take_of_lt h, List.getElem?_append_right (Nat.le_refl _), Nat.sub_self]
    rfl
theorem index_one (c : UInt8) : ∀ l : List UInt8, (Lib.index l [c] = -1 ∧ c ∉ l) ∨ ∃ i : Nat, Lib.index l [c] = i ∧ l[i]? = some c ∧ c ∉ l.take i
  | [] => .inl ⟨rfl, by simp⟩
  | b :: l => by
    unfold Lib.index
    by_cases h : c = b
    · right
      refine ⟨0, ?_, by simp [h], by simp⟩
      rw [if_pos (by simp [h])]
      rfl
    · rw [if_neg (by simp [h])]
      rcases index_one c l with ⟨h1, h2⟩ | ⟨i, h1, h2, h3⟩
      · left
        rw [if_pos (by rw [h1]; rfl)]
        exact ⟨rfl, by simp [h, h2]⟩
      · right
        have hne : ((i : Int) == -1) = false := beq_eq_false_iff_ne.2 (by omega)
        rw [h1, hne, if_neg (by decide)]
        exact ⟨i + 1, by omega, by simpa using h2, by simp [h, h3]⟩
theorem byte_inj {x z : Int} (hx : 0 ≤ x ∧ x ≤ 255) (hz : 0 ≤ z ∧ z ≤ 255) (h : UInt8.ofNat x.toNat = UInt8.ofNat z.toNat) : x = z := by
  have h1 := congrArg UInt8.toNat h
  have h2 : (UInt8.ofNat x.toNat).toNat = x.toNat % 256 := rfl
  have h3 : (UInt8.ofNat z.toNat).toNat = z.toNat % 256 := rfl
  omega
/-- Where a byte stands first. -/
theorem cut_at (xs : List Int) (z : Int) (hx : ∀ x ∈ xs, 0 ≤ x ∧ x ≤ 255) (hz : 0 ≤ z ∧ z ≤ 255) :
    (Lib.index (Lib.bytesOf xs) (Lib.bytesOf [z]) = -1 ∧ z ∉ xs) ∨ ∃ i : Nat, Lib.index (Lib.bytesOf xs) (Lib.bytesOf [z]) = i ∧ i < xs.length ∧ xs[i]? = some z ∧ z ∉ xs.take i := by
  have e : Lib.bytesOf [z] = [UInt8.ofNat z.toNat] := rfl
  rw [e]
  rcases index_one (UInt8.ofNat z.toNat) (Lib.bytesOf xs) with ⟨h1, h2⟩ | ⟨i, h1, h2, h3⟩
  · exact .inl ⟨h1, fun h => h2 (List.mem_map.2 ⟨z, h, rfl⟩)⟩
  · have h2' := h2
    unfold Lib.bytesOf at h2'
    rw [List.getElem?_map] at h2'
    cases hg : xs[i]? with
    | none => rw [hg] at h2'; cases h2'
    | some x =>
      rw [hg] at h2'
      have hxz : x = z := byte_inj (hx x (List.mem_of_getElem? hg)) hz (by simpa using h2')
      subst hxz
      refine .inr ⟨i, h1, ?_, hg, fun h => h3 ?_⟩
      · rcases Nat.lt_or_ge i xs.length with h | h
        · exact h
        · rw [List.getElem?_eq_none h] at hg; cases hg
      · unfold Lib.bytesOf
        rw [← List.map_take]
        exact List.mem_map.2 ⟨x, h, rfl⟩
theorem numsOf_inj {s t : ByteArray} (h : numsOf s = numsOf t) : s = t := by
  unfold numsOf at h
  have h2 : s.data.toList = t.data.toList := by
    refine List.map_inj_right (fun x y hxy => ?_) |>.1 h
    have : x.toNat = y.toNat := by omega
    exact UInt8.toNat_inj.1 this
  exact ByteArray.ext (Array.toList_inj.1 h2)
theorem str_data (xs : List Int) : (strOfNums xs).data.toList = Lib.bytesOf xs := by
  rw [← Lib.toList_data]
  exact Lib.strOfNums_toList xs
theorem numsOf_str (xs : List Int) (hx : ∀ x ∈ xs, 0 ≤ x ∧ x ≤ 255) : numsOf (strOfNums xs) = xs := by
  unfold numsOf
  rw [str_data]
  unfold Lib.bytesOf
  rw [List.map_map]
  conv => rhs; rw [← List.map_id xs]
  refine List.map_congr_left fun x hm => ?_
  have h1 := hx x hm
  have h2 : (UInt8.ofNat x.toNat).toNat = x.toNat % 256 := rfl
  show ((UInt8.ofNat x.toNat).toNat : Int) = x
  omega
theorem str_numsOf (s : ByteArray) : strOfNums (numsOf s) = s := numsOf_inj (numsOf_str _ (numsOf_bytes s))
theorem bytes_numsOf (l : List UInt8) : Lib.bytesOf (numsOf ⟨l.toArray⟩) = l := by
  rw [← str_data, str_numsOf]
theorem kindUpto_word (s : ByteArray) : ∀ i, kindUpto s i ≠ 0 → 1 ≤ kindUpto s i ∧ wordAt ((kindUpto s i : Nat) : Int) = s
  | 0, h => absurd rfl h
  | i + 1, h => by
    unfold kindUpto at h ⊢
    split
    · rename_i h1
      exact ⟨by omega, h1⟩
    · rename_i h1
      rw [if_neg h1] at h
      exact kindUpto_word s i h
theorem decF_is {l : List UInt8} {v : Nat} (h : decF l = (v, 0)) : l = Lib.decDigits v ∧ v ≤ 4611686018427387903 := by
  by_cases h1 : ∃ n : Nat, n ≤ 4611686018427387903 ∧ Lib.decDigits n = l
  · obtain ⟨n, hn, rfl⟩ := h1
    rw [decF_dec n hn] at h
    simp only [Prod.mk.injEq] at h
    rw [h.1] at hn
    exact ⟨by rw [h.1], hn⟩
  · rw [decF_other fun n hn he => h1 ⟨n, hn, he⟩] at h
    simp at h
/-- A row is an object's front and body. -/
def IsObj (xs : List Int) (k : Nat) (ys : List Int) : Prop := 1 ≤ k ∧ k ≤ 4 ∧ xs = wholeOf (k : Int) ys.length ys
theorem whole_parts (k : Int) (m : Nat) (ys : List Int) : wholeOf k m ys = (numsOf (wordAt k) ++ 32 :: numsOf (⟨(Lib.decDigits m).toArray⟩ : ByteArray)) ++ 0 :: ys := by
  unfold wholeOf frontOf
  rw [numsOf_append, numsOf_append, numsOf_append]
  have e1 : numsOf (⟨#[32]⟩ : ByteArray) = [32] := rfl
  have e2 : numsOf (⟨#[0]⟩ : ByteArray) = [0] := rfl
  rw [e1, e2]
  simp
theorem word_no (k : Nat) (h1 : 1 ≤ k) (h4 : k ≤ 4) : (0 : Int) ∉ numsOf (wordAt (k : Int)) ∧ (32 : Int) ∉ numsOf (wordAt (k : Int)) := by
  obtain rfl | rfl | rfl | rfl : k = 1 ∨ k = 2 ∨ k = 3 ∨ k = 4 := by omega
  all_goals decide
theorem dec_no (m : Nat) : (0 : Int) ∉ numsOf (⟨(Lib.decDigits m).toArray⟩ : ByteArray) := by
  intro h
  unfold numsOf at h
  obtain ⟨c, hc, h0⟩ := List.mem_map.1 h
  have := dec_digit m m (Nat.le_refl _) c (by simpa using hc)
  omega
theorem front_no (k : Nat) (h1 : 1 ≤ k) (h4 : k ≤ 4) (m : Nat) : (0 : Int) ∉ numsOf (wordAt (k : Int)) ++ 32 :: numsOf (⟨(Lib.decDigits m).toArray⟩ : ByteArray) := by
  intro h
  rcases List.mem_append.1 h with h | h
  · exact (word_no k h1 h4).1 h
  · rcases List.mem_cons.1 h with h | h
    · cases h
    · exact dec_no m h
theorem obj_zero {xs : List Int} (h : (0 : Int) ∉ xs) (k : Nat) (ys : List Int) : ¬ IsObj xs k ys := by
  rintro ⟨h1, h4, rfl⟩
  rw [whole_parts] at h
  exact h (by simp)
theorem obj_first {xs : List Int} {i : Nat} (hi : xs[i]? = some 0) (hn : (0 : Int) ∉ xs.take i) {k : Nat} {ys : List Int} (h : IsObj xs k ys) :
    xs.take i = numsOf (wordAt (k : Int)) ++ 32 :: numsOf (⟨(Lib.decDigits ys.length).toArray⟩ : ByteArray) ∧ xs.drop (i + 1) = ys := by
  obtain ⟨h1, h4, h⟩ := h
  rw [whole_parts] at h
  have e := first_unique h (front_no k h1 h4 _) hi hn
  generalize numsOf (wordAt (k : Int)) ++ 32 :: numsOf (⟨(Lib.decDigits ys.length).toArray⟩ : ByteArray) = A at *
  subst e h
  constructor
  · exact List.take_left' rfl
  · rw [show A ++ 0 :: ys = (A ++ [0]) ++ ys by simp]
    exact List.drop_left' (by simp)
theorem obj_blank {xs : List Int} {i : Nat} (hi : xs[i]? = some 0) (hn : (0 : Int) ∉ xs.take i) (h : (32 : Int) ∉ xs.take i) (k : Nat) (ys : List Int) : ¬ IsObj xs k ys := by
  intro ho
  rw [(obj_first hi hn ho).1] at h
  exact h (by simp)
theorem obj_iff {xs : List Int} (hx : ∀ x ∈ xs, 0 ≤ x ∧ x ≤ 255) {i j : Nat} (hi : xs[i]? = some 0) (hn : (0 : Int) ∉ xs.take i) (hj : (xs.take i)[j]? = some 32) (hm : (32 : Int) ∉ (xs.take i).take j) (hl : xs.length ≤ 4611686018427387903) (k : Nat) (ys : List Int) :
    IsObj xs k ys ↔ (k ≠ 0 ∧ kindUpto (strOfNums ((xs.take i).take j)) 4 = k ∧ ys = xs.drop (i + 1) ∧ decF (Lib.bytesOf ((xs.take i).drop (j + 1))) = ((xs.drop (i + 1)).length, 0)) := by
  constructor
  · intro h
    obtain ⟨e1, e2⟩ := obj_first hi hn h
    obtain ⟨h1, h4, -⟩ := h
    have e := first_unique e1 (word_no k h1 h4).2 hj hm
    have hyl : ys.length ≤ 4611686018427387903 := by rw [← e2, List.length_drop]; omega
    rw [e1, e2]
    generalize hw : numsOf (wordAt (k : Int)) = A at *
    subst e
    refine ⟨by omega, ?_, rfl, ?_⟩
    · rw [List.take_left' rfl, ← hw, str_numsOf]
      obtain ⟨k', rfl⟩ : ∃ k', k = k' + 1 := ⟨k - 1, by omega⟩
      exact kind_first _ k' (by omega) rfl
    · rw [show A ++ 32 :: numsOf (⟨(Lib.decDigits ys.length).toArray⟩ : ByteArray) = (A ++ [32]) ++ numsOf (⟨(Lib.decDigits ys.length).toArray⟩ : ByteArray) by simp, List.drop_left' (by simp), bytes_numsOf]
      exact decF_dec _ hyl
  · rintro ⟨hk, hu, rfl, hd⟩
    have hk2 := kindUpto_word (strOfNums ((xs.take i).take j)) 4 (by rw [hu]; exact hk)
    have hk4 := kindUpto_le (strOfNums ((xs.take i).take j)) 4
    rw [hu] at hk2 hk4
    obtain ⟨hd1, -⟩ := decF_is hd
    refine ⟨hk2.1, hk4, ?_⟩
    have hmem : ∀ x ∈ (xs.take i), 0 ≤ x ∧ x ≤ 255 := fun x h => hx x (List.mem_of_mem_take h)
    rw [whole_parts, hk2.2, numsOf_str _ (fun x h => hmem x (List.mem_of_mem_take h)), ← hd1]
    have e3 : numsOf (⟨(Lib.bytesOf ((xs.take i).drop (j + 1))).toArray⟩ : ByteArray) = (xs.take i).drop (j + 1) := by
      have h1 : (⟨(Lib.bytesOf ((xs.take i).drop (j + 1))).toArray⟩ : ByteArray) = strOfNums ((xs.take i).drop (j + 1)) := by
        refine ByteArray.ext (Array.toList_inj.1 ?_)
        rw [str_data]
      rw [h1]
      exact numsOf_str _ fun x h => hmem x (List.mem_of_mem_drop h)
    rw [e3]
    have part : ∀ (l : List Int) (n : Nat) (z : Int), l[n]? = some z → l = l.take n ++ z :: l.drop (n + 1) := by
      intro l n z h
      have hlt : n < l.length := by
        rcases Nat.lt_or_ge n l.length with h1 | h1
        · exact h1
        · rw [List.getElem?_eq_none h1] at h; cases h
      rw [List.getElem?_eq_getElem hlt] at h
      injection h with h
      conv => lhs; rw [← List.take_append_drop n l, List.drop_eq_getElem_cons hlt, h]
    rw [← part _ _ _ hj]
    exact part _ _ _ hi
end Go.Proofs.YtglgchjkonjpiaaGreatDoor
