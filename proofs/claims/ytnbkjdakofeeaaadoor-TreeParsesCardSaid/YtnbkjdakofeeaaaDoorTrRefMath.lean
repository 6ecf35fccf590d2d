/- The document's reading of entries: where a word ends, where a name does. -/
import Derived.Test.YtnbkjdakofeeaaaDoorTrRefRight
namespace Go.Proofs.YtnbkjdakofeeaaaDoor
open Go.RowKit Plain
set_option linter.unusedVariables false
theorem scan_not {l : List UInt8} {k e : Nat} {c : UInt8} (h : ∀ j, k ≤ j → j < e → l[j]? ≠ some c) : c ∉ (l.drop k).take (e - k) := fun hm => by
  obtain ⟨i, hi⟩ := List.mem_iff_getElem?.1 hm
  have hil := (List.getElem?_eq_some_iff.1 hi).1
  rw [List.length_take] at hil
  rw [List.getElem?_take_of_lt (by omega), List.getElem?_drop] at hi
  exact h (k + i) (by omega) (by omega) hi
theorem scan_split {l : List UInt8} {k e : Nat} {c : UInt8} (hk : k ≤ e) (h : l[e]? = some c) : l.drop k = (l.drop k).take (e - k) ++ c :: l.drop (e + 1) := by
  obtain ⟨hi, he⟩ := List.getElem?_eq_some_iff.1 h
  have h1 := List.take_append_drop (e - k) (l.drop k)
  rw [List.drop_drop, show k + (e - k) = e by omega, List.drop_eq_getElem_cons hi, he] at h1
  exact h1.symm
theorem scan_cut {l : List UInt8} {k e : Nat} {c : UInt8} (hk : k ≤ e) (h10 : l[e]? = some c) (h : ∀ j, k ≤ j → j < e → l[j]? ≠ some c) : Lib.cut (l.drop k) [c] = ((l.drop k).take (e - k), l.drop (e + 1), true) := by
  have := cut_at ((l.drop k).take (e - k)) (l.drop (e + 1)) c (scan_not h)
  rw [← scan_split hk h10] at this
  exact this
theorem scan_none {l : List UInt8} {k : Nat} {c : UInt8} (h : ∀ j, k ≤ j → j < l.length → l[j]? ≠ some c) : (Lib.cut (l.drop k) [c]).2.2 = false := by
  have hn := scan_not h
  rw [List.take_of_length_le (by rw [List.length_drop]; omega)] at hn
  rw [cut_not _ _ hn]
theorem no_blank {l : List UInt8} {k : Nat} (h : ∀ j, k ≤ j → j < l.length → l[j]? ≠ some 32) : entT (l.drop k) = false := by
  unfold entT
  rw [scan_none h]
  rfl
theorem far_blank {l : List UInt8} {k e : Nat} (he : e = k + 7) (h : ∀ j, k ≤ j → j < e → l[j]? ≠ some 32) : entT (l.drop k) = false := by
  rw [Bool.eq_false_iff]
  intro ho
  obtain ⟨⟨h1, h2, h3⟩, h4, h5⟩ := ent_parts ho
  have h6 := (digits_mode h4).2.2
  obtain ⟨d, hd⟩ : ∃ d, digT (l.drop k) = d := ⟨_, rfl⟩
  rw [hd] at h1 h6
  have h7 : (l.drop k)[d.length]? = some 32 := by
    rw [h1, List.getElem?_append_right (Nat.le_refl _), Nat.sub_self, List.getElem?_cons_zero]
  rw [List.getElem?_drop] at h7
  exact h _ (by omega) (by omega) h7
theorem word_mode {l : List UInt8} {k e : Nat} (hk : k ≤ e) (h32 : l[e]? = some 32) (h : ∀ j, k ≤ j → j < e → l[j]? ≠ some 32) (hm : modeOf ((l.drop k).take (e - k)) = 0) : entT (l.drop k) = false := by
  unfold entT digT
  rw [scan_cut hk h32 h, hm]
  simp
theorem no_name {l : List UInt8} {k e : Nat} (hk : k ≤ e) (h32 : l[e]? = some 32) (h : ∀ j, k ≤ j → j < e → l[j]? ≠ some 32) (h0 : ∀ j, e + 1 ≤ j → j < l.length → l[j]? ≠ some 0) : entT (l.drop k) = false := by
  unfold entT behT
  rw [scan_cut hk h32 h]
  simp only
  rw [scan_none h0]
  simp
theorem ent_here {l : List UInt8} {k e z : Nat} (hk : k ≤ e) (h32 : l[e]? = some 32) (h : ∀ j, k ≤ j → j < e → l[j]? ≠ some 32) (hz : e + 1 ≤ z) (hz0 : l[z]? = some 0) (h0 : ∀ j, e + 1 ≤ j → j < z → l[j]? ≠ some 0) :
    entT (l.drop k) = (!(modeOf ((l.drop k).take (e - k)) == 0) && decide (21 ≤ l.length - z)) ∧
    isT (l.drop k) = ⟨modeOf ((l.drop k).take (e - k)), txt ((l.drop (e + 1)).take (z - (e + 1))), numsOf (txt ((l.drop (z + 1)).take 20))⟩ ∧ rsT (l.drop k) = l.drop (z + 21) := by
  have c1 := scan_cut hk h32 h
  have c2 := scan_cut hz hz0 h0
  have hd : digT (l.drop k) = (l.drop k).take (e - k) := by unfold digT; rw [c1]
  have hb : behT (l.drop k) = l.drop (e + 1) := by unfold behT; rw [c1]
  have hn : namT (l.drop k) = (l.drop (e + 1)).take (z - (e + 1)) := by unfold namT; rw [hb, c2]
  have ht : talT (l.drop k) = l.drop (z + 1) := by unfold talT; rw [hb, c2]
  have hzl := (List.getElem?_eq_some_iff.1 hz0).1
  refine ⟨?_, ?_, ?_⟩
  · unfold entT
    rw [hb, hd, ht, c1, c2, List.length_drop]
    simp only [Bool.true_and]
    congr 1
    rw [decide_eq_decide]
    omega
  · unfold isT
    rw [hd, hn, ht]
  · unfold rsT
    rw [ht, List.drop_drop]
/-- The mode that the loop over the first modes has found. -/
def modeUp (l : List UInt8) : Nat → Int
  | 0 => 0
  | j + 1 => if (digitsL (modeAt j) == l) = true then modeAt j else modeUp l j
theorem modeUp_yes {l : List UInt8} {j : Nat} (h : (digitsL (modeAt j) == l) = true) : modeUp l (j + 1) = modeAt j := by rw [modeUp, if_pos h]
theorem modeUp_no {l : List UInt8} {j : Nat} (h : (digitsL (modeAt j) == l) = false) : modeUp l (j + 1) = modeUp l j := by rw [modeUp, if_neg (by rw [h]; decide)]
theorem modeUp_all (l : List UInt8) : modeUp l 5 = modeOf l := by
  cases h4 : (digitsL (modeAt 4) == l)
  · rw [modeUp_no h4]
    cases h3 : (digitsL (modeAt 3) == l)
    · rw [modeUp_no h3]
      cases h2 : (digitsL (modeAt 2) == l)
      · rw [modeUp_no h2]
        cases h1 : (digitsL (modeAt 1) == l)
        · rw [modeUp_no h1]
          cases h0 : (digitsL (modeAt 0) == l)
          · rw [modeUp_no h0, modeOf_no fun j hj => ?_]
            · rfl
            · have : j = 0 ∨ j = 1 ∨ j = 2 ∨ j = 3 ∨ j = 4 := by omega
              rcases this with rfl | rfl | rfl | rfl | rfl <;> assumption
          · rw [modeUp_yes h0, modeOf_at h0]
        · rw [modeUp_yes h1, modeOf_at h1]
      · rw [modeUp_yes h2, modeOf_at h2]
    · rw [modeUp_yes h3, modeOf_at h3]
  · rw [modeUp_yes h4, modeOf_at h4]
/-- Twenty bytes, the first of them told. -/
def idUp (l : List UInt8) (z i : Nat) : List Int := (numsOf (txt ((l.drop (z + 1)).take 20))).take i ++ zeros20.drop i
theorem idUp_len {l : List UInt8} {z : Nat} (h : 21 ≤ l.length - z) (i : Nat) (hi : i ≤ 20) : (idUp l z i).length = 20 := by
  unfold idUp
  rw [List.length_append, List.length_take, List.length_drop, numsOf_length, txt_size, List.length_take, List.length_drop, zeros20_len]
  omega
theorem idUp_zero (l : List UInt8) (z : Nat) : idUp l z 0 = zeros20 := rfl
theorem idUp_all {l : List UInt8} {z : Nat} (h : 21 ≤ l.length - z) : idUp l z 20 = numsOf (txt ((l.drop (z + 1)).take 20)) := by
  unfold idUp
  rw [List.take_of_length_le (by rw [numsOf_length, txt_size, List.length_take]; omega), show zeros20.drop 20 = [] from rfl, List.append_nil]
theorem idUp_set {l : List UInt8} {z : Nat} (h : 21 ≤ l.length - z) (i : Nat) (hi : i < 20) : (idUp l z i).set i ((l[z + 1 + i]?.getD 0).toNat : Int) = idUp l z (i + 1) := by
  have hnl : (numsOf (txt ((l.drop (z + 1)).take 20))).length = 20 := by rw [numsOf_length, txt_size, List.length_take, List.length_drop]; omega
  have hg : (numsOf (txt ((l.drop (z + 1)).take 20)))[i]? = some ((l[z + 1 + i]?.getD 0).toNat : Int) := by
    unfold numsOf
    rw [txt_list, List.getElem?_map, List.getElem?_take_of_lt hi, List.getElem?_drop, List.getElem?_eq_getElem (by omega)]
    rfl
  unfold idUp
  generalize numsOf (txt ((l.drop (z + 1)).take 20)) = N at *
  rw [List.take_add_one, hg]
  have h1 : (N.take i).length = i := by rw [List.length_take, hnl]; omega
  rw [List.set_append_right _ _ (by omega), h1, Nat.sub_self, List.drop_eq_getElem_cons (by rw [zeros20_len]; exact hi), List.set_cons_zero, List.append_assoc]
  rfl
theorem entA_mode (m m' : Int) (p : ByteArray) (n : List Int) : (entA ⟨m, p, n⟩).setIfInBounds 0 (.int .i64 m') = entA ⟨m', p, n⟩ := by
  unfold entA entL
  rw [List.setIfInBounds_toArray, List.set_cons_zero]
theorem entA_name (m : Int) (p p' : ByteArray) (n : List Int) : (entA ⟨m, p, n⟩).setIfInBounds 1 (.string p') = entA ⟨m, p', n⟩ := by
  unfold entA entL
  rw [List.setIfInBounds_toArray, List.set_cons_succ, List.set_cons_zero]
theorem entA_id (m : Int) (p : ByteArray) (n : List Int) (i : Nat) (c : Int) : (entA ⟨m, p, n⟩).setIfInBounds (2 + i) (.int .u8 c) = entA ⟨m, p, n.set i c⟩ := by
  unfold entA entL
  rw [List.setIfInBounds_toArray, show 2 + i = i + 1 + 1 by omega, List.set_cons_succ, List.set_cons_succ]
  unfold U8
  rw [List.map_set]
end Go.Proofs.YtnbkjdakofeeaaaDoor
