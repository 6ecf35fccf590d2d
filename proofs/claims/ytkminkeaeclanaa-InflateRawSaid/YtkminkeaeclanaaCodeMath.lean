/- A code's numbers, plainly: what counting lays. -/
import Derived.Test.YtkminkeaeclanaaSign
namespace Go.Proofs.Ytkminkeaeclanaa
set_option linter.unusedVariables false
open Plain
theorem getD_map_range (f : Nat → Nat) (n k : Nat) (h : k < n) : ((List.range n).map f).getD k 0 = f k := by
  rw [List.getD_eq_getElem?_getD, List.getElem?_map, List.getElem?_range h]; rfl
theorem cntOf_len (ls : List Nat) : (cntOf ls).length = 16 := by simp [cntOf]
theorem cntOf_get (ls : List Nat) (k : Nat) (h : k < 16) : (cntOf ls).getD k 0 = if k = 0 then 0 else ls.count k := getD_map_range _ 16 k h
/-- How many signs have fewer bits, but some. -/
def startOf (ls : List Nat) (k : Nat) : Nat := ((cntOf ls).take k).sum
theorem startOf_succ (ls : List Nat) (k : Nat) (h : k < 16) : startOf ls (k + 1) = startOf ls k + (cntOf ls).getD k 0 := sum_take_succ _ _ (by rw [cntOf_len]; exact h)
theorem idx_snoc (l : List Nat) (x n : Nat) : idxOf (l ++ [x]) n = if x = n then idxOf l n ++ [l.length] else idxOf l n := by
  unfold idxOf
  rw [List.length_append, List.length_singleton, List.range_succ, List.filter_append]
  have e1 : (List.range l.length).filter (fun i => (l ++ [x]).getD i 0 == n) = (List.range l.length).filter (fun i => l.getD i 0 == n) := by
    apply List.filter_congr
    intro i hi
    rw [List.mem_range] at hi
    rw [List.getD_eq_getElem?_getD, List.getD_eq_getElem?_getD, List.getElem?_append_left hi]
  have e2 : (l ++ [x]).getD l.length 0 = x := by
    rw [List.getD_eq_getElem?_getD, List.getElem?_append_right (Nat.le_refl _), Nat.sub_self]; rfl
  rw [e1]
  simp only [List.filter_cons, List.filter_nil, e2]
  by_cases h : x = n
  · simp [h]
  · simp [h]
theorem take_snoc (ls : List Nat) (i : Nat) (h : i < ls.length) : ls.take (i + 1) = ls.take i ++ [ls.getD i 0] := by
  rw [List.take_succ_eq_append_getElem h, List.getD_eq_getElem?_getD, List.getElem?_eq_getElem h]; rfl
theorem idx_len_take (ls : List Nat) (n : Nat) : ∀ i, i ≤ ls.length → (idxOf (ls.take i) n).length = (ls.take i).count n
  | 0, _ => rfl
  | i + 1, h => by
    have ih := idx_len_take ls n i (by omega)
    rw [take_snoc ls i (by omega), idx_snoc, List.count_append, ← ih]
    by_cases hx : ls.getD i 0 = n
    · rw [if_pos hx, hx]; simp
    · rw [if_neg hx]
      generalize ls.getD i 0 = y at *
      simp [hx]
theorem idx_len (ls : List Nat) (n : Nat) : (idxOf ls n).length = ls.count n := by
  have := idx_len_take ls n ls.length (Nat.le_refl _)
  rwa [List.take_length] at this
theorem flat_get (f : Nat → List Nat) : ∀ (n k j : Nat), k < n → j < (f k).length → ((List.range n).flatMap f).getD ((((List.range n).map (fun i => (f i).length)).take k).sum + j) 0 = (f k).getD j 0
  | 0, k, j, h, _ => by omega
  | n + 1, k, j, h, hj => by
    rw [List.range_succ, List.flatMap_append, List.map_append]
    have hlen : ((List.range n).flatMap f).length = ((List.range n).map (fun i => (f i).length)).sum := by rw [List.length_flatMap]
    by_cases hk : k < n
    · have ih := flat_get f n k j hk hj
      have htk : ((List.range n).map (fun i => (f i).length) ++ [n].map (fun i => (f i).length)).take k = ((List.range n).map (fun i => (f i).length)).take k := by
        rw [List.take_append_of_le_length (by simp; omega)]
      rw [htk, List.getD_eq_getElem?_getD, List.getElem?_append_left ?_, ← List.getD_eq_getElem?_getD, ih]
      rw [hlen]
      have h1 := sum_take_le ((List.range n).map (fun i => (f i).length)) k (by simp; omega)
      rw [getD_map_range _ _ _ hk] at h1
      omega
    · obtain rfl : k = n := by omega
      have htk : ((List.range k).map (fun i => (f i).length) ++ [k].map (fun i => (f i).length)).take k = (List.range k).map (fun i => (f i).length) := by
        rw [List.take_append_of_le_length (by simp), List.take_of_length_le (by simp)]
      rw [htk, List.getD_eq_getElem?_getD, List.getElem?_append_right (by rw [hlen]; omega), hlen, Nat.add_sub_cancel_left]
      simp [List.getD_eq_getElem?_getD]
theorem start_eq (ls : List Nat) (k : Nat) (h : k < 16) : startOf ls (k + 1) = (((List.range 15).map (fun i => (idxOf ls (i + 1)).length)).take k).sum := by
  unfold startOf
  have e : (cntOf ls).take (k + 1) = 0 :: ((List.range 15).map (fun i => (idxOf ls (i + 1)).length)).take k := by
    unfold cntOf
    rw [show (List.range 16) = 0 :: (List.range 15).map (· + 1) from by decide, List.map_cons, List.take_succ_cons, if_pos rfl, List.map_map]
    congr 2
    apply List.map_congr_left
    intro i _
    simp [idx_len]
  rw [e, List.sum_cons, Nat.zero_add]
theorem sg_get (ls : List Nat) (k j : Nat) (h1 : 1 ≤ k) (h2 : k < 16) (hj : j < ls.count k) : (sgOf ls).getD (startOf ls k + j) 0 = (idxOf ls k).getD j 0 := by
  obtain ⟨i, rfl⟩ : ∃ i, k = i + 1 := ⟨k - 1, by omega⟩
  rw [start_eq ls i (by omega)]
  exact flat_get (fun i => idxOf ls (i + 1)) 15 i j (by omega) (by rw [idx_len]; exact hj)
theorem sg_len (ls : List Nat) : (sgOf ls).length = startOf ls 16 := by
  rw [start_eq ls 15 (by omega), List.take_of_length_le (by simp)]
  unfold sgOf
  rw [List.length_flatMap]
/-- Each place belongs to one length. -/
theorem place_of (ls : List Nat) : ∀ (n m : Nat), n ≤ 16 → m < startOf ls n → ∃ k j, 1 ≤ k ∧ k < n ∧ j < ls.count k ∧ m = startOf ls k + j
  | 0, m, hn, h => by simp [startOf] at h
  | n + 1, m, hn, h => by
    rw [startOf_succ _ _ (by omega), cntOf_get _ _ (by omega)] at h
    by_cases hm : m < startOf ls n
    · obtain ⟨k, j, h1, h2, h3, h4⟩ := place_of ls n m (by omega) hm
      exact ⟨k, j, h1, by omega, h3, h4⟩
    · by_cases h0 : n = 0
      · rw [if_pos h0] at h; omega
      · rw [if_neg h0] at h
        exact ⟨n, m - startOf ls n, by omega, by omega, by omega, by omega⟩
theorem start_mono (ls : List Nat) : ∀ (a b : Nat), a ≤ b → b ≤ 16 → startOf ls a ≤ startOf ls b
  | a, 0, h, _ => by obtain rfl : a = 0 := by omega
                     exact Nat.le_refl _
  | a, b + 1, h, hb => by
    by_cases e : a = b + 1
    · subst e; exact Nat.le_refl _
    · have := start_mono ls a b (by omega) (by omega)
      rw [startOf_succ _ _ (by omega)]; omega
theorem count_take_le (ls : List Nat) (i k : Nat) : (ls.take i).count k ≤ ls.count k := (List.take_sublist i ls).count_le k
theorem count_lt (ls : List Nat) (i : Nat) (h : i < ls.length) : (ls.take i).count (ls.getD i 0) < ls.count (ls.getD i 0) := by
  have h1 := count_take_le ls (i + 1) (ls.getD i 0)
  rw [take_snoc ls i h, List.count_append, List.count_singleton_self] at h1
  omega
theorem foldl_max_snoc (l : List Nat) (x : Nat) : (l ++ [x]).foldl max 0 = max (l.foldl max 0) x := by rw [List.foldl_append]; rfl
theorem foldl_max_le : ∀ (l : List Nat) (a m : Nat), a ≤ m → (∀ x ∈ l, x ≤ m) → l.foldl max a ≤ m
  | [], a, m, h, _ => h
  | x :: l, a, m, h, hx => foldl_max_le l (max a x) m (by have := hx x (by simp); omega) (fun y hy => hx y (by simp [hy]))
theorem sg_mem (ls : List Nat) (j : Nat) : (sgOf ls).getD j 0 ≤ ls.length := by
  by_cases hj : j < (sgOf ls).length
  · rw [List.getD_eq_getElem?_getD, List.getElem?_eq_getElem hj]
    have hm : (sgOf ls)[j] ∈ sgOf ls := List.getElem_mem hj
    show (sgOf ls)[j] ≤ _
    generalize (sgOf ls)[j] = x at *
    unfold sgOf at hm
    rw [List.mem_flatMap] at hm
    obtain ⟨n, -, hn⟩ := hm
    unfold idxOf at hn
    have := List.mem_range.1 (List.mem_filter.1 hn).1
    omega
  · rw [List.getD_eq_getElem?_getD, List.getElem?_eq_none (by omega)]; simp
theorem codeOk (ls : List Nat) (h : ∀ x ∈ ls, x ≤ 15) (hl : ls.length ≤ 1000) : CodeOk (codeOfN ls) := by
  have hle : (sgOf ls).length ≤ ls.length * 16 := by
    unfold sgOf
    rw [List.length_flatMap]
    have : ∀ (n : Nat), ((List.range n).map (fun i => (idxOf ls (i + 1)).length)).sum ≤ n * ls.length := fun n => by
      induction n with
      | zero => simp
      | succ n ih =>
        rw [List.range_succ, List.map_append, List.sum_append]
        have hc : ls.count (n + 1) ≤ ls.length := List.count_le_length
        rw [← idx_len] at hc
        simp only [List.map_cons, List.map_nil, List.sum_cons, List.sum_nil]
        rw [Nat.succ_mul]
        omega
    have := this 15
    omega
  refine ⟨cntOf_len ls, by rw [codeOfN, cntOf_get _ _ (by omega)]; rfl, ?_, foldl_max_le ls 0 15 (by omega) h, ?_, fun j => ?_⟩
  · show (cntOf ls).sum = (sgOf ls).length
    rw [sg_len, startOf, List.take_of_length_le (by rw [cntOf_len]; exact Nat.le_refl _)]
  · show (sgOf ls).length ≤ 100000
    omega
  · have := sg_mem ls j
    show (sgOf ls).getD j 0 ≤ 100000
    omega
end Go.Proofs.Ytkminkeaeclanaa
