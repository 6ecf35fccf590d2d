/- Heaps as lists: maths. -/
import Derived.Test.YthadgepihjigeaaRows
namespace Go.Proofs.Ythadgepihjigeaa
set_option linter.unusedVariables false
namespace Plain
/-- The i-th number. -/
def at0 (xs : List Int) (i : Nat) : Int := xs[i]?.getD 0
def swapL (xs : List Int) (i j : Nat) : List Int := (xs.set i (at0 xs j)).set j (at0 xs i)
theorem swapL_len (xs : List Int) (i j : Nat) : (swapL xs i j).length = xs.length := by simp [swapL]
theorem at0_set (xs : List Int) (i k : Nat) (x : Int) (hi : i < xs.length) : at0 (xs.set i x) k = if k = i then x else at0 xs k := by
  unfold at0
  by_cases h : k = i
  · subst h
    rw [if_pos rfl, List.getElem?_set_self hi]
    rfl
  · rw [if_neg h, List.getElem?_set_ne (Ne.symm h)]
theorem swapL_at (xs : List Int) (i j k : Nat) (hi : i < xs.length) (hj : j < xs.length) : at0 (swapL xs i j) k = if k = j then at0 xs i else if k = i then at0 xs j else at0 xs k := by
  unfold swapL
  rw [at0_set _ _ _ _ (by simpa using hj), at0_set _ _ _ _ hi]
theorem swapL_perm (xs : List Int) (i j : Nat) (hi : i < xs.length) (hj : j < xs.length) : (swapL xs i j).Perm xs := by
  have h := Array.swap_perm (xs := xs.toArray) (i := i) (j := j) (by simpa using hi) (by simpa using hj)
  have e : (xs.toArray.swap i j (by simpa using hi) (by simpa using hj)).toList = swapL xs i j := by
    unfold swapL at0
    rw [Array.swap_def]
    simp [List.getElem?_eq_getElem hi, List.getElem?_eq_getElem hj]
  have h2 := Array.perm_iff_toList_perm.1 h
  rw [e] at h2
  simpa using h2
def HeapOk (xs : List Int) : Prop := ∀ i, 0 < i → i < xs.length → at0 xs ((i - 1) / 2) ≤ at0 xs i
/-- All is well but at i, looked at from above. -/
def UpOk (xs : List Int) (i : Nat) : Prop := (∀ j, 0 < j → j < xs.length → j ≠ i → at0 xs ((j - 1) / 2) ≤ at0 xs j) ∧ (0 < i → ∀ j, 0 < j → j < xs.length → (j - 1) / 2 = i → at0 xs ((i - 1) / 2) ≤ at0 xs j)
theorem up_start {xs : List Int} {x : Int} (h : HeapOk xs) : UpOk (xs ++ [x]) xs.length := by
  have e : ∀ j, j < xs.length → at0 (xs ++ [x]) j = at0 xs j := fun j hj => by
    unfold at0
    rw [List.getElem?_append_left hj]
  constructor
  · intro j h0 hj hne
    rw [List.length_append, List.length_singleton] at hj
    rw [e j (by omega), e _ (by omega)]
    exact h j h0 (by omega)
  · intro h0 j hj hl he
    rw [List.length_append, List.length_singleton] at hl
    omega
theorem up_done {xs : List Int} {i : Nat} (h : UpOk xs i) (hi : i = 0 ∨ at0 xs ((i - 1) / 2) ≤ at0 xs i) : HeapOk xs := by
  intro j h0 hj
  by_cases he : j = i
  · subst he
    rcases hi with hi | hi
    · omega
    · exact hi
  · exact h.1 j h0 hj he
theorem up_step {xs : List Int} {i : Nat} (h : UpOk xs i) (h0 : 0 < i) (hi : i < xs.length) (hlt : at0 xs i < at0 xs ((i - 1) / 2)) : UpOk (swapL xs i ((i - 1) / 2)) ((i - 1) / 2) := by
  have hu : (i - 1) / 2 < xs.length := by omega
  have hne : (i - 1) / 2 ≠ i := by omega
  obtain ⟨up, hup⟩ : ∃ up, (i - 1) / 2 = up := ⟨_, rfl⟩
  rw [hup] at hlt hu hne ⊢
  have g := fun k => swapL_at xs i up k hi hu
  constructor
  · intro j hj0 hj hju
    rw [swapL_len] at hj
    rw [g j, g ((j - 1) / 2)]
    rw [if_neg hju]
    by_cases hji : j = i
    · subst hji
      rw [if_pos rfl, hup, if_pos rfl]
      omega
    · rw [if_neg hji]
      by_cases hp : (j - 1) / 2 = up
      · rw [if_pos hp]
        have := h.1 j hj0 hj hji
        rw [hp] at this
        omega
      · rw [if_neg hp]
        by_cases hp2 : (j - 1) / 2 = i
        · rw [if_pos hp2]
          have := h.2 h0 j hj0 hj hp2
          rwa [hup] at this
        · rw [if_neg hp2]
          exact h.1 j hj0 hj hji
  · intro hu0 j hj0 hj hp
    rw [swapL_len] at hj
    rw [g j, g ((up - 1) / 2)]
    have h1 : (up - 1) / 2 ≠ up := by omega
    have h2 : (up - 1) / 2 ≠ i := by omega
    rw [if_neg h1, if_neg h2]
    have hup2 := h.1 up hu0 hu hne
    have hju : j ≠ up := by omega
    rw [if_neg hju]
    by_cases hji : j = i
    · rw [if_pos hji]
      exact hup2
    · rw [if_neg hji]
      have := h.1 j hj0 hj hji
      rw [hp] at this
      omega
/-- All is well but at i, looked at from below. -/
def DownOk (xs : List Int) (i : Nat) : Prop := (∀ j, 0 < j → j < xs.length → (j - 1) / 2 ≠ i → at0 xs ((j - 1) / 2) ≤ at0 xs j) ∧ (0 < i → ∀ j, 0 < j → j < xs.length → (j - 1) / 2 = i → at0 xs ((i - 1) / 2) ≤ at0 xs j)
/-- The place of the lesser one. -/
def lesserL (xs : List Int) (i j : Nat) : Nat := if j < xs.length ∧ at0 xs j < at0 xs i then j else i
def leastL (xs : List Int) (i : Nat) : Nat := lesserL xs (lesserL xs i (2 * i + 1)) (2 * i + 2)
theorem least_le (xs : List Int) (i : Nat) : at0 xs (leastL xs i) ≤ at0 xs i ∧ (2 * i + 1 < xs.length → at0 xs (leastL xs i) ≤ at0 xs (2 * i + 1)) ∧ (2 * i + 2 < xs.length → at0 xs (leastL xs i) ≤ at0 xs (2 * i + 2)) ∧ (leastL xs i = i ∨ (leastL xs i = 2 * i + 1 ∧ 2 * i + 1 < xs.length ∧ at0 xs (2 * i + 1) < at0 xs i) ∨ (leastL xs i = 2 * i + 2 ∧ 2 * i + 2 < xs.length ∧ at0 xs (2 * i + 2) < at0 xs i)) := by
  unfold leastL lesserL
  by_cases h1 : 2 * i + 1 < xs.length ∧ at0 xs (2 * i + 1) < at0 xs i
  · rw [if_pos h1]
    by_cases h2 : 2 * i + 2 < xs.length ∧ at0 xs (2 * i + 2) < at0 xs (2 * i + 1)
    · rw [if_pos h2]
      refine ⟨by omega, fun _ => by omega, fun _ => by omega, .inr (.inr ⟨rfl, h2.1, by omega⟩)⟩
    · rw [if_neg h2]
      refine ⟨by omega, fun _ => by omega, fun h => by omega, .inr (.inl ⟨rfl, h1⟩)⟩
  · rw [if_neg h1]
    by_cases h2 : 2 * i + 2 < xs.length ∧ at0 xs (2 * i + 2) < at0 xs i
    · rw [if_pos h2]
      refine ⟨by omega, fun _ => by omega, fun _ => by omega, .inr (.inr ⟨rfl, h2⟩)⟩
    · rw [if_neg h2]
      refine ⟨by omega, fun h => by omega, fun h => by omega, .inl rfl⟩
theorem down_done {xs : List Int} {i : Nat} (h : DownOk xs i) (hi : leastL xs i = i) : HeapOk xs := by
  intro j h0 hj
  by_cases hp : (j - 1) / 2 = i
  · obtain ⟨-, l1, l2, -⟩ := least_le xs i
    rw [hi] at l1 l2
    rw [hp]
    have : j = 2 * i + 1 ∨ j = 2 * i + 2 := by omega
    rcases this with rfl | rfl
    · exact l1 hj
    · exact l2 hj
  · exact h.1 j h0 hj hp
theorem down_step {xs : List Int} {i : Nat} (h : DownOk xs i) (hi : i < xs.length) (hne : leastL xs i ≠ i) : DownOk (swapL xs i (leastL xs i)) (leastL xs i) ∧ leastL xs i < xs.length ∧ i < leastL xs i := by
  obtain ⟨l0, l1, l2, l3⟩ := least_le xs i
  obtain ⟨m, hm⟩ : ∃ m, leastL xs i = m := ⟨_, rfl⟩
  rw [hm] at l0 l1 l2 l3 hne ⊢
  have hc : (m = 2 * i + 1 ∨ m = 2 * i + 2) ∧ m < xs.length ∧ at0 xs m < at0 xs i := by
    rcases l3 with l3 | ⟨rfl, h1, h2⟩ | ⟨rfl, h1, h2⟩
    · exact absurd l3 hne
    · exact ⟨.inl rfl, h1, h2⟩
    · exact ⟨.inr rfl, h1, h2⟩
  obtain ⟨hc1, hml, hlt⟩ := hc
  have him : i < m := by omega
  have hpm : (m - 1) / 2 = i := by omega
  refine ⟨⟨?_, ?_⟩, hml, him⟩
  · intro j hj0 hj hjp
    rw [swapL_len] at hj
    rw [swapL_at xs i m j hi hml, swapL_at xs i m ((j - 1) / 2) hi hml, if_neg hjp]
    by_cases hjm : j = m
    · subst hjm
      rw [if_pos rfl, if_pos hpm]
      omega
    · rw [if_neg hjm]
      by_cases hji : j = i
      · subst hji
        rw [if_pos rfl]
        have h1 : (j - 1) / 2 ≠ j := by omega
        rw [if_neg h1]
        exact h.2 hj0 m (by omega) hml hpm
      · rw [if_neg hji]
        by_cases hp2 : (j - 1) / 2 = i
        · rw [if_pos hp2]
          have : j = 2 * i + 1 ∨ j = 2 * i + 2 := by omega
          rcases this with rfl | rfl
          · exact l1 hj
          · exact l2 hj
        · rw [if_neg hp2]
          exact h.1 j hj0 hj hp2
  · intro hm0 j hj0 hj hjp
    rw [swapL_len] at hj
    rw [swapL_at xs i m j hi hml, swapL_at xs i m ((m - 1) / 2) hi hml, hpm, if_neg (show i ≠ m by omega), if_pos rfl, if_neg (show j ≠ m by omega), if_neg (show j ≠ i by omega)]
    have := h.1 j hj0 hj (by rw [hjp]; omega)
    rwa [hjp] at this
theorem heap_min {xs : List Int} (h : HeapOk xs) : ∀ i, i < xs.length → at0 xs 0 ≤ at0 xs i := by
  intro i
  induction i using Nat.strongRecOn with
  | _ i ih =>
    intro hi
    by_cases h0 : i = 0
    · subst h0; exact Int.le_refl _
    · exact Int.le_trans (ih ((i - 1) / 2) (by omega) (by omega)) (h i (by omega) hi)
/-- The first one away: the last one in its stead. -/
theorem down_start {xs : List Int} {n : Nat} (h : HeapOk xs) (hn : xs.length = n + 1) : DownOk ((swapL xs 0 n).take n) 0 ∧ ((swapL xs 0 n).take n ++ [at0 xs 0]).Perm xs := by
  have hl : (swapL xs 0 n).length = n + 1 := by rw [swapL_len, hn]
  have g := fun k => swapL_at xs 0 n k (by omega) (by omega)
  have e : ∀ k, k < n → 0 < k → at0 ((swapL xs 0 n).take n) k = at0 xs k := fun k hk h0 => by
    have h1 : at0 ((swapL xs 0 n).take n) k = at0 (swapL xs 0 n) k := by unfold at0; rw [List.getElem?_take_of_lt hk]
    rw [h1, g k, if_neg (by omega), if_neg (by omega)]
  constructor
  · constructor
    · intro j hj0 hj hjp
      rw [List.length_take, hl] at hj
      rw [e j (by omega) hj0, e _ (by omega) (by omega)]
      exact h j hj0 (by omega)
    · intro h0; omega
  · have h1 : (swapL xs 0 n).take n ++ [at0 xs 0] = swapL xs 0 n := by
      have h2 : (swapL xs 0 n)[n]? = some (at0 xs 0) := by
        have := g n
        rw [if_pos rfl] at this
        unfold at0 at this
        rw [List.getElem?_eq_getElem (by omega)] at this ⊢
        rw [Option.getD_some] at this
        rw [this]; rfl
      conv => rhs; rw [← List.take_append_drop n (swapL xs 0 n)]
      congr 1
      rw [List.drop_eq_getElem_cons (by omega)]
      rw [List.getElem?_eq_getElem (by omega)] at h2
      injection h2 with h2
      rw [h2, List.drop_of_length_le (by omega)]
    rw [h1]
    exact swapL_perm xs 0 n (by omega) (by omega)
end Plain
end Go.Proofs.Ythadgepihjigeaa
