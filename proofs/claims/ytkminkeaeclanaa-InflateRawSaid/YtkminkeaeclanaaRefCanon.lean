/- The document's codes are the program's: the same signs, the same good lengths. -/
import Derived.Test.YtkminkeaeclanaaRefSign
import Derived.Test.YtkminkeaeclanaaRefGood
import Derived.Test.YtkminkeaeclanaaSignsMath
namespace Go.Proofs.Ytkminkeaeclanaa
open Go.RowKit Plain
set_option linter.unusedVariables false
set_option linter.unusedSimpArgs false
/-- The first code of so many bits. -/
def firstOf (ls : List Nat) : Nat → Nat
  | 0 => 0
  | n + 1 => 2 * (firstOf ls n + (cntOf ls).getD n 0)
theorem cnt_zero (ls : List Nat) : (cntOf ls).getD 0 0 = 0 := by rw [cntOf_get _ _ (by omega)]; rfl
theorem cnt_pos (ls : List Nat) (n : Nat) (h1 : 1 ≤ n) (h2 : n < 16) : (cntOf ls).getD n 0 = ls.count n := by rw [cntOf_get _ _ h2, if_neg (by omega)]
theorem firstOf_one (ls : List Nat) : firstOf ls 1 = 0 := by simp only [firstOf, cnt_zero]
def Roomy (ls : List Nat) : Prop := ∀ n, n ≤ 15 → firstOf ls n + (cntOf ls).getD n 0 ≤ 2 ^ n
/-! ### What the document's codes are -/
structure CI (ls : List Nat) (K i : Nat) (st : CSt) : Prop where
  last : if (ls.take i).count K = 0 then (st.n0 < K ∧ firstOf ls K = if st.n0 = 0 then 0 else (st.v + 1) * 2 ^ (K - st.n0)) else (st.n0 = K ∧ st.v + 1 = firstOf ls K + (ls.take i).count K)
  out : ∀ t, t < ls.length → st.out.getD t (0, 0) = if 1 ≤ ls.getD t 0 ∧ (ls.getD t 0 < K ∨ (ls.getD t 0 = K ∧ t < i)) then (ls.getD t 0, firstOf ls (ls.getD t 0) + (ls.take t).count (ls.getD t 0)) else (0, 0)
  len : st.out.length = ls.length
theorem getD_set_pair (l : List (Nat × Nat)) (i j : Nat) (v : Nat × Nat) : (l.set i v).getD j (0, 0) = if i = j ∧ i < l.length then v else l.getD j (0, 0) := by
  rw [List.getD_eq_getElem?_getD, List.getElem?_set, List.getD_eq_getElem?_getD]
  by_cases h : i = j
  · subst h
    by_cases h2 : i < l.length
    · simp [h2]
    · simp [h2]
  · simp [h]
theorem ci_step {ls : List Nat} (hr : Roomy ls) {K i : Nat} {st : CSt} (h1 : 1 ≤ K) (h2 : K ≤ 15) (hi : i < ls.length) (h : CI ls K i st) : CI ls K (i + 1) (stepC ls K st i) := by
  have htk := take_snoc ls i hi
  unfold stepC
  by_cases hx : ls.getD i 0 = K
  · rw [if_pos hx]
    have hc : (ls.take (i + 1)).count K = (ls.take i).count K + 1 := by rw [htk, List.count_append, hx, List.count_singleton_self]
    have hlt : (ls.take i).count K < ls.count K := by rw [← hx]; exact count_lt ls i hi
    have hroom := hr K h2
    rw [cnt_pos ls K h1 (by omega)] at hroom
    have hn : nextC K st = firstOf ls K + (ls.take i).count K := by
      have hl := h.last
      unfold nextC
      by_cases hz : (ls.take i).count K = 0
      · rw [if_pos hz] at hl
        obtain ⟨hk, hf⟩ := hl
        rw [hz, Nat.add_zero, hf]
        by_cases h0 : st.n0 = 0
        · rw [if_pos h0, if_pos h0, Nat.zero_mul]
        · rw [if_neg h0, if_neg h0]
          rw [if_neg h0] at hf
          have hv : st.v + 1 < 2 ^ st.n0 := by
            rcases Nat.lt_or_ge (st.v + 1) (2 ^ st.n0) with hh | hh
            · exact hh
            · have h3 := Nat.mul_le_mul_right (2 ^ (K - st.n0)) hh
              rw [← Nat.pow_add, show st.n0 + (K - st.n0) = K by omega] at h3
              omega
          unfold nextN
          rw [if_pos hv]
      · rw [if_neg hz] at hl
        obtain ⟨hk, hf⟩ := hl
        rw [hk, if_neg (by omega), Nat.sub_self, Nat.pow_zero, Nat.mul_one]
        unfold nextN
        rw [if_pos (by omega)]; exact hf
    refine ⟨?_, fun t ht => ?_, by rw [List.length_set]; exact h.len⟩
    · rw [if_neg (by omega)]
      exact ⟨rfl, by show nextC K st + 1 = _; omega⟩
    · show (st.out.set i (K, nextC K st)).getD t (0, 0) = _
      rw [getD_set_pair, h.len]
      by_cases hit : i = t
      · subst hit
        rw [if_pos ⟨rfl, hi⟩, hx, if_pos ⟨h1, .inr ⟨rfl, by omega⟩⟩, hn]
      · rw [if_neg (by omega), h.out t ht]
        by_cases hg : 1 ≤ ls.getD t 0 ∧ (ls.getD t 0 < K ∨ (ls.getD t 0 = K ∧ t < i))
        · rw [if_pos hg, if_pos ⟨hg.1, hg.2.imp id (fun h => ⟨h.1, by omega⟩)⟩]
        · rw [if_neg hg, if_neg (fun h => hg ⟨h.1, h.2.imp id (fun h => ⟨h.1, by omega⟩)⟩)]
  · rw [if_neg hx]
    have hc : (ls.take (i + 1)).count K = (ls.take i).count K := by
      rw [htk, List.count_append, List.count_singleton, if_neg (by simpa using hx)]; rfl
    refine ⟨by rw [hc]; exact h.last, fun t ht => ?_, h.len⟩
    rw [h.out t ht]
    by_cases hg : 1 ≤ ls.getD t 0 ∧ (ls.getD t 0 < K ∨ (ls.getD t 0 = K ∧ t < i))
    · rw [if_pos hg, if_pos ⟨hg.1, hg.2.imp id (fun h => ⟨h.1, by omega⟩)⟩]
    · rw [if_neg hg, if_neg (fun h => hg ⟨h.1, h.2.imp id (fun h => ⟨h.1, by
        rcases Nat.lt_or_ge t i with h3 | h3
        · exact h3
        · obtain rfl : t = i := by omega
          exact absurd h.1 hx⟩)⟩)]
theorem ci_round {ls : List Nat} (hr : Roomy ls) {K : Nat} {st : CSt} (h1 : 1 ≤ K) (h2 : K ≤ 15) (h : CI ls K 0 st) : ∀ i, i ≤ ls.length → CI ls K i (roundC ls K i st)
  | 0, _ => h
  | i + 1, hi => ci_step hr h1 h2 (by omega) (ci_round hr h1 h2 h i (by omega))
theorem ci_up {ls : List Nat} {K : Nat} {st : CSt} (h1 : 1 ≤ K) (h2 : K ≤ 15) (h : CI ls K ls.length st) : CI ls (K + 1) 0 st := by
  refine ⟨?_, fun t ht => ?_, h.len⟩
  · have hl := h.last
    rw [List.take_length] at hl
    rw [if_pos (by simp)]
    have hf : firstOf ls (K + 1) = 2 * (firstOf ls K + ls.count K) := by
      show 2 * (firstOf ls K + (cntOf ls).getD K 0) = _
      rw [cnt_pos ls K h1 (by omega)]
    by_cases hz : ls.count K = 0
    · rw [if_pos hz] at hl
      refine ⟨by omega, ?_⟩
      rw [hf, hz, Nat.add_zero, hl.2]
      by_cases h0 : st.n0 = 0
      · rw [if_pos h0, if_pos h0]
      · rw [if_neg h0, if_neg h0, show K + 1 - st.n0 = (K - st.n0) + 1 by omega, Nat.pow_succ, ← Nat.mul_assoc, Nat.mul_comm 2, Nat.mul_assoc, Nat.mul_comm 2]
    · rw [if_neg hz] at hl
      refine ⟨by omega, ?_⟩
      rw [hf, ← hl.2, if_neg (by omega), hl.1, show K + 1 - K = 1 by omega, Nat.pow_one, Nat.mul_comm]
  · rw [h.out t ht]
    by_cases hg : 1 ≤ ls.getD t 0 ∧ (ls.getD t 0 < K ∨ (ls.getD t 0 = K ∧ t < ls.length))
    · rw [if_pos hg, if_pos ⟨hg.1, .inl (by have := hg.2; omega)⟩]
    · rw [if_neg hg, if_neg (fun h => hg ⟨h.1, by have := h.2; omega⟩)]
theorem ci_all {ls : List Nat} (hr : Roomy ls) : ∀ k, k ≤ 15 → CI ls (k + 1) 0 (codesTo ls k)
  | 0, _ => by
    refine ⟨?_, fun t ht => ?_, by simp [codesTo]⟩
    · rw [if_pos (by simp)]
      exact ⟨by simp [codesTo], by simp [codesTo, firstOf_one]⟩
    · rw [if_neg (by omega), codesTo, List.getD_eq_getElem?_getD, List.getElem?_replicate]
      split <;> rfl
  | k + 1, h => ci_up (by omega) h (ci_round hr (by omega) h (ci_all hr k (by omega)) _ (Nat.le_refl _))
theorem codes_get {ls : List Nat} (hr : Roomy ls) (h15 : ∀ i, ls.getD i 0 ≤ 15) (t : Nat) (ht : t < ls.length) :
    (codesT ls).getD t (0, 0) = if 1 ≤ ls.getD t 0 then (ls.getD t 0, firstOf ls (ls.getD t 0) + (ls.take t).count (ls.getD t 0)) else (0, 0) := by
  have h := (ci_all hr 15 (Nat.le_refl _)).out t ht
  have hx := h15 t
  unfold codesT
  rw [h]
  by_cases h1 : 1 ≤ ls.getD t 0
  · rw [if_pos h1, if_pos ⟨h1, .inl (by omega)⟩]
  · rw [if_neg h1, if_neg (fun h => h1 h.1)]
/-! ### Which sign has a code -/
theorem idx_get (ls : List Nat) (n : Nat) : ∀ k, k ≤ ls.length → ∀ j, j < (ls.take k).count n → (idxOf (ls.take k) n).getD j 0 < k ∧ ls.getD ((idxOf (ls.take k) n).getD j 0) 0 = n ∧ (ls.take ((idxOf (ls.take k) n).getD j 0)).count n = j
  | 0, _, j, h => by simp at h
  | k + 1, hk, j, h => by
    have ih := idx_get ls n k (by omega)
    have htk := take_snoc ls k (by omega)
    have hlen := idx_len_take ls n k (by omega)
    by_cases hx : ls.getD k 0 = n
    · have hc : (ls.take (k + 1)).count n = (ls.take k).count n + 1 := by rw [htk, List.count_append, hx, List.count_singleton_self]
      have hidx : idxOf (ls.take (k + 1)) n = idxOf (ls.take k) n ++ [k] := by
        rw [htk, idx_snoc, if_pos hx, List.length_take, Nat.min_eq_left (by omega)]
      by_cases hj : j < (ls.take k).count n
      · have := ih j hj
        have e : (idxOf (ls.take (k + 1)) n).getD j 0 = (idxOf (ls.take k) n).getD j 0 := by
          rw [hidx, List.getD_eq_getElem?_getD, List.getElem?_append_left (by omega), ← List.getD_eq_getElem?_getD]
        rw [e]
        exact ⟨by omega, this.2⟩
      · have hj2 : j = (ls.take k).count n := by omega
        have e : (idxOf (ls.take (k + 1)) n).getD j 0 = k := by
          rw [hidx, List.getD_eq_getElem?_getD, List.getElem?_append_right (by omega), hlen, hj2, Nat.sub_self]; rfl
        rw [e]
        exact ⟨by omega, hx, hj2.symm⟩
    · have hc : (ls.take (k + 1)).count n = (ls.take k).count n := by
        rw [htk, List.count_append, List.count_singleton, if_neg (by simpa using hx)]; rfl
      have hidx : idxOf (ls.take (k + 1)) n = idxOf (ls.take k) n := by rw [htk, idx_snoc, if_neg hx]
      rw [hidx]
      have := ih j (by omega)
      exact ⟨by omega, this.2⟩
theorem count_mono (ls : List Nat) (n : Nat) {i j : Nat} (h : j < i) (hi : i ≤ ls.length) (hx : ls.getD j 0 = n) : (ls.take j).count n < (ls.take i).count n := by
  have h1 : (ls.take (j + 1)).count n = (ls.take j).count n + 1 := by rw [take_snoc ls j (by omega), List.count_append, hx, List.count_singleton_self]
  have h2 : ((ls.take i).take (j + 1)).count n ≤ (ls.take i).count n := count_take_le _ _ _
  rw [List.take_take, Nat.min_eq_left (by omega)] at h2
  omega
theorem find_code {ls : List Nat} (hr : Roomy ls) (h15 : ∀ i, ls.getD i 0 ≤ 15) {l V : Nat} (h1 : 1 ≤ l) (h2 : l ≤ 15) (hV : firstOf ls l ≤ V) (hV2 : V < firstOf ls l + (cntOf ls).getD l 0) :
    ∃ i, i < ls.length ∧ (sgOf ls).getD (startOf ls l + V - firstOf ls l) 0 = i ∧ (codesT ls).getD i (0, 0) = (l, V) ∧ ∀ j, j < i → (codesT ls).getD j (0, 0) ≠ (l, V) := by
  rw [cnt_pos ls l h1 (by omega)] at hV2
  have hg := idx_get ls l ls.length (Nat.le_refl _) (V - firstOf ls l) (by rw [List.take_length]; omega)
  rw [List.take_length] at hg
  refine ⟨_, hg.1, ?_, ?_, ?_⟩
  · rw [show startOf ls l + V - firstOf ls l = startOf ls l + (V - firstOf ls l) by omega]
    exact sg_get ls l _ h1 (by omega) (by omega)
  · rw [codes_get hr h15 _ hg.1, hg.2.1, if_pos h1, hg.2.2]
    congr 1
    omega
  · intro j hj e
    rw [codes_get hr h15 j (by omega)] at e
    by_cases hz : 1 ≤ ls.getD j 0
    · rw [if_pos hz] at e
      injection e with e1 e2
      have := count_mono ls l hj (by omega) e1
      rw [e1] at e2
      omega
    · rw [if_neg hz] at e
      injection e with e1 e2
      omega
theorem find_none {ls : List Nat} (hr : Roomy ls) (h15 : ∀ i, ls.getD i 0 ≤ 15) {l V : Nat} (h1 : 1 ≤ l) (h2 : l ≤ 15) (hV2 : firstOf ls l + (cntOf ls).getD l 0 ≤ V) :
    ∀ j, j < (codesT ls).length → (codesT ls).getD j (0, 0) ≠ (l, V) := by
  rw [cnt_pos ls l h1 (by omega)] at hV2
  intro j hj e
  rw [codesT_len] at hj
  rw [codes_get hr h15 j hj] at e
  by_cases hz : 1 ≤ ls.getD j 0
  · rw [if_pos hz] at e
    injection e with e1 e2
    have := count_lt ls j hj
    rw [e1] at this e2
    omega
  · rw [if_neg hz] at e
    injection e with e1 e2
    omega
theorem find_longer {ls : List Nat} (hr : Roomy ls) (h15 : ∀ i, ls.getD i 0 ≤ 15) (hc : firstOf ls 15 + (cntOf ls).getD 15 0 = 2 ^ 15) : ∀ (d l V : Nat), l + d = 15 → firstOf ls l + (cntOf ls).getD l 0 ≤ V → V < 2 ^ l →
    ∃ k i, l < k ∧ k ≤ 15 ∧ i < ls.length ∧ ls.getD i 0 = k ∧ (codesT ls).getD i (0, 0) = (k, V * 2 ^ (k - l))
  | 0, l, V, hl, h1, h2 => by
    obtain rfl : l = 15 := by omega
    omega
  | d + 1, l, V, hl, h1, h2 => by
    have hf : firstOf ls (l + 1) ≤ 2 * V := by
      show 2 * (firstOf ls l + (cntOf ls).getD l 0) ≤ _
      omega
    have hp : 2 * V < 2 ^ (l + 1) := by rw [Nat.pow_succ]; omega
    by_cases hlt : 2 * V < firstOf ls (l + 1) + (cntOf ls).getD (l + 1) 0
    · obtain ⟨i, hi, -, he, -⟩ := find_code hr h15 (by omega) (by omega) hf hlt
      refine ⟨l + 1, i, by omega, by omega, hi, ?_, ?_⟩
      · rw [codes_get hr h15 i hi] at he
        by_cases hz : 1 ≤ ls.getD i 0
        · rw [if_pos hz] at he; injection he
        · rw [if_neg hz] at he; injection he with e1 e2; omega
      · rw [he, show l + 1 - l = 1 by omega, Nat.pow_one, Nat.mul_comm]
    · obtain ⟨k, i, h3, h4, h5, h6, h7⟩ := find_longer hr h15 hc d (l + 1) (2 * V) (by omega) (by omega) hp
      refine ⟨k, i, by omega, h4, h5, h6, ?_⟩
      rw [h7, show k - l = (k - (l + 1)) + 1 by omega, Nat.pow_succ]
      congr 1
      rw [Nat.mul_comm 2 V, Nat.mul_assoc, Nat.mul_comm 2]
theorem any_longer {cs : List (Nat × Nat)} {l V k i : Nat} (hi : i < cs.length) (hk : l < k) (h : cs.getD i (0, 0) = (k, V * 2 ^ (k - l))) : cs.any (longer l V) = true := by
  rw [List.any_eq_true]
  refine ⟨cs[i], List.getElem_mem hi, ?_⟩
  rw [List.getD_eq_getElem?_getD, List.getElem?_eq_getElem hi] at h
  have h' : cs[i] = (k, V * 2 ^ (k - l)) := h
  rw [h']
  unfold longer
  simp only [hk, decide_true, Bool.true_and, decide_eq_true_eq]
  exact Nat.mul_div_cancel _ (Nat.two_pow_pos _)
theorem max_ge : ∀ (l : List Nat) (a i : Nat), a ≤ l.foldl max a ∧ l.getD i 0 ≤ l.foldl max a
  | [], a, i => ⟨Nat.le_refl _, by simp⟩
  | x :: t, a, i => by
    have h0 := max_ge t (max a x) i
    refine ⟨by show a ≤ t.foldl max (max a x); omega, ?_⟩
    cases i with
    | zero => show x ≤ t.foldl max (max a x); omega
    | succ i =>
      have := (max_ge t (max a x) i).2
      exact this
theorem sign_full {ls : List Nat} (hr : Roomy ls) (h15 : ∀ i, ls.getD i 0 ≤ 15) (hc : firstOf ls 15 + (cntOf ls).getD 15 0 = 2 ^ 15) (N L : Nat) :
    ∀ (g l f p x : Nat), l + g = ls.foldl max 0 → l + f = 16 → firstOf ls (l + 1) ≤ 2 * x → x < 2 ^ l → signRGo N L (codesT ls) f l p x = signGo N L (codeOfN ls) g (l + 1) p (2 * x) (firstOf ls (l + 1)) (startOf ls (l + 1))
  | 0, l, f, p, x, hg, hf, h1, h2 => by
    have hm15 : ls.foldl max 0 ≤ 15 := foldl_max_le ls 0 15 (by omega) (fun y hy => by
      obtain ⟨i, hi, rfl⟩ := List.mem_iff_getElem.1 hy
      have := h15 i
      rw [List.getD_eq_getElem?_getD, List.getElem?_eq_getElem hi] at this
      exact this)
    have h3 : firstOf ls l + (cntOf ls).getD l 0 ≤ x := by
      have : 2 * (firstOf ls l + (cntOf ls).getD l 0) ≤ 2 * x := h1
      omega
    obtain ⟨k, i, h4, -, -, h5, -⟩ := find_longer hr h15 hc (15 - l) l x (by omega) h3 h2
    have := (max_ge ls 0 i).2
    omega
  | g + 1, l, f, p, x, hg, hf, h1, h2 => by
    have hm15 : ls.foldl max 0 ≤ 15 := foldl_max_le ls 0 15 (by omega) (fun y hy => by
      obtain ⟨i, hi, rfl⟩ := List.mem_iff_getElem.1 hy
      have := h15 i
      rw [List.getD_eq_getElem?_getD, List.getElem?_eq_getElem hi] at this
      exact this)
    obtain ⟨f, rfl⟩ : ∃ f', f = f' + 1 := ⟨f - 1, by omega⟩
    rw [signGo]
    cases hn : num N L p 1 with
    | error e => rw [goR_err hn]
    | ok v =>
      obtain ⟨b, q⟩ := v
      have hb := (num_ok hn).1
      have hV : 2 * x + b < 2 ^ (l + 1) := by rw [Nat.pow_succ]; omega
      simp only []
      show _ = if 2 * x + b < firstOf ls (l + 1) + (cntOf ls).getD (l + 1) 0 then _ else _
      by_cases hlt : 2 * x + b < firstOf ls (l + 1) + (cntOf ls).getD (l + 1) 0
      · rw [if_pos hlt]
        obtain ⟨i, hi, hs, he, hj⟩ := find_code hr h15 (by omega) (by omega) (by omega) hlt
        rw [goR_found hn (by rw [codesT_len]; exact hi) he hj]
        show _ = Except.ok ((sgOf ls).getD (startOf ls (l + 1) + (2 * x + b) - firstOf ls (l + 1)) 0, q)
        rw [hs]
      · rw [if_neg hlt]
        have hno := find_none hr h15 (l := l + 1) (V := 2 * x + b) (by omega) (by omega) (by omega)
        obtain ⟨k, i, h4, -, h5, -, h6⟩ := find_longer hr h15 hc (15 - (l + 1)) (l + 1) (2 * x + b) (by omega) (by omega) hV
        rw [goR_none hn hno, if_pos (any_longer (by rw [codesT_len]; exact h5) h4 h6)]
        rw [sign_full hr h15 hc N L g (l + 1) f q (2 * x + b) (by omega) (by omega) (by
          show 2 * (firstOf ls (l + 1) + (cntOf ls).getD (l + 1) 0) ≤ _
          omega) hV]
        rw [startOf_succ ls (l + 1) (by omega)]
        rfl
end Go.Proofs.Ytkminkeaeclanaa
