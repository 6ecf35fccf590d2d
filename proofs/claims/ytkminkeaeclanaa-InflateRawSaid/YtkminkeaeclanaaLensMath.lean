/- The lengths of a block's own codes, plainly. -/
import Derived.Test.YtkminkeaeclanaaTold
namespace Go.Proofs.Ytkminkeaeclanaa
set_option linter.unusedVariables false
open Plain
def lensAt (N L : Nat) (c : CodeS) (n p : Nat) (ls : List Nat) : Except Nat (Nat × List Nat) := lensGo N L c n (L + 1 - p) p ls
theorem adv_oneLen {N L : Nat} {c : CodeS} {p : Nat} {ls : List Nat} {len times q : Nat} (h : oneLen N L c p ls = .ok (len, times, q)) : p < q ∧ q ≤ L ∧ 1 ≤ times := by
  unfold oneLen at h
  cases hs : signN N L c p with
  | error e => rw [hs] at h; cases h
  | ok v =>
    obtain ⟨s, r⟩ := v
    have h1 := adv_sign N L c p s r hs
    rw [hs] at h
    simp only [] at h
    split at h
    · split at h
      · cases h
      · cases hn : num N L r 2 with
        | error e => rw [hn] at h; cases h
        | ok v =>
          obtain ⟨x, t⟩ := v
          have h2 := num_ok hn
          rw [hn] at h
          injection h with h; injection h with _ h; injection h with h3 h4; omega
    · split at h
      · cases hn : num N L r 3 with
        | error e => rw [hn] at h; cases h
        | ok v =>
          obtain ⟨x, t⟩ := v
          have h2 := num_ok hn
          rw [hn] at h
          injection h with h; injection h with _ h; injection h with h3 h4; omega
      · split at h
        · cases hn : num N L r 7 with
          | error e => rw [hn] at h; cases h
          | ok v =>
            obtain ⟨x, t⟩ := v
            have h2 := num_ok hn
            rw [hn] at h
            injection h with h; injection h with _ h; injection h with h3 h4; omega
        · injection h with h; injection h with _ h; injection h with h3 h4; omega
theorem lensGo_same {N L : Nat} {c : CodeS} {n : Nat} : ∀ (f g p : Nat) (ls : List Nat), p ≤ L → L + 1 - p ≤ f → L + 1 - p ≤ g → lensGo N L c n f p ls = lensGo N L c n g p ls
  | 0, g, p, ls, hp, h1, h2 => by omega
  | f + 1, 0, p, ls, hp, h1, h2 => by omega
  | f + 1, g + 1, p, ls, hp, h1, h2 => by
    rw [lensGo, lensGo]
    split
    · rfl
    · cases ho : oneLen N L c p ls with
      | error e => rfl
      | ok v =>
        obtain ⟨len, times, q⟩ := v
        have ha := adv_oneLen ho
        simp only []
        split
        · rfl
        · exact lensGo_same f g q _ ha.2.1 (by omega) (by omega)
theorem lensAt_end {N L : Nat} {c : CodeS} {n p : Nat} {ls : List Nat} (hp : p ≤ L) (h : n ≤ ls.length) : lensAt N L c n p ls = .ok (p, ls) := by
  unfold lensAt
  rw [show L + 1 - p = (L - p) + 1 by omega, lensGo, if_pos h]
theorem lensAt_err {N L : Nat} {c : CodeS} {n p k : Nat} {ls : List Nat} (hp : p ≤ L) (h : ¬ n ≤ ls.length) (ho : oneLen N L c p ls = .error k) : lensAt N L c n p ls = .error k := by
  unfold lensAt
  rw [show L + 1 - p = (L - p) + 1 by omega, lensGo, if_neg h, ho]
theorem lensAt_many {N L : Nat} {c : CodeS} {n p len times q : Nat} {ls : List Nat} (hp : p ≤ L) (h : ¬ n ≤ ls.length) (ho : oneLen N L c p ls = .ok (len, times, q)) (ht : n - ls.length < times) : lensAt N L c n p ls = .error 4 := by
  unfold lensAt
  rw [show L + 1 - p = (L - p) + 1 by omega, lensGo, if_neg h, ho]
  simp only []
  rw [if_pos ht]
theorem lensAt_on {N L : Nat} {c : CodeS} {n p len times q : Nat} {ls : List Nat} (hp : p ≤ L) (h : ¬ n ≤ ls.length) (ho : oneLen N L c p ls = .ok (len, times, q)) (ht : ¬ n - ls.length < times) : lensAt N L c n p ls = lensAt N L c n q (ls ++ List.replicate times len) := by
  have ha := adv_oneLen ho
  unfold lensAt
  rw [show L + 1 - p = (L - p) + 1 by omega, lensGo, if_neg h, ho]
  simp only []
  rw [if_neg ht]
  exact lensGo_same _ _ q _ ha.2.1 (by omega) (by omega)
theorem one_plain {N L : Nat} {c : CodeS} {p s q : Nat} {ls : List Nat} (h : signN N L c p = .ok (s, q)) (h1 : s ≠ 16) (h2 : s ≠ 17) (h3 : s ≠ 18) : oneLen N L c p ls = .ok (s, 1, q) := by
  unfold oneLen; rw [h]; simp only []; rw [if_neg h1, if_neg h2, if_neg h3]
theorem one_err {N L : Nat} {c : CodeS} {p k : Nat} {ls : List Nat} (h : signN N L c p = .error k) : oneLen N L c p ls = .error k := by unfold oneLen; rw [h]
theorem one_none {N L : Nat} {c : CodeS} {p q : Nat} {ls : List Nat} (h : signN N L c p = .ok (16, q)) (h1 : ls = []) : oneLen N L c p ls = .error 4 := by unfold oneLen; rw [h]; simp only []; rw [if_pos trivial, if_pos h1]
theorem one_16 {N L : Nat} {c : CodeS} {p q x r : Nat} {ls : List Nat} (h : signN N L c p = .ok (16, q)) (h1 : ls ≠ []) (h2 : num N L q 2 = .ok (x, r)) : oneLen N L c p ls = .ok (ls.getD (ls.length - 1) 0, 3 + x, r) := by unfold oneLen; rw [h]; simp only []; rw [if_pos trivial, if_neg h1, h2]
theorem one_16e {N L : Nat} {c : CodeS} {p q k : Nat} {ls : List Nat} (h : signN N L c p = .ok (16, q)) (h1 : ls ≠ []) (h2 : num N L q 2 = .error k) : oneLen N L c p ls = .error k := by unfold oneLen; rw [h]; simp only []; rw [if_pos trivial, if_neg h1, h2]
theorem one_17 {N L : Nat} {c : CodeS} {p q x r : Nat} {ls : List Nat} (h : signN N L c p = .ok (17, q)) (h2 : num N L q 3 = .ok (x, r)) : oneLen N L c p ls = .ok (0, 3 + x, r) := by unfold oneLen; rw [h]; simp only []; rw [if_neg (by omega), if_pos trivial, h2]
theorem one_17e {N L : Nat} {c : CodeS} {p q k : Nat} {ls : List Nat} (h : signN N L c p = .ok (17, q)) (h2 : num N L q 3 = .error k) : oneLen N L c p ls = .error k := by unfold oneLen; rw [h]; simp only []; rw [if_neg (by omega), if_pos trivial, h2]
theorem one_18 {N L : Nat} {c : CodeS} {p q x r : Nat} {ls : List Nat} (h : signN N L c p = .ok (18, q)) (h2 : num N L q 7 = .ok (x, r)) : oneLen N L c p ls = .ok (0, 11 + x, r) := by unfold oneLen; rw [h]; simp only []; rw [if_neg (by omega), if_neg (by omega), if_pos trivial, h2]
theorem one_18e {N L : Nat} {c : CodeS} {p q k : Nat} {ls : List Nat} (h : signN N L c p = .ok (18, q)) (h2 : num N L q 7 = .error k) : oneLen N L c p ls = .error k := by unfold oneLen; rw [h]; simp only []; rw [if_neg (by omega), if_neg (by omega), if_pos trivial, h2]
theorem sg_lt (ls : List Nat) (h0 : 0 < ls.length) (j : Nat) : (sgOf ls).getD j 0 < ls.length := by
  by_cases hj : j < (sgOf ls).length
  · rw [List.getD_eq_getElem?_getD, List.getElem?_eq_getElem hj]
    have hm : (sgOf ls)[j] ∈ sgOf ls := List.getElem_mem hj
    show (sgOf ls)[j] < _
    generalize (sgOf ls)[j] = x at *
    unfold sgOf at hm
    rw [List.mem_flatMap] at hm
    obtain ⟨n, -, hn⟩ := hm
    unfold idxOf at hn
    exact List.mem_range.1 (List.mem_filter.1 hn).1
  · rw [List.getD_eq_getElem?_getD, List.getElem?_eq_none (by omega)]; simpa using h0
theorem signGo_mem (N L : Nat) (c : CodeS) : ∀ (f l p x first ahead s q : Nat), signGo N L c f l p x first ahead = .ok (s, q) → ∃ j, s = c.sg.getD j 0
  | 0, l, p, x, first, ahead, s, q, h => by simp [signGo] at h
  | f + 1, l, p, x, first, ahead, s, q, h => by
    rw [signGo] at h
    cases hn : num N L p 1 with
    | error e => rw [hn] at h; cases h
    | ok v =>
      obtain ⟨b, r⟩ := v
      rw [hn] at h
      simp only [] at h
      split at h
      · injection h with h; injection h with h _; exact ⟨_, h.symm⟩
      · exact signGo_mem N L c f _ _ _ _ _ s q h
end Go.Proofs.Ytkminkeaeclanaa
