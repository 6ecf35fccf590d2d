/- No fault's number is 0. -/
import Derived.Test.YtkminkeaeclanaaRawMath
namespace Go.Proofs.Ytkminkeaeclanaa
set_option linter.unusedVariables false
namespace Plain
theorem nz_num {N L p n k : Nat} (h : num N L p n = .error k) : k ≠ 0 := by rw [num_err h]; decide
theorem nz_give {most : Nat} {made : List Int} {x : Int} {k : Nat} (h : giveN most made x = .error k) : k ≠ 0 := by
  unfold giveN at h
  split at h
  · injection h with h; omega
  · cases h
theorem nz_code {N L p n k : Nat} (h : codeN N L p n = .error k) : k ≠ 0 := by
  unfold codeN at h
  split at h
  · rename_i e he; injection h with h; subst h; exact nz_num he
  · cases h
theorem nz_dist5 {N L p k : Nat} (h : fixedDistN N L p = .error k) : k ≠ 0 := nz_code h
theorem nz_fixed {N L p k : Nat} (h : fixedSignN N L p = .error k) : k ≠ 0 := by
  unfold fixedSignN at h
  split at h
  · rename_i e he; injection h with h; subst h; exact nz_code he
  · split at h
    · cases h
    · split at h
      · rename_i e he; injection h with h; subst h; exact nz_num he
      · split at h
        · cases h
        · split at h
          · cases h
          · split at h
            · rename_i e he; injection h with h; subst h; exact nz_num he
            · cases h
theorem nz_signGo {N L : Nat} {c : CodeS} : ∀ (f l p x first ahead k : Nat), signGo N L c f l p x first ahead = .error k → k ≠ 0
  | 0, l, p, x, first, ahead, k, h => by rw [signGo] at h; injection h with h; omega
  | f + 1, l, p, x, first, ahead, k, h => by
    rw [signGo] at h
    split at h
    · rename_i e he; injection h with h; subst h; exact nz_num he
    · split at h
      · cases h
      · exact nz_signGo f _ _ _ _ _ k h
theorem nz_sign {N L p k : Nat} {c : CodeS} (h : signN N L c p = .error k) : k ≠ 0 := nz_signGo _ _ _ _ _ _ k h
theorem nz_length {N L p s k : Nat} (h : lengthN N L p s = .error k) : k ≠ 0 := by
  unfold lengthN at h
  split at h
  · cases h
  · split at h
    · cases h
    · split at h
      · rename_i e he; injection h with h; subst h; exact nz_num he
      · cases h
theorem nz_dist {N L p s k : Nat} (h : distN N L p s = .error k) : k ≠ 0 := by
  unfold distN at h
  split at h
  · injection h with h; omega
  · split at h
    · cases h
    · split at h
      · rename_i e he; injection h with h; subst h; exact nz_num he
      · cases h
theorem nz_againGo {most d : Nat} : ∀ (f : Nat) (made : List Int) (k : Nat), againGo most d f made = .error k → k ≠ 0
  | 0, made, k, h => by rw [againGo] at h; cases h
  | f + 1, made, k, h => by
    rw [againGo] at h
    split at h
    · rename_i e he; injection h with h; subst h; exact nz_give he
    · exact nz_againGo f _ k h
theorem nz_again {most len d k : Nat} {made : List Int} (h : againN most made len d = .error k) : k ≠ 0 := by
  unfold againN at h
  split at h
  · injection h with h; omega
  · exact nz_againGo _ _ k h
theorem nz_step {N L most : Nat} {nx fr : Nat → Except Nat (Nat × Nat)} (hn : ∀ p k, nx p = .error k → k ≠ 0) (hf : ∀ p k, fr p = .error k → k ≠ 0) {p k : Nat} {made : List Int} (h : stepN N L most nx fr p made = .error k) : k ≠ 0 := by
  unfold stepN at h
  split at h
  · rename_i e he; injection h with h; subst h; exact hn _ _ he
  · split at h
    · split at h
      · rename_i e he; injection h with h; subst h; exact nz_give he
      · cases h
    · split at h
      · cases h
      · split at h
        · injection h with h; omega
        · split at h
          · rename_i e he; injection h with h; subst h; exact nz_length he
          · split at h
            · rename_i e he; injection h with h; subst h; exact hf _ _ he
            · split at h
              · rename_i e he; injection h with h; subst h; exact nz_dist he
              · split at h
                · rename_i e he; injection h with h; subst h; exact nz_again he
                · cases h
theorem nz_signsGo {N L most : Nat} {nx fr : Nat → Except Nat (Nat × Nat)} (hn : ∀ p k, nx p = .error k → k ≠ 0) (hf : ∀ p k, fr p = .error k → k ≠ 0) : ∀ (f p : Nat) (made : List Int) (k : Nat), signsGo N L most nx fr f p made = .error k → k ≠ 0
  | 0, p, made, k, h => by rw [signsGo] at h; injection h with h; omega
  | f + 1, p, made, k, h => by
    rw [signsGo_step] at h
    cases hs : stepN N L most nx fr p made with
    | error e => rw [hs] at h; injection h with h; subst h; exact nz_step hn hf hs
    | ok v =>
      obtain ⟨b, q, m⟩ := v
      rw [hs] at h
      cases b with
      | false => cases h
      | true => exact nz_signsGo hn hf f q m k h
theorem nz_stored {bs : List Int} {N L most p k : Nat} {made : List Int} (h : storedN bs N L most p made = .error k) : k ≠ 0 := by
  unfold storedN at h
  split at h
  · rename_i e he; injection h with h; subst h; exact nz_num he
  · split at h
    · rename_i e he; injection h with h; subst h; exact nz_num he
    · split at h
      · injection h with h; omega
      · split at h
        · injection h with h; omega
        · split at h
          · injection h with h; omega
          · cases h
theorem nz_howMany {N L p n least most k : Nat} (h : howManyN N L p n least most = .error k) : k ≠ 0 := by
  unfold howManyN at h
  split at h
  · rename_i e he; injection h with h; subst h; exact nz_num he
  · split at h
    · injection h with h; omega
    · cases h
theorem nz_told {N L : Nat} : ∀ (l : List Nat) (p : Nat) (ls : List Nat) (k : Nat), toldGo N L l p ls = .error k → k ≠ 0
  | [], p, ls, k, h => by rw [toldGo] at h; cases h
  | s :: t, p, ls, k, h => by
    rw [toldGo] at h
    split at h
    · rename_i e he; injection h with h; subst h; exact nz_num he
    · exact nz_told t _ _ k h
theorem nz_codeOf {N L p k : Nat} (h : codeOfLengthsN N L p = .error k) : k ≠ 0 := by
  unfold codeOfLengthsN at h
  split at h
  · rename_i e he; injection h with h; subst h; exact nz_num he
  · split at h
    · rename_i e he; injection h with h; subst h; exact nz_told _ _ _ _ he
    · split at h
      · cases h
      · injection h with h; omega
theorem nz_oneLen {N L : Nat} {c : CodeS} {p k : Nat} {ls : List Nat} (h : oneLen N L c p ls = .error k) : k ≠ 0 := by
  unfold oneLen at h
  split at h
  · rename_i e he; injection h with h; subst h; exact nz_sign he
  · split at h
    · split at h
      · injection h with h; omega
      · split at h
        · rename_i e he; injection h with h; subst h; exact nz_num he
        · cases h
    · split at h
      · split at h
        · rename_i e he; injection h with h; subst h; exact nz_num he
        · cases h
      · split at h
        · split at h
          · rename_i e he; injection h with h; subst h; exact nz_num he
          · cases h
        · cases h
theorem nz_lensGo {N L : Nat} {c : CodeS} {n : Nat} : ∀ (f p : Nat) (ls : List Nat) (k : Nat), lensGo N L c n f p ls = .error k → k ≠ 0
  | 0, p, ls, k, h => by rw [lensGo] at h; injection h with h; omega
  | f + 1, p, ls, k, h => by
    rw [lensGo] at h
    split at h
    · cases h
    · split at h
      · rename_i e he; injection h with h; subst h; exact nz_oneLen he
      · split at h
        · injection h with h; omega
        · exact nz_lensGo f _ _ k h
theorem nz_own {N L p k : Nat} (h : ownCodesN N L p = .error k) : k ≠ 0 := by
  unfold ownCodesN at h
  split at h
  · rename_i e he; injection h with h; subst h; exact nz_howMany he
  · split at h
    · rename_i e he; injection h with h; subst h; exact nz_howMany he
    · split at h
      · rename_i e he; injection h with h; subst h; exact nz_codeOf he
      · split at h
        · rename_i e he; injection h with h; subst h; exact nz_lensGo _ _ _ _ he
        · split at h
          · injection h with h; omega
          · cases h
theorem nz_block {bs : List Int} {N L most kind p k : Nat} {made : List Int} (h : blockN bs N L most kind p made = .error k) : k ≠ 0 := by
  unfold blockN at h
  split at h
  · exact nz_stored h
  · split at h
    · exact nz_signsGo (fun _ _ h => nz_fixed h) (fun _ _ h => nz_dist5 h) _ _ _ k h
    · split at h
      · split at h
        · rename_i e he; injection h with h; subst h; exact nz_own he
        · exact nz_signsGo (fun _ _ h => nz_sign h) (fun _ _ h => nz_sign h) _ _ _ k h
      · injection h with h; omega
theorem nz_rawGo {bs : List Int} {N L most : Nat} : ∀ (f p : Nat) (made : List Int) (k : Nat), rawGo bs N L most f p made = .error k → k ≠ 0
  | 0, p, made, k, h => by rw [rawGo] at h; injection h with h; omega
  | f + 1, p, made, k, h => by
    rw [rawGo] at h
    split at h
    · rename_i e he; injection h with h; subst h; exact nz_num he
    · split at h
      · rename_i e he; injection h with h; subst h; exact nz_num he
      · split at h
        · rename_i e he; injection h with h; subst h; exact nz_block he
        · split at h
          · exact nz_rawGo f _ _ k h
          · cases h
theorem nz_raw {bs : List Int} {most k : Nat} (h : rawOf bs most = .error k) : k ≠ 0 := nz_rawGo _ _ _ k h
end Plain
end Go.Proofs.Ytkminkeaeclanaa
