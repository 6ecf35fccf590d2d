/- The blocks, plainly: one after the other. -/
import Derived.Test.YtkminkeaeclanaaSignsMath
namespace Go.Proofs.Ytkminkeaeclanaa
set_option linter.unusedVariables false
namespace Plain
theorem adv_stored {bs : List Int} {N most p : Nat} {made : List Int} {q : Nat} {m : List Int} (h : storedN bs N (8 * bs.length) most p made = .ok (q, m)) : p < q ∧ q ≤ 8 * bs.length := by
  unfold storedN at h
  cases hn : num N (8 * bs.length) (8 * ((p + 7) / 8)) 16 with
  | error e => rw [hn] at h; cases h
  | ok v =>
    obtain ⟨x, r⟩ := v
    have h1 := num_ok hn
    rw [hn] at h
    simp only [] at h
    cases hm : num N (8 * bs.length) r 16 with
    | error e => rw [hm] at h; cases h
    | ok v =>
      obtain ⟨y, s⟩ := v
      have h2 := num_ok hm
      rw [hm] at h
      simp only [] at h
      split at h
      · cases h
      · split at h
        · cases h
        · split at h
          · cases h
          · injection h with h; injection h with h _; omega
/-- The codes' ends: no sooner than where they begin. -/
theorem adv_told {N L : Nat} : ∀ (l : List Nat) (p : Nat) (ls : List Nat) (q : Nat) (ms : List Nat), p ≤ L → toldGo N L l p ls = .ok (q, ms) → p ≤ q ∧ q ≤ L
  | [], p, ls, q, ms, hp, h => by rw [toldGo] at h; injection h with h; injection h with h _; omega
  | s :: t, p, ls, q, ms, hp, h => by
    rw [toldGo] at h
    cases hn : num N L p 3 with
    | error e => rw [hn] at h; cases h
    | ok v =>
      obtain ⟨x, r⟩ := v
      have h1 := num_ok hn
      rw [hn] at h
      simp only [] at h
      have := adv_told t r _ q ms h1.2.2 h
      omega
theorem adv_codeOf {N L p q : Nat} {c : CodeS} (h : codeOfLengthsN N L p = .ok (q, c)) : p ≤ q ∧ q ≤ L := by
  unfold codeOfLengthsN at h
  cases hn : num N L p 4 with
  | error e => rw [hn] at h; cases h
  | ok v =>
    obtain ⟨x, r⟩ := v
    have h1 := num_ok hn
    rw [hn] at h
    simp only [] at h
    cases ht : toldGo N L (orderN.take (x + 4)) r (List.replicate 19 0) with
    | error e => rw [ht] at h; cases h
    | ok v =>
      obtain ⟨s, ls⟩ := v
      have h2 := adv_told _ _ _ _ _ h1.2.2 ht
      rw [ht] at h
      simp only [] at h
      split at h
      · injection h with h; injection h with h _; omega
      · cases h
theorem adv_howMany {N L p n least most x q : Nat} (h : howManyN N L p n least most = .ok (x, q)) : p ≤ q ∧ q ≤ L := by
  unfold howManyN at h
  cases hn : num N L p n with
  | error e => rw [hn] at h; cases h
  | ok v =>
    obtain ⟨y, r⟩ := v
    have h1 := num_ok hn
    rw [hn] at h
    simp only [] at h
    split at h
    · cases h
    · injection h with h; injection h with _ h; omega
theorem adv_oneLen0 {N L : Nat} {c : CodeS} {p : Nat} {ls : List Nat} {len times q : Nat} (h : oneLen N L c p ls = .ok (len, times, q)) : p < q ∧ q ≤ L := by
  unfold oneLen at h
  cases hs : signN N L c p with
  | error e => rw [hs] at h; cases h
  | ok v =>
    obtain ⟨s, r⟩ := v
    have h1 := adv_sign N L c p s r hs
    rw [hs] at h
    simp only [] at h
    split at h
    · split at h
      · cases h
      · cases hn : num N L r 2 with
        | error e => rw [hn] at h; cases h
        | ok v =>
          have h2 := num_ok hn
          rw [hn] at h; injection h with h; injection h with _ h; injection h with _ h; omega
    · split at h
      · cases hn : num N L r 3 with
        | error e => rw [hn] at h; cases h
        | ok v =>
          have h2 := num_ok hn
          rw [hn] at h; injection h with h; injection h with _ h; injection h with _ h; omega
      · split at h
        · cases hn : num N L r 7 with
          | error e => rw [hn] at h; cases h
          | ok v =>
            have h2 := num_ok hn
            rw [hn] at h; injection h with h; injection h with _ h; injection h with _ h; omega
        · injection h with h; injection h with _ h; injection h with _ h; omega
theorem adv_lensGo {N L : Nat} {c : CodeS} {n : Nat} : ∀ (f p : Nat) (ls : List Nat) (q : Nat) (ms : List Nat), p ≤ L → lensGo N L c n f p ls = .ok (q, ms) → p ≤ q ∧ q ≤ L
  | 0, p, ls, q, ms, hp, h => by rw [lensGo] at h; cases h
  | f + 1, p, ls, q, ms, hp, h => by
    rw [lensGo] at h
    split at h
    · injection h with h; injection h with h _; omega
    · cases ho : oneLen N L c p ls with
      | error e => rw [ho] at h; cases h
      | ok v =>
        obtain ⟨len, times, r⟩ := v
        have h1 := adv_oneLen0 ho
        rw [ho] at h
        simp only [] at h
        split at h
        · cases h
        · have := adv_lensGo f r _ q ms h1.2 h
          omega
theorem adv_own {N L p q : Nat} {c d : CodeS} (h : ownCodesN N L p = .ok (q, c, d)) : p ≤ q ∧ q ≤ L := by
  unfold ownCodesN at h
  cases h1 : howManyN N L p 5 257 286 with
  | error e => rw [h1] at h; cases h
  | ok v =>
    obtain ⟨n, q1⟩ := v
    have a1 := adv_howMany h1
    rw [h1] at h
    simp only [] at h
    cases h2 : howManyN N L q1 5 1 30 with
    | error e => rw [h2] at h; cases h
    | ok v =>
      obtain ⟨m, q2⟩ := v
      have a2 := adv_howMany h2
      rw [h2] at h
      simp only [] at h
      cases h3 : codeOfLengthsN N L q2 with
      | error e => rw [h3] at h; cases h
      | ok v =>
        obtain ⟨q3, cc⟩ := v
        have a3 := adv_codeOf h3
        rw [h3] at h
        simp only [] at h
        cases h4 : lensN N L cc (n + m) q3 with
        | error e => rw [h4] at h; cases h
        | ok v =>
          obtain ⟨q4, ls⟩ := v
          have a4 := adv_lensGo _ _ _ _ _ a3.2 h4
          rw [h4] at h
          simp only [] at h
          split at h
          · cases h
          · injection h with h; injection h with h _; omega
theorem adv_block {bs : List Int} {N most kind p : Nat} {made : List Int} {q : Nat} {m : List Int} (hp : p ≤ 8 * bs.length) (h : blockN bs N (8 * bs.length) most kind p made = .ok (q, m)) : p < q ∧ q ≤ 8 * bs.length := by
  unfold blockN at h
  split at h
  · exact adv_stored h
  · split at h
    · exact signsN_ok (adv_fixedSign _ _) (adv_fixedDist _ _) _ _ _ _ _ hp (Nat.le_refl _) h
    · split at h
      · cases ho : ownCodesN N (8 * bs.length) p with
        | error e => rw [ho] at h; cases h
        | ok v =>
          obtain ⟨r, c, d⟩ := v
          have h1 := adv_own ho
          rw [ho] at h
          have := signsN_ok (adv_sign _ _ _) (adv_sign _ _ _) _ _ _ _ _ h1.2 (Nat.le_refl _) h
          omega
      · cases h
/-- One block with its head: is it the last one, the place behind, what is made. -/
def stepR (bs : List Int) (N L most p : Nat) (made : List Int) : Except Nat (Nat × Nat × List Int) := match num N L p 1 with
  | .error e => .error e
  | .ok (last, q) => match num N L q 2 with
    | .error e => .error e
    | .ok (kind, r) => match blockN bs N L most kind r made with
      | .error e => .error e
      | .ok (s, m) => .ok (last, s, m)
def contR (go : Nat → List Int → Except Nat (Nat × List Int)) : Except Nat (Nat × Nat × List Int) → Except Nat (Nat × List Int)
  | .error e => .error e
  | .ok (last, q, m) => if last = 0 then go q m else .ok (q, m)
theorem rawGo_step (bs : List Int) (N L most f p : Nat) (made : List Int) : rawGo bs N L most (f + 1) p made = contR (rawGo bs N L most f) (stepR bs N L most p made) := by
  rw [rawGo, stepR]
  cases num N L p 1 with
  | error e => rfl
  | ok v =>
    obtain ⟨last, q⟩ := v
    simp only []
    cases num N L q 2 with
    | error e => rfl
    | ok v =>
      obtain ⟨kind, r⟩ := v
      simp only []
      cases blockN bs N L most kind r made <;> rfl
theorem stepR_adv {bs : List Int} {N most p : Nat} {made : List Int} {last q : Nat} {m : List Int} (h : stepR bs N (8 * bs.length) most p made = .ok (last, q, m)) : p < q ∧ q ≤ 8 * bs.length := by
  unfold stepR at h
  cases h1 : num N (8 * bs.length) p 1 with
  | error e => rw [h1] at h; cases h
  | ok v =>
    obtain ⟨x, r⟩ := v
    have a1 := num_ok h1
    rw [h1] at h
    simp only [] at h
    cases h2 : num N (8 * bs.length) r 2 with
    | error e => rw [h2] at h; cases h
    | ok v =>
      obtain ⟨y, s⟩ := v
      have a2 := num_ok h2
      rw [h2] at h
      simp only [] at h
      cases h3 : blockN bs N (8 * bs.length) most y s made with
      | error e => rw [h3] at h; cases h
      | ok v =>
        obtain ⟨t, m2⟩ := v
        have a3 := adv_block a2.2.2 h3
        rw [h3] at h
        injection h with h; injection h with _ h; injection h with h _; omega
theorem rawGo_same {bs : List Int} {N most : Nat} : ∀ (f g p : Nat) (made : List Int), p ≤ 8 * bs.length → 8 * bs.length + 1 - p ≤ f → 8 * bs.length + 1 - p ≤ g → rawGo bs N (8 * bs.length) most f p made = rawGo bs N (8 * bs.length) most g p made
  | 0, g, p, made, hp, h1, h2 => by omega
  | f + 1, 0, p, made, hp, h1, h2 => by omega
  | f + 1, g + 1, p, made, hp, h1, h2 => by
    rw [rawGo_step, rawGo_step]
    cases hs : stepR bs N (8 * bs.length) most p made with
    | error e => rfl
    | ok v =>
      obtain ⟨l, q, m⟩ := v
      have := stepR_adv hs
      by_cases hl : l = 0
      · simp only [contR, if_pos hl]
        exact rawGo_same f g q m this.2 (by omega) (by omega)
      · simp only [contR, if_neg hl]
def rawAt (bs : List Int) (N most p : Nat) (made : List Int) : Except Nat (Nat × List Int) := rawGo bs N (8 * bs.length) most (8 * bs.length + 1 - p) p made
theorem rawAt_step {bs : List Int} {N most p : Nat} {made : List Int} (hp : p ≤ 8 * bs.length) : rawAt bs N most p made = contR (rawAt bs N most) (stepR bs N (8 * bs.length) most p made) := by
  unfold rawAt
  rw [show 8 * bs.length + 1 - p = (8 * bs.length - p) + 1 by omega, rawGo_step]
  cases hs : stepR bs N (8 * bs.length) most p made with
  | error e => rfl
  | ok v =>
    obtain ⟨l, q, m⟩ := v
    have := stepR_adv hs
    by_cases hl : l = 0
    · simp only [contR, if_pos hl]
      exact rawGo_same _ _ q m this.2 (by omega) (by omega)
    · simp only [contR, if_neg hl]
theorem rawOf_at (bs : List Int) (most : Nat) : rawOf bs most = rawAt bs (streamN bs) most 0 [] := rfl
end Plain
end Go.Proofs.Ytkminkeaeclanaa
