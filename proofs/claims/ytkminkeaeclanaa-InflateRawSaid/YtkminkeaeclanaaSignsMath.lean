/- The signs of a block, plainly: one after the other. -/
import Derived.Test.YtkminkeaeclanaaSpec
namespace Go.Proofs.Ytkminkeaeclanaa
set_option linter.unusedVariables false
namespace Plain
/-- What is read lies farther on. -/
def Adv (L : Nat) (nx : Nat → Except Nat (Nat × Nat)) : Prop := ∀ p s q, nx p = .ok (s, q) → p < q ∧ q ≤ L
theorem adv_code {N L n p x q : Nat} (h : codeN N L p n = .ok (x, q)) : q = p + n ∧ q ≤ L := by
  unfold codeN at h
  cases hn : num N L p n with
  | error e => rw [hn] at h; cases h
  | ok v =>
    obtain ⟨y, z⟩ := v
    rw [hn] at h
    injection h with h
    injection h with h1 h2
    have := num_ok hn
    omega
theorem adv_fixedDist (N L : Nat) : Adv L (fixedDistN N L) := fun p s q h => by
  have := adv_code h; omega
theorem adv_fixedSign (N L : Nat) : Adv L (fixedSignN N L) := fun p s q h => by
  unfold fixedSignN at h
  cases hc : codeN N L p 7 with
  | error e => rw [hc] at h; cases h
  | ok v =>
    obtain ⟨x, r⟩ := v
    have h1 := adv_code hc
    rw [hc] at h
    simp only [] at h
    split at h
    · injection h with h; injection h with _ h; omega
    · cases hn : num N L r 1 with
      | error e => rw [hn] at h; cases h
      | ok v =>
        obtain ⟨b, r2⟩ := v
        have h2 := num_ok hn
        rw [hn] at h
        simp only [] at h
        split at h
        · injection h with h; injection h with _ h; omega
        · split at h
          · injection h with h; injection h with _ h; omega
          · cases hn2 : num N L r2 1 with
            | error e => rw [hn2] at h; cases h
            | ok v =>
              obtain ⟨c, r3⟩ := v
              have h3 := num_ok hn2
              rw [hn2] at h
              injection h with h; injection h with _ h; omega
theorem adv_signGo (N L : Nat) (c : CodeS) : ∀ (f l p x first ahead s q : Nat), signGo N L c f l p x first ahead = .ok (s, q) → p < q ∧ q ≤ L
  | 0, l, p, x, first, ahead, s, q, h => by simp [signGo] at h
  | f + 1, l, p, x, first, ahead, s, q, h => by
    rw [signGo] at h
    cases hn : num N L p 1 with
    | error e => rw [hn] at h; cases h
    | ok v =>
      obtain ⟨b, r⟩ := v
      have h2 := num_ok hn
      rw [hn] at h
      simp only [] at h
      split at h
      · injection h with h; injection h with _ h; omega
      · have := adv_signGo N L c f _ _ _ _ _ s q h; omega
theorem adv_sign (N L : Nat) (c : CodeS) : Adv L (signN N L c) := fun p s q h => adv_signGo N L c _ _ _ _ _ _ s q h
theorem adv_length {N L p s len q : Nat} (hp : p ≤ L) (h : lengthN N L p s = .ok (len, q)) : p ≤ q ∧ q ≤ L := by
  unfold lengthN at h
  split at h
  · injection h with h; injection h with _ h; omega
  · split at h
    · injection h with h; injection h with _ h; omega
    · cases hn : num N L p ((s - 261) / 4) with
      | error e => rw [hn] at h; cases h
      | ok v =>
        obtain ⟨b, r⟩ := v
        have h2 := num_ok hn
        rw [hn] at h
        injection h with h; injection h with _ h; omega
theorem adv_dist {N L p s d q : Nat} (hp : p ≤ L) (h : distN N L p s = .ok (d, q)) : p ≤ q ∧ q ≤ L := by
  unfold distN at h
  split at h
  · cases h
  · split at h
    · injection h with h; injection h with _ h; omega
    · cases hn : num N L p ((s - 2) / 2) with
      | error e => rw [hn] at h; cases h
      | ok v =>
        obtain ⟨b, r⟩ := v
        have h2 := num_ok hn
        rw [hn] at h
        injection h with h; injection h with _ h; omega
/-- What one sign does. -/
def stepN (N L most : Nat) (nx fr : Nat → Except Nat (Nat × Nat)) (p : Nat) (made : List Int) : Except Nat (Bool × Nat × List Int) := match nx p with
  | .error e => .error e
  | .ok (s, q) =>
    if s < 256 then match giveN most made (s : Int) with
      | .error e => .error e
      | .ok m => .ok (true, q, m)
    else if s = 256 then .ok (false, q, made)
    else if 286 ≤ s then .error 4
    else match lengthN N L q s with
      | .error e => .error e
      | .ok (len, r) => match fr r with
        | .error e => .error e
        | .ok (t, u) => match distN N L u t with
          | .error e => .error e
          | .ok (d, v) => match againN most made len d with
            | .error e => .error e
            | .ok m => .ok (true, v, m)
def contN (go : Nat → List Int → Except Nat (Nat × List Int)) : Except Nat (Bool × Nat × List Int) → Except Nat (Nat × List Int)
  | .error e => .error e
  | .ok (true, q, m) => go q m
  | .ok (false, q, m) => .ok (q, m)
theorem signsGo_step (N L most : Nat) (nx fr : Nat → Except Nat (Nat × Nat)) (f p : Nat) (made : List Int) : signsGo N L most nx fr (f + 1) p made = contN (signsGo N L most nx fr f) (stepN N L most nx fr p made) := by
  rw [signsGo, stepN]
  cases nx p with
  | error e => rfl
  | ok v =>
    obtain ⟨s, q⟩ := v
    simp only []
    split
    · cases giveN most made (s : Int) <;> rfl
    · split
      · rfl
      · split
        · rfl
        · cases lengthN N L q s with
          | error e => rfl
          | ok v =>
            obtain ⟨len, r⟩ := v
            simp only []
            cases fr r with
            | error e => rfl
            | ok v =>
              obtain ⟨t, u⟩ := v
              simp only []
              cases distN N L u t with
              | error e => rfl
              | ok v =>
                obtain ⟨d, w⟩ := v
                simp only []
                cases againN most made len d <;> rfl
theorem stepN_adv {N L most : Nat} {nx fr : Nat → Except Nat (Nat × Nat)} (hn : Adv L nx) (hf : Adv L fr) {p : Nat} {made : List Int} {b : Bool} {q : Nat} {m : List Int} (h : stepN N L most nx fr p made = .ok (b, q, m)) : p < q ∧ q ≤ L := by
  unfold stepN at h
  cases hnx : nx p with
  | error e => rw [hnx] at h; cases h
  | ok v =>
    obtain ⟨s, r⟩ := v
    have h1 := hn p s r hnx
    rw [hnx] at h
    simp only [] at h
    split at h
    · cases hg : giveN most made (s : Int) with
      | error e => rw [hg] at h; cases h
      | ok v => rw [hg] at h; injection h with h; injection h with _ h; injection h with h _; omega
    · split at h
      · injection h with h; injection h with _ h; injection h with h _; omega
      · split at h
        · cases h
        · cases hl : lengthN N L r s with
          | error e => rw [hl] at h; cases h
          | ok v =>
            obtain ⟨len, r2⟩ := v
            have h2 := adv_length h1.2 hl
            rw [hl] at h
            simp only [] at h
            cases hfr : fr r2 with
            | error e => rw [hfr] at h; cases h
            | ok v =>
              obtain ⟨t, u⟩ := v
              have h3 := hf r2 t u hfr
              rw [hfr] at h
              simp only [] at h
              cases hd : distN N L u t with
              | error e => rw [hd] at h; cases h
              | ok v =>
                obtain ⟨d, z⟩ := v
                have h4 := adv_dist h3.2 hd
                rw [hd] at h
                simp only [] at h
                cases ha : againN most made len d with
                | error e => rw [ha] at h; cases h
                | ok v => rw [ha] at h; injection h with h; injection h with _ h; injection h with h _; omega
theorem signsGo_same {N L most : Nat} {nx fr : Nat → Except Nat (Nat × Nat)} (hn : Adv L nx) (hf : Adv L fr) : ∀ (f g p : Nat) (made : List Int), p ≤ L → L + 1 - p ≤ f → L + 1 - p ≤ g → signsGo N L most nx fr f p made = signsGo N L most nx fr g p made
  | 0, g, p, made, hp, h1, h2 => by omega
  | f + 1, 0, p, made, hp, h1, h2 => by omega
  | f + 1, g + 1, p, made, hp, h1, h2 => by
    rw [signsGo_step, signsGo_step]
    cases hs : stepN N L most nx fr p made with
    | error e => rfl
    | ok v =>
      obtain ⟨b, q, m⟩ := v
      have := stepN_adv hn hf hs
      cases b with
      | false => rfl
      | true => exact signsGo_same hn hf f g q m this.2 (by omega) (by omega)
theorem signsN_step {N L most : Nat} {nx fr : Nat → Except Nat (Nat × Nat)} (hn : Adv L nx) (hf : Adv L fr) (p : Nat) (made : List Int) (hp : p ≤ L) : signsN N L most nx fr p made = contN (signsN N L most nx fr) (stepN N L most nx fr p made) := by
  unfold signsN
  rw [show L + 1 - p = (L - p) + 1 by omega, signsGo_step]
  cases hs : stepN N L most nx fr p made with
  | error e => rfl
  | ok v =>
    obtain ⟨b, q, m⟩ := v
    have := stepN_adv hn hf hs
    cases b with
    | false => rfl
    | true => exact signsGo_same hn hf _ _ q m this.2 (by omega) (by omega)
theorem signsN_ok {N L most : Nat} {nx fr : Nat → Except Nat (Nat × Nat)} (hn : Adv L nx) (hf : Adv L fr) : ∀ (k p : Nat) (made : List Int) (q : Nat) (m : List Int), p ≤ L → L - p ≤ k → signsN N L most nx fr p made = .ok (q, m) → p < q ∧ q ≤ L
  | k, p, made, q, m, hp, hk, h => by
    rw [signsN_step hn hf p made hp] at h
    cases hs : stepN N L most nx fr p made with
    | error e => rw [hs] at h; cases h
    | ok v =>
      obtain ⟨b, q2, m2⟩ := v
      have ha := stepN_adv hn hf hs
      rw [hs] at h
      cases b with
      | false => injection h with h; injection h with h _; omega
      | true =>
        cases k with
        | zero => omega
        | succ k =>
          have := signsN_ok hn hf k q2 m2 q m ha.2 (by omega) h
          omega
end Plain
end Go.Proofs.Ytkminkeaeclanaa
