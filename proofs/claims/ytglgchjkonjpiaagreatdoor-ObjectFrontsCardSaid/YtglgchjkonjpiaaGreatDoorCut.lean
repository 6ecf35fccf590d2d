/- Bytes cut off: what is read is the same, or it ends too early. -/
import Derived.Test.YtglgchjkonjpiaaGreatDoorInfE
/-! Bytes cut off: what is read is the same, or it ends too early. -/
namespace Go.Proofs.YtglgchjkonjpiaaGreatDoor
set_option linter.unusedVariables false
namespace Plain
/-- The shorter run is the longer one, or it ends too early, and the longer one goes behind the cut. -/
def Cut {α : Type} (pl : α → Nat) (L' : Nat) (s l : Except Nat α) : Prop := s = l ∨ (s = .error 3 ∧ ∀ v, l = .ok v → L' < pl v)
theorem Cut.same {α : Type} {pl : α → Nat} {L' : Nat} {s : Except Nat α} : Cut pl L' s s := .inl rfl
section
variable {N' N L' L : Nat} (hL : L' ≤ L) (H : ∀ p n, p + n ≤ L' → N' / 2 ^ p % 2 ^ n = N / 2 ^ p % 2 ^ n)
include hL H
theorem cut_num (p n : Nat) : Cut (·.2) L' (num N' L' p n) (num N L p n) := by
  by_cases h : p + n ≤ L'
  · refine .inl ?_
    unfold num
    rw [if_pos h, if_pos (by omega), H p n h]
  · refine .inr ⟨by unfold num; rw [if_neg h], fun v hv => ?_⟩
    obtain ⟨x, q⟩ := v
    have := (num_ok hv).2.1
    show L' < q
    omega
theorem cut_code (p n : Nat) : Cut (·.2) L' (codeN N' L' p n) (codeN N L p n) := by
  rcases cut_num hL H p n with h | ⟨h, hl⟩
  · refine .inl ?_
    unfold codeN; rw [h]
  · refine .inr ⟨by unfold codeN; rw [h], fun v hv => ?_⟩
    obtain ⟨x, q⟩ := v
    unfold codeN at hv
    cases hn : num N L p n with
    | error e => rw [hn] at hv; cases hv
    | ok u =>
      obtain ⟨y, r⟩ := u
      rw [hn] at hv
      injection hv with hv
      injection hv with _ e2
      have := hl _ hn
      simp only at this ⊢
      omega
theorem cut_fixedDist (p : Nat) : Cut (·.2) L' (fixedDistN N' L' p) (fixedDistN N L p) := cut_code hL H p 5
theorem cut_signGo (c : CodeS) : ∀ (f l p x first ahead : Nat), Cut (·.2) L' (signGo N' L' c f l p x first ahead) (signGo N L c f l p x first ahead)
  | 0, l, p, x, first, ahead => .inl rfl
  | f + 1, l, p, x, first, ahead => by
    rw [signGo, signGo]
    rcases cut_num hL H p 1 with h | ⟨h, hl⟩
    · rw [h]
      cases hn : num N L p 1 with
      | error e => exact .inl rfl
      | ok v =>
        obtain ⟨b, q⟩ := v
        simp only []
        split
        · exact .inl rfl
        · exact cut_signGo c f _ _ _ _ _
    · rw [h]
      refine .inr ⟨rfl, fun v hv => ?_⟩
      cases hn : num N L p 1 with
      | error e => rw [hn] at hv; cases hv
      | ok u =>
        obtain ⟨b, q⟩ := u
        have h1 := hl _ hn
        simp only at h1
        rw [hn] at hv
        simp only [] at hv
        split at hv
        · injection hv with hv; subst hv; exact h1
        · obtain ⟨s, r⟩ := v
          have := adv_signGo N L c f _ _ _ _ _ s r hv
          show L' < r
          omega
theorem cut_sign (c : CodeS) (p : Nat) : Cut (·.2) L' (signN N' L' c p) (signN N L c p) := cut_signGo hL H c _ _ _ _ _ _
theorem cut_length (p s : Nat) (hp : p ≤ L) : Cut (·.2) L' (lengthN N' L' p s) (lengthN N L p s) := by
  unfold lengthN
  split
  · exact .inl rfl
  · split
    · exact .inl rfl
    · rcases cut_num hL H p ((s - 261) / 4) with h | ⟨h, hl⟩
      · rw [h]; exact .inl rfl
      · rw [h]
        refine .inr ⟨rfl, fun v hv => ?_⟩
        cases hn : num N L p ((s - 261) / 4) with
        | error e => rw [hn] at hv; cases hv
        | ok u =>
          have h1 := hl _ hn
          rw [hn] at hv; injection hv with hv; subst hv; exact h1
theorem cut_dist (p s : Nat) : Cut (·.2) L' (distN N' L' p s) (distN N L p s) := by
  unfold distN
  split
  · exact .inl rfl
  · split
    · exact .inl rfl
    · rcases cut_num hL H p ((s - 2) / 2) with h | ⟨h, hl⟩
      · rw [h]; exact .inl rfl
      · rw [h]
        refine .inr ⟨rfl, fun v hv => ?_⟩
        cases hn : num N L p ((s - 2) / 2) with
        | error e => rw [hn] at hv; cases hv
        | ok u =>
          have h1 := hl _ hn
          rw [hn] at hv; injection hv with hv; subst hv; exact h1
theorem cut_fixed (p : Nat) : Cut (·.2) L' (fixedSignN N' L' p) (fixedSignN N L p) := by
  unfold fixedSignN
  rcases cut_code hL H p 7 with h | ⟨h, hl⟩
  · rw [h]
    cases codeN N L p 7 with
    | error e => exact .inl rfl
    | ok v =>
      obtain ⟨x, q⟩ := v
      simp only []
      split
      · exact .inl rfl
      · rcases cut_num hL H q 1 with h | ⟨h, hl⟩
        · rw [h]
          cases num N L q 1 with
          | error e => exact .inl rfl
          | ok v =>
            obtain ⟨b, r⟩ := v
            simp only []
            split
            · exact .inl rfl
            · split
              · exact .inl rfl
              · rcases cut_num hL H r 1 with h | ⟨h, hl⟩
                · rw [h]; exact .inl rfl
                · rw [h]
                  refine .inr ⟨rfl, fun v hv => ?_⟩
                  cases hn : num N L r 1 with
                  | error e => rw [hn] at hv; cases hv
                  | ok u =>
                    have h1 := hl _ hn
                    rw [hn] at hv; injection hv with hv; subst hv; exact h1
        · rw [h]
          refine .inr ⟨rfl, fun v hv => ?_⟩
          cases hn : num N L q 1 with
          | error e => rw [hn] at hv; cases hv
          | ok u =>
            obtain ⟨b, r⟩ := u
            have h1 := hl _ hn
            simp only at h1
            rw [hn] at hv
            simp only [] at hv
            split at hv
            · injection hv with hv; subst hv; exact h1
            · split at hv
              · injection hv with hv; subst hv; exact h1
              · cases hm : num N L r 1 with
                | error e => rw [hm] at hv; cases hv
                | ok u =>
                  have h2 := num_ok hm
                  rw [hm] at hv; injection hv with hv; subst hv
                  show L' < u.2
                  omega
  · rw [h]
    refine .inr ⟨rfl, fun v hv => ?_⟩
    cases hc : codeN N L p 7 with
    | error e => rw [hc] at hv; cases hv
    | ok u =>
      obtain ⟨x, q⟩ := u
      have h1 := hl _ hc
      simp only at h1
      obtain ⟨y, z⟩ := v
      have hf : fixedSignN N L p = .ok (y, z) := by unfold fixedSignN; exact hv
      rw [hc] at hv
      simp only [] at hv
      show L' < z
      split at hv
      · injection hv with hv; injection hv with _ e2; omega
      · cases hm : num N L q 1 with
        | error e => rw [hm] at hv; cases hv
        | ok u =>
          obtain ⟨b, r⟩ := u
          have h2 := num_ok hm
          rw [hm] at hv
          simp only [] at hv
          split at hv
          · injection hv with hv; injection hv with _ e2; omega
          · split at hv
            · injection hv with hv; injection hv with _ e2; omega
            · cases hm2 : num N L r 1 with
              | error e => rw [hm2] at hv; cases hv
              | ok u =>
                obtain ⟨b2, r2⟩ := u
                have h3 := num_ok hm2
                rw [hm2] at hv; injection hv with hv; injection hv with _ e2; omega
theorem cut_howMany (p n least most : Nat) : Cut (·.2) L' (howManyN N' L' p n least most) (howManyN N L p n least most) := by
  unfold howManyN
  rcases cut_num hL H p n with h | ⟨h, hl⟩
  · rw [h]; exact .inl rfl
  · rw [h]
    refine .inr ⟨rfl, fun v hv => ?_⟩
    cases hn : num N L p n with
    | error e => rw [hn] at hv; cases hv
    | ok u =>
      have h1 := hl _ hn
      rw [hn] at hv
      simp only [] at hv
      split at hv
      · cases hv
      · injection hv with hv; subst hv; exact h1
theorem cut_told : ∀ (l : List Nat) (p : Nat) (ls : List Nat), p ≤ L → Cut (·.1) L' (toldGo N' L' l p ls) (toldGo N L l p ls)
  | [], p, ls, hp => .inl rfl
  | s :: t, p, ls, hp => by
    rw [toldGo, toldGo]
    rcases cut_num hL H p 3 with h | ⟨h, hl⟩
    · rw [h]
      cases hn : num N L p 3 with
      | error e => exact .inl rfl
      | ok v =>
        obtain ⟨x, q⟩ := v
        exact cut_told t q _ (num_ok hn).2.2
    · rw [h]
      refine .inr ⟨rfl, fun v hv => ?_⟩
      cases hn : num N L p 3 with
      | error e => rw [hn] at hv; cases hv
      | ok u =>
        obtain ⟨x, q⟩ := u
        have h1 := hl _ hn
        simp only at h1
        rw [hn] at hv
        obtain ⟨r, ms⟩ := v
        have := adv_told t q _ r ms (num_ok hn).2.2 hv
        show L' < r
        omega
theorem cut_codeOf (p : Nat) : Cut (·.1) L' (codeOfLengthsN N' L' p) (codeOfLengthsN N L p) := by
  unfold codeOfLengthsN
  rcases cut_num hL H p 4 with h | ⟨h, hl⟩
  · rw [h]
    cases hn : num N L p 4 with
    | error e => exact .inl rfl
    | ok v =>
      obtain ⟨x, q⟩ := v
      simp only []
      rcases cut_told hL H (orderN.take (x + 4)) q (List.replicate 19 0) (num_ok hn).2.2 with h | ⟨h, hl⟩
      · rw [h]; exact .inl rfl
      · rw [h]
        refine .inr ⟨rfl, fun v hv => ?_⟩
        cases ht : toldGo N L (orderN.take (x + 4)) q (List.replicate 19 0) with
        | error e => rw [ht] at hv; cases hv
        | ok u =>
          have h1 := hl _ ht
          rw [ht] at hv
          simp only [] at hv
          split at hv
          · injection hv with hv; subst hv; exact h1
          · cases hv
  · rw [h]
    refine .inr ⟨rfl, fun v hv => ?_⟩
    cases hn : num N L p 4 with
    | error e => rw [hn] at hv; cases hv
    | ok u =>
      obtain ⟨x, q⟩ := u
      have h1 := hl _ hn
      simp only at h1
      rw [hn] at hv
      simp only [] at hv
      cases ht : toldGo N L (orderN.take (x + 4)) q (List.replicate 19 0) with
      | error e => rw [ht] at hv; cases hv
      | ok u =>
        obtain ⟨r, ls⟩ := u
        have h2 := adv_told _ _ _ _ _ (num_ok hn).2.2 ht
        rw [ht] at hv
        simp only [] at hv
        split at hv
        · injection hv with hv; subst hv; show L' < r; omega
        · cases hv
theorem cut_oneLen (c : CodeS) (p : Nat) (ls : List Nat) : Cut (·.2.2) L' (oneLen N' L' c p ls) (oneLen N L c p ls) := by
  unfold oneLen
  rcases cut_sign hL H c p with h | ⟨h, hl⟩
  · rw [h]
    cases signN N L c p with
    | error e => exact .inl rfl
    | ok v =>
      obtain ⟨s, q⟩ := v
      simp only []
      have key : ∀ (n : Nat) (g : Nat → Nat × Nat), Cut (·.2.2) L' (match num N' L' q n with | .error e => .error e | .ok (x, r) => .ok ((g x).1, (g x).2, r) : Except Nat (Nat × Nat × Nat)) (match num N L q n with | .error e => .error e | .ok (x, r) => .ok ((g x).1, (g x).2, r)) := fun n g => by
        rcases cut_num hL H q n with h | ⟨h, hl⟩
        · rw [h]; exact .inl rfl
        · rw [h]
          refine .inr ⟨rfl, fun v hv => ?_⟩
          cases hn : num N L q n with
          | error e => rw [hn] at hv; cases hv
          | ok u =>
            have h1 := hl _ hn
            rw [hn] at hv; injection hv with hv; subst hv; exact h1
      split
      · split
        · exact .inl rfl
        · exact key 2 fun x => (ls.getD (ls.length - 1) 0, 3 + x)
      · split
        · exact key 3 fun x => (0, 3 + x)
        · split
          · exact key 7 fun x => (0, 11 + x)
          · exact .inl rfl
  · rw [h]
    refine .inr ⟨rfl, fun v hv => ?_⟩
    cases hs : signN N L c p with
    | error e => rw [hs] at hv; cases hv
    | ok u =>
      obtain ⟨s, q⟩ := u
      have h1 := hl _ hs
      simp only at h1
      rw [hs] at hv
      simp only [] at hv
      obtain ⟨len, times, r⟩ := v
      show L' < r
      split at hv
      · split at hv
        · cases hv
        · cases hn : num N L q 2 with
          | error e => rw [hn] at hv; cases hv
          | ok u =>
            have h2 := num_ok hn
            rw [hn] at hv; injection hv with hv; injection hv with _ hv; injection hv with _ hv; omega
      · split at hv
        · cases hn : num N L q 3 with
          | error e => rw [hn] at hv; cases hv
          | ok u =>
            have h2 := num_ok hn
            rw [hn] at hv; injection hv with hv; injection hv with _ hv; injection hv with _ hv; omega
        · split at hv
          · cases hn : num N L q 7 with
            | error e => rw [hn] at hv; cases hv
            | ok u =>
              have h2 := num_ok hn
              rw [hn] at hv; injection hv with hv; injection hv with _ hv; injection hv with _ hv; omega
          · injection hv with hv; injection hv with _ hv; injection hv with _ hv; omega
theorem cut_lensGo (c : CodeS) (n : Nat) : ∀ (f p : Nat) (ls : List Nat), p ≤ L → Cut (·.1) L' (lensGo N' L' c n f p ls) (lensGo N L c n f p ls)
  | 0, p, ls, hp => .inl rfl
  | f + 1, p, ls, hp => by
    rw [lensGo, lensGo]
    split
    · exact .inl rfl
    · rcases cut_oneLen hL H c p ls with h | ⟨h, hl⟩
      · rw [h]
        cases ho : oneLen N L c p ls with
        | error e => exact .inl rfl
        | ok v =>
          obtain ⟨len, times, q⟩ := v
          simp only []
          split
          · exact .inl rfl
          · exact cut_lensGo c n f q _ (adv_oneLen0 ho).2
      · rw [h]
        refine .inr ⟨rfl, fun v hv => ?_⟩
        cases ho : oneLen N L c p ls with
        | error e => rw [ho] at hv; cases hv
        | ok u =>
          obtain ⟨len, times, q⟩ := u
          have h1 := hl _ ho
          simp only at h1
          rw [ho] at hv
          simp only [] at hv
          obtain ⟨r, ms⟩ := v
          show L' < r
          split at hv
          · cases hv
          · have := adv_lensGo f q _ r ms (adv_oneLen0 ho).2 hv
            omega
theorem cut_step (most : Nat) {nx' fr' nx fr : Nat → Except Nat (Nat × Nat)} (hn : Adv L nx) (hf : Adv L fr) (hcn : ∀ p, Cut (·.2) L' (nx' p) (nx p)) (hcf : ∀ p, Cut (·.2) L' (fr' p) (fr p)) (p : Nat) (made : List Int) :
    Cut (·.2.1) L' (stepN N' L' most nx' fr' p made) (stepN N L most nx fr p made) := by
  unfold stepN
  rcases hcn p with h | ⟨h, hl⟩
  · rw [h]
    cases hnx : nx p with
    | error e => exact .inl rfl
    | ok v =>
      obtain ⟨s, q⟩ := v
      have hq := hn p s q hnx
      simp only []
      split
      · exact .inl rfl
      · split
        · exact .inl rfl
        · split
          · exact .inl rfl
          · rcases cut_length hL H q s hq.2 with h | ⟨h, hl⟩
            · rw [h]
              cases hle : lengthN N L q s with
              | error e => exact .inl rfl
              | ok v =>
                obtain ⟨len, r⟩ := v
                have hr := adv_length hq.2 hle
                simp only []
                rcases hcf r with h | ⟨h, hl⟩
                · rw [h]
                  cases hfr : fr r with
                  | error e => exact .inl rfl
                  | ok v =>
                    obtain ⟨t, u⟩ := v
                    have hu := hf r t u hfr
                    simp only []
                    rcases cut_dist hL H u t with h | ⟨h, hl⟩
                    · rw [h]; exact .inl rfl
                    · rw [h]
                      refine .inr ⟨rfl, fun v hv => ?_⟩
                      cases hd : distN N L u t with
                      | error e => rw [hd] at hv; cases hv
                      | ok y =>
                        obtain ⟨d, z⟩ := y
                        have h1 := hl _ hd
                        simp only at h1
                        rw [hd] at hv
                        simp only [] at hv
                        cases ha : againN most made len d with
                        | error e => rw [ha] at hv; cases hv
                        | ok m => rw [ha] at hv; injection hv with hv; subst hv; exact h1
                · rw [h]
                  refine .inr ⟨rfl, fun v hv => ?_⟩
                  cases hfr : fr r with
                  | error e => rw [hfr] at hv; cases hv
                  | ok y =>
                    obtain ⟨t, u⟩ := y
                    have h1 := hl _ hfr
                    simp only at h1
                    have hu := hf r t u hfr
                    rw [hfr] at hv
                    simp only [] at hv
                    cases hd : distN N L u t with
                    | error e => rw [hd] at hv; cases hv
                    | ok y =>
                      obtain ⟨d, z⟩ := y
                      have h2 := adv_dist hu.2 hd
                      rw [hd] at hv
                      simp only [] at hv
                      cases ha : againN most made len d with
                      | error e => rw [ha] at hv; cases hv
                      | ok m => rw [ha] at hv; injection hv with hv; subst hv; show L' < z; omega
            · rw [h]
              refine .inr ⟨rfl, fun v hv => ?_⟩
              cases hle : lengthN N L q s with
              | error e => rw [hle] at hv; cases hv
              | ok y =>
                obtain ⟨len, r⟩ := y
                have h1 := hl _ hle
                simp only at h1
                have hr := adv_length hq.2 hle
                rw [hle] at hv
                simp only [] at hv
                cases hfr : fr r with
                | error e => rw [hfr] at hv; cases hv
                | ok y =>
                  obtain ⟨t, u⟩ := y
                  have hu := hf r t u hfr
                  rw [hfr] at hv
                  simp only [] at hv
                  cases hd : distN N L u t with
                  | error e => rw [hd] at hv; cases hv
                  | ok y =>
                    obtain ⟨d, z⟩ := y
                    have h2 := adv_dist hu.2 hd
                    rw [hd] at hv
                    simp only [] at hv
                    cases ha : againN most made len d with
                    | error e => rw [ha] at hv; cases hv
                    | ok m => rw [ha] at hv; injection hv with hv; subst hv; show L' < z; omega
  · rw [h]
    refine .inr ⟨rfl, fun v hv => ?_⟩
    cases hnx : nx p with
    | error e => rw [hnx] at hv; cases hv
    | ok y =>
      obtain ⟨s, q⟩ := y
      have h1 := hl _ hnx
      simp only at h1
      have hq := hn p s q hnx
      rw [hnx] at hv
      simp only [] at hv
      split at hv
      · cases hg : giveN most made (s : Int) with
        | error e => rw [hg] at hv; cases hv
        | ok m => rw [hg] at hv; injection hv with hv; subst hv; exact h1
      · split at hv
        · injection hv with hv; subst hv; exact h1
        · split at hv
          · cases hv
          · cases hle : lengthN N L q s with
            | error e => rw [hle] at hv; cases hv
            | ok y =>
              obtain ⟨len, r⟩ := y
              have hr := adv_length hq.2 hle
              rw [hle] at hv
              simp only [] at hv
              cases hfr : fr r with
              | error e => rw [hfr] at hv; cases hv
              | ok y =>
                obtain ⟨t, u⟩ := y
                have hu := hf r t u hfr
                rw [hfr] at hv
                simp only [] at hv
                cases hd : distN N L u t with
                | error e => rw [hd] at hv; cases hv
                | ok y =>
                  obtain ⟨d, z⟩ := y
                  have h2 := adv_dist hu.2 hd
                  rw [hd] at hv
                  simp only [] at hv
                  cases ha : againN most made len d with
                  | error e => rw [ha] at hv; cases hv
                  | ok m => rw [ha] at hv; injection hv with hv; subst hv; show L' < z; omega
theorem cut_signsGo (most : Nat) {nx' fr' nx fr : Nat → Except Nat (Nat × Nat)} (hn : Adv L nx) (hf : Adv L fr) (hcn : ∀ p, Cut (·.2) L' (nx' p) (nx p)) (hcf : ∀ p, Cut (·.2) L' (fr' p) (fr p)) : ∀ (f p : Nat) (made : List Int), p ≤ L → L + 1 - p ≤ f →
    Cut (·.1) L' (signsGo N' L' most nx' fr' f p made) (signsGo N L most nx fr f p made)
  | 0, p, made, hp, hk => .inl rfl
  | f + 1, p, made, hp, hk => by
    rw [signsGo_step, signsGo_step]
    rcases cut_step hL H most hn hf hcn hcf p made with h | ⟨h, hl⟩
    · rw [h]
      cases hs : stepN N L most nx fr p made with
      | error e => exact .inl rfl
      | ok v =>
        obtain ⟨b, q, m⟩ := v
        have ha := stepN_adv hn hf hs
        cases b with
        | false => exact .inl rfl
        | true => exact cut_signsGo most hn hf hcn hcf f q m ha.2 (by omega)
    · rw [h]
      refine .inr ⟨rfl, fun v hv => ?_⟩
      cases hs : stepN N L most nx fr p made with
      | error e => rw [hs] at hv; cases hv
      | ok y =>
        obtain ⟨b, q, m⟩ := y
        have h1 := hl _ hs
        simp only at h1
        have ha := stepN_adv hn hf hs
        rw [hs] at hv
        obtain ⟨r, m2⟩ := v
        show L' < r
        cases b with
        | false => injection hv with hv; injection hv with hv _; omega
        | true =>
          have he : signsN N L most nx fr q m = .ok (r, m2) := by
            unfold signsN
            rw [signsGo_same hn hf (L + 1 - q) f q m ha.2 (Nat.le_refl _) (by omega)]; exact hv
          have := signsN_ok hn hf (L - q) q m r m2 ha.2 (Nat.le_refl _) he
          omega
theorem cut_signs (most : Nat) {nx' fr' nx fr : Nat → Except Nat (Nat × Nat)} (hn' : Adv L' nx') (hf' : Adv L' fr') (hn : Adv L nx) (hf : Adv L fr) (hcn : ∀ p, Cut (·.2) L' (nx' p) (nx p)) (hcf : ∀ p, Cut (·.2) L' (fr' p) (fr p)) (p : Nat) (made : List Int) (hp : p ≤ L') :
    Cut (·.1) L' (signsN N' L' most nx' fr' p made) (signsN N L most nx fr p made) := by
  have := cut_signsGo hL H most hn hf hcn hcf (L + 1 - p) p made (by omega) (Nat.le_refl _)
  unfold signsN
  rwa [signsGo_same hn' hf' (L' + 1 - p) (L + 1 - p) p made hp (Nat.le_refl _) (by omega)]
theorem cut_lens (c : CodeS) (n p : Nat) (hp : p ≤ L') : Cut (·.1) L' (lensN N' L' c n p) (lensN N L c n p) := by
  have := cut_lensGo hL H c n (L + 1 - p) p [] (by omega)
  unfold lensN
  rwa [lensGo_same (L' + 1 - p) (L + 1 - p) p [] hp (Nat.le_refl _) (by omega)]
theorem cut_stored (bs : List Int) (k : Nat) (hk : k ≤ bs.length) (hk8 : L' = 8 * k) (most p : Nat) (made : List Int) : Cut (·.1) L' (storedN (bs.take k) N' L' most p made) (storedN bs N L most p made) := by
  have hlen : (bs.take k).length = k := by rw [List.length_take]; omega
  unfold storedN
  rcases cut_num hL H (8 * ((p + 7) / 8)) 16 with h | ⟨h, hl⟩
  · rw [h]
    cases h1 : num N L (8 * ((p + 7) / 8)) 16 with
    | error e => exact .inl rfl
    | ok v =>
      obtain ⟨n, q⟩ := v
      have a1 := num_ok h1
      simp only []
      rcases cut_num hL H q 16 with h | ⟨h, hl⟩
      · rw [h]
        cases h2 : num N L q 16 with
        | error e => exact .inl rfl
        | ok v =>
          obtain ⟨m, r⟩ := v
          have a2 := num_ok h2
          simp only []
          rw [hlen]
          by_cases hc : m + n ≠ 65535
          · rw [if_pos hc, if_pos hc]; exact .inl rfl
          · rw [if_neg hc, if_neg hc]
            by_cases hr : most - made.length < min n (bs.length - r / 8)
            · rw [if_pos hr]
              by_cases hr' : most - made.length < min n (k - r / 8)
              · rw [if_pos hr']; exact .inl rfl
              · rw [if_neg hr', if_pos (by omega)]
                exact .inr ⟨rfl, fun v hv => by cases hv⟩
            · rw [if_neg hr, if_neg (by omega)]
              by_cases he' : k - r / 8 < n
              · rw [if_pos he']
                refine .inr ⟨rfl, fun v hv => ?_⟩
                split at hv
                · cases hv
                · injection hv with hv; subst hv
                  show L' < r + 8 * n
                  omega
              · rw [if_neg he', if_neg (by omega)]
                refine .inl ?_
                rw [List.drop_take, List.take_take, Nat.min_eq_left (by omega)]
      · rw [h]
        refine .inr ⟨rfl, fun v hv => ?_⟩
        cases h2 : num N L q 16 with
        | error e => rw [h2] at hv; cases hv
        | ok u =>
          obtain ⟨m, r⟩ := u
          have b1 := hl _ h2
          simp only at b1
          rw [h2] at hv
          simp only [] at hv
          split at hv
          · cases hv
          · split at hv
            · cases hv
            · split at hv
              · cases hv
              · injection hv with hv; subst hv
                show L' < r + 8 * n
                omega
  · rw [h]
    refine .inr ⟨rfl, fun v hv => ?_⟩
    cases h1 : num N L (8 * ((p + 7) / 8)) 16 with
    | error e => rw [h1] at hv; cases hv
    | ok u =>
      obtain ⟨n, q⟩ := u
      have b1 := hl _ h1
      simp only at b1
      rw [h1] at hv
      simp only [] at hv
      cases h2 : num N L q 16 with
      | error e => rw [h2] at hv; cases hv
      | ok u =>
        obtain ⟨m, r⟩ := u
        have a2 := num_ok h2
        rw [h2] at hv
        simp only [] at hv
        split at hv
        · cases hv
        · split at hv
          · cases hv
          · split at hv
            · cases hv
            · injection hv with hv; subst hv
              show L' < r + 8 * n
              omega
theorem cut_own (p : Nat) : Cut (·.1) L' (ownCodesN N' L' p) (ownCodesN N L p) := by
  have late : ∀ (n m : Nat) (cc : CodeS) (q3 q4 : Nat) (ls : List Nat) (v : Nat × CodeS × CodeS), (if ls.getD 256 0 = 0 ∨ goodN (codeOfN (ls.take n)) = false ∨ (goodN (codeOfN (ls.drop n)) = false ∧ (codeOfN (ls.drop n)).sg ≠ []) then (.error 4 : Except Nat (Nat × CodeS × CodeS)) else .ok (q4, codeOfN (ls.take n), codeOfN (ls.drop n))) = .ok v → v.1 = q4 := fun n m cc q3 q4 ls v hv => by
    split at hv
    · cases hv
    · injection hv with hv; subst hv; rfl
  unfold ownCodesN
  rcases cut_howMany hL H p 5 257 286 with h | ⟨h, hl⟩
  · rw [h]
    cases h1 : howManyN N L p 5 257 286 with
    | error e => exact .inl rfl
    | ok v =>
      obtain ⟨n, q1⟩ := v
      simp only []
      rcases cut_howMany hL H q1 5 1 30 with h | ⟨h, hl⟩
      · rw [h]
        cases h2 : howManyN N L q1 5 1 30 with
        | error e => exact .inl rfl
        | ok v =>
          obtain ⟨m, q2⟩ := v
          simp only []
          rcases cut_codeOf hL H q2 with h | ⟨h, hl⟩
          · have h3' := h
            rw [h]
            cases h3 : codeOfLengthsN N L q2 with
            | error e => exact .inl rfl
            | ok v =>
              obtain ⟨q3, cc⟩ := v
              rw [h3] at h3'
              have a3 := adv_codeOf h3'
              simp only []
              rcases cut_lens hL H cc (n + m) q3 a3.2 with h | ⟨h, hl⟩
              · rw [h]; exact .inl rfl
              · rw [h]
                refine .inr ⟨rfl, fun v hv => ?_⟩
                cases h4 : lensN N L cc (n + m) q3 with
                | error e => rw [h4] at hv; cases hv
                | ok u =>
                  obtain ⟨q4, ls⟩ := u
                  have b1 := hl _ h4
                  simp only at b1
                  rw [h4] at hv
                  have := late n m cc q3 q4 ls v hv
                  show L' < v.1
                  omega
          · rw [h]
            refine .inr ⟨rfl, fun v hv => ?_⟩
            cases h3 : codeOfLengthsN N L q2 with
            | error e => rw [h3] at hv; cases hv
            | ok u =>
              obtain ⟨q3, cc⟩ := u
              have b1 := hl _ h3
              simp only at b1
              rw [h3] at hv
              simp only [] at hv
              cases h4 : lensN N L cc (n + m) q3 with
              | error e => rw [h4] at hv; cases hv
              | ok u =>
                obtain ⟨q4, ls⟩ := u
                have a4 := adv_lensGo _ _ _ _ _ (adv_codeOf h3).2 h4
                rw [h4] at hv
                have := late n m cc q3 q4 ls v hv
                show L' < v.1
                omega
      · rw [h]
        refine .inr ⟨rfl, fun v hv => ?_⟩
        cases h2 : howManyN N L q1 5 1 30 with
        | error e => rw [h2] at hv; cases hv
        | ok u =>
          obtain ⟨m, q2⟩ := u
          have b1 := hl _ h2
          simp only at b1
          rw [h2] at hv
          simp only [] at hv
          cases h3 : codeOfLengthsN N L q2 with
          | error e => rw [h3] at hv; cases hv
          | ok u =>
            obtain ⟨q3, cc⟩ := u
            have a3 := adv_codeOf h3
            rw [h3] at hv
            simp only [] at hv
            cases h4 : lensN N L cc (n + m) q3 with
            | error e => rw [h4] at hv; cases hv
            | ok u =>
              obtain ⟨q4, ls⟩ := u
              have a4 := adv_lensGo _ _ _ _ _ a3.2 h4
              rw [h4] at hv
              have := late n m cc q3 q4 ls v hv
              show L' < v.1
              omega
  · rw [h]
    refine .inr ⟨rfl, fun v hv => ?_⟩
    cases h1 : howManyN N L p 5 257 286 with
    | error e => rw [h1] at hv; cases hv
    | ok u =>
      obtain ⟨n, q1⟩ := u
      have b1 := hl _ h1
      simp only at b1
      rw [h1] at hv
      simp only [] at hv
      cases h2 : howManyN N L q1 5 1 30 with
      | error e => rw [h2] at hv; cases hv
      | ok u =>
        obtain ⟨m, q2⟩ := u
        have a2 := adv_howMany h2
        rw [h2] at hv
        simp only [] at hv
        cases h3 : codeOfLengthsN N L q2 with
        | error e => rw [h3] at hv; cases hv
        | ok u =>
          obtain ⟨q3, cc⟩ := u
          have a3 := adv_codeOf h3
          rw [h3] at hv
          simp only [] at hv
          cases h4 : lensN N L cc (n + m) q3 with
          | error e => rw [h4] at hv; cases hv
          | ok u =>
            obtain ⟨q4, ls⟩ := u
            have a4 := adv_lensGo _ _ _ _ _ a3.2 h4
            rw [h4] at hv
            have := late n m cc q3 q4 ls v hv
            show L' < v.1
            omega
theorem cut_block (bs : List Int) (k : Nat) (hk : k ≤ bs.length) (hk8 : L' = 8 * k) (hL8 : L = 8 * bs.length) (most kind p : Nat) (made : List Int) (hp : p ≤ L') : Cut (·.1) L' (blockN (bs.take k) N' L' most kind p made) (blockN bs N L most kind p made) := by
  unfold blockN
  split
  · exact cut_stored hL H bs k hk hk8 most p made
  · split
    · exact cut_signs hL H most (adv_fixedSign _ _) (adv_fixedDist _ _) (adv_fixedSign _ _) (adv_fixedDist _ _) (cut_fixed hL H) (cut_fixedDist hL H) p made hp
    · split
      · rcases cut_own hL H p with h | ⟨h, hl⟩
        · have h' := h
          rw [h]
          cases ho : ownCodesN N L p with
          | error e => exact .inl rfl
          | ok v =>
            obtain ⟨q, c, d⟩ := v
            rw [ho] at h'
            exact cut_signs hL H most (adv_sign _ _ _) (adv_sign _ _ _) (adv_sign _ _ _) (adv_sign _ _ _) (cut_sign hL H c) (cut_sign hL H d) q made (adv_own h').2
        · rw [h]
          refine .inr ⟨rfl, fun v hv => ?_⟩
          cases ho : ownCodesN N L p with
          | error e => rw [ho] at hv; cases hv
          | ok u =>
            obtain ⟨q, c, d⟩ := u
            have b1 := hl _ ho
            simp only at b1
            rw [ho] at hv
            obtain ⟨r, m⟩ := v
            have := signsN_ok (adv_sign _ _ _) (adv_sign _ _ _) (L - q) q made r m (adv_own ho).2 (Nat.le_refl _) hv
            show L' < r
            omega
      · exact .inl rfl
end
end Plain
end Go.Proofs.YtglgchjkonjpiaaGreatDoor
/-! Bytes cut off, and less room: the whole of Raw. -/
namespace Go.Proofs.YtglgchjkonjpiaaGreatDoor
set_option linter.unusedVariables false
namespace Plain
section
variable {N' N : Nat} (bs : List Int) (k : Nat) (hk : k ≤ bs.length) (H : ∀ p n, p + n ≤ 8 * k → N' / 2 ^ p % 2 ^ n = N / 2 ^ p % 2 ^ n)
include hk H
theorem cut_stepR (most p : Nat) (made : List Int) : Cut (·.2.1) (8 * k) (stepR (bs.take k) N' (8 * k) most p made) (stepR bs N (8 * bs.length) most p made) := by
  have hL : 8 * k ≤ 8 * bs.length := by omega
  unfold stepR
  rcases cut_num hL H p 1 with h | ⟨h, hl⟩
  · have h' := h
    rw [h]
    cases h1 : num N (8 * bs.length) p 1 with
    | error e => exact .inl rfl
    | ok v =>
      obtain ⟨last, q⟩ := v
      simp only []
      rcases cut_num hL H q 2 with h | ⟨h, hl⟩
      · have h'' := h
        rw [h]
        cases h2 : num N (8 * bs.length) q 2 with
        | error e => exact .inl rfl
        | ok v =>
          obtain ⟨kind, r⟩ := v
          rw [h2] at h''
          have hr := (num_ok h'').2.2
          simp only []
          rcases cut_block hL H bs k hk rfl rfl most kind r made hr with h | ⟨h, hl⟩
          · rw [h]; exact .inl rfl
          · rw [h]
            refine .inr ⟨rfl, fun v hv => ?_⟩
            cases h3 : blockN bs N (8 * bs.length) most kind r made with
            | error e => rw [h3] at hv; cases hv
            | ok u =>
              obtain ⟨s, m⟩ := u
              have b1 := hl _ h3
              rw [h3] at hv
              injection hv with hv; subst hv
              exact b1
      · rw [h]
        refine .inr ⟨rfl, fun v hv => ?_⟩
        cases h2 : num N (8 * bs.length) q 2 with
        | error e => rw [h2] at hv; cases hv
        | ok u =>
          obtain ⟨kind, r⟩ := u
          have b1 := hl _ h2
          simp only at b1
          have a2 := num_ok h2
          rw [h2] at hv
          simp only [] at hv
          cases h3 : blockN bs N (8 * bs.length) most kind r made with
          | error e => rw [h3] at hv; cases hv
          | ok u =>
            obtain ⟨s, m⟩ := u
            have a3 := adv_block a2.2.2 h3
            rw [h3] at hv
            injection hv with hv; subst hv
            show 8 * k < s
            omega
  · rw [h]
    refine .inr ⟨rfl, fun v hv => ?_⟩
    cases h1 : num N (8 * bs.length) p 1 with
    | error e => rw [h1] at hv; cases hv
    | ok u =>
      obtain ⟨last, q⟩ := u
      have b1 := hl _ h1
      simp only at b1
      rw [h1] at hv
      simp only [] at hv
      cases h2 : num N (8 * bs.length) q 2 with
      | error e => rw [h2] at hv; cases hv
      | ok u =>
        obtain ⟨kind, r⟩ := u
        have a2 := num_ok h2
        rw [h2] at hv
        simp only [] at hv
        cases h3 : blockN bs N (8 * bs.length) most kind r made with
        | error e => rw [h3] at hv; cases hv
        | ok u =>
          obtain ⟨s, m⟩ := u
          have a3 := adv_block a2.2.2 h3
          rw [h3] at hv
          injection hv with hv; subst hv
          show 8 * k < s
          omega
theorem cut_rawGo (most : Nat) : ∀ (f p : Nat) (made : List Int), Cut (·.1) (8 * k) (rawGo (bs.take k) N' (8 * k) most f p made) (rawGo bs N (8 * bs.length) most f p made)
  | 0, p, made => .inl rfl
  | f + 1, p, made => by
    rw [rawGo_step, rawGo_step]
    rcases cut_stepR bs k hk H most p made with h | ⟨h, hl⟩
    · rw [h]
      cases hs : stepR bs N (8 * bs.length) most p made with
      | error e => exact .inl rfl
      | ok v =>
        obtain ⟨l, q, m⟩ := v
        by_cases h0 : l = 0
        · simp only [contR, if_pos h0]
          exact cut_rawGo most f q m
        · simp only [contR, if_neg h0]
          exact .inl rfl
    · rw [h]
      refine .inr ⟨rfl, fun v hv => ?_⟩
      cases hs : stepR bs N (8 * bs.length) most p made with
      | error e => rw [hs] at hv; cases hv
      | ok u =>
        obtain ⟨l, q, m⟩ := u
        have b1 := hl _ hs
        simp only at b1
        rw [hs] at hv
        obtain ⟨r, m2⟩ := v
        show 8 * k < r
        by_cases h0 : l = 0
        · simp only [contR, if_pos h0] at hv
          have := rawGo_last f q m r m2 hv
          omega
        · simp only [contR, if_neg h0] at hv
          injection hv with hv; injection hv with hv _; omega
end
theorem stream_take (bs : List Int) (hb : ∀ x ∈ bs, 0 ≤ x ∧ x ≤ 255) (k : Nat) (hk : k ≤ bs.length) (p n : Nat) (h : p + n ≤ 8 * k) : streamN (bs.take k) / 2 ^ p % 2 ^ n = streamN bs / 2 ^ p % 2 ^ n := by
  have hs := (stream_append (bs.take k) (bs.drop k) (fun x hx => hb x (List.mem_of_mem_take hx))).1
  rw [List.take_append_drop, List.length_take, Nat.min_eq_left hk, show (256 : Nat) = 2 ^ 8 from rfl, ← Nat.pow_mul] at hs
  obtain ⟨j, hj⟩ : ∃ j, 8 * k = (p + n) + j := ⟨8 * k - (p + n), by omega⟩
  rw [hs, hj, ← Nat.mod_mul_right_div_self (streamN (bs.take k)), ← Nat.mod_mul_right_div_self, ← Nat.pow_add, Nat.pow_add 2 (p + n) j, Nat.mul_assoc, Nat.add_mul_mod_self_left]
theorem cut_rawOf (bs : List Int) (hb : ∀ x ∈ bs, 0 ≤ x ∧ x ≤ 255) (k : Nat) (hk : k ≤ bs.length) (most : Nat) : Cut (·.1) (8 * k) (rawOf (bs.take k) most) (rawOf bs most) := by
  have hlen : (bs.take k).length = k := by rw [List.length_take]; omega
  have h1 := cut_rawGo bs k hk (stream_take bs hb k hk) most (8 * bs.length + 1) 0 []
  unfold rawOf
  rw [rawGo_same (8 * (bs.take k).length + 1) (8 * bs.length + 1) 0 [] (by omega) (by omega) (by omega), hlen]
  exact h1
/-! ### Room -/
/-- With other room: the same, or too much. -/
def Room {α : Type} (len : α → Nat) (most lo : Nat) (s l : Except Nat α) : Prop := ∀ v, l = .ok v → lo ≤ len v ∧ (len v ≤ most → s = .ok v) ∧ (most < len v → s = .error 2)
section
variable {M most : Nat}
theorem room_give (made : List Int) (x : Int) (h : made.length ≤ most) : Room List.length most made.length (giveN most made x) (giveN M made x) := by
  intro v hv
  unfold giveN at hv ⊢
  split at hv
  · cases hv
  · injection hv with hv; subst hv
    simp only [List.length_append, List.length_singleton]
    refine ⟨by omega, fun h1 => by rw [if_neg (by omega)], fun h1 => by rw [if_pos (by omega)]⟩
theorem room_againGo : ∀ (most d k : Nat) (made : List Int), made.length ≤ most → Room List.length most made.length (againGo most d k made) (againGo M d k made)
  | most, d, 0, made, h => by
    intro v hv
    rw [againGo] at hv ⊢
    injection hv with hv; subst hv
    exact ⟨Nat.le_refl _, fun _ => rfl, fun h1 => by omega⟩
  | most, d, k + 1, made, h => by
    intro v hv
    rw [againGo] at hv ⊢
    cases hg : giveN M made (made[made.length - d]?.getD 0) with
    | error e => rw [hg] at hv; cases hv
    | ok m =>
      have g := room_give (M := M) made _ h m hg
      rw [hg] at hv
      simp only [] at hv
      by_cases hm : m.length ≤ most
      · have ih := room_againGo most d k m hm v hv
        rw [g.2.1 hm]
        exact ⟨Nat.le_trans g.1 ih.1, ih.2⟩
      · rw [g.2.2 (by omega)]
        have ih : m.length ≤ v.length := (room_againGo m.length d k m (Nat.le_refl _) v hv).1
        exact ⟨by omega, fun h1 => by omega, fun _ => rfl⟩
theorem room_again (len d : Nat) (made : List Int) (h : made.length ≤ most) : Room List.length most made.length (againN most made len d) (againN M made len d) := by
  intro v hv
  unfold againN at hv ⊢
  split at hv
  · cases hv
  · rename_i hc
    rw [if_neg hc]
    exact room_againGo most d len made h v hv
theorem room_step {N L : Nat} {nx fr : Nat → Except Nat (Nat × Nat)} (p : Nat) (made : List Int) (h : made.length ≤ most) : Room (fun v => v.2.2.length) most made.length (stepN N L most nx fr p made) (stepN N L M nx fr p made) := by
  intro v hv
  unfold stepN at hv ⊢
  cases hnx : nx p with
  | error e => rw [hnx] at hv; cases hv
  | ok u =>
    obtain ⟨s, q⟩ := u
    rw [hnx] at hv
    simp only [] at hv ⊢
    split at hv
    · rename_i hc
      rw [if_pos hc]
      cases hg : giveN M made (s : Int) with
      | error e => rw [hg] at hv; cases hv
      | ok m =>
        have g := room_give (M := M) made _ h m hg
        rw [hg] at hv
        injection hv with hv; subst hv
        exact ⟨g.1, fun h1 => by rw [g.2.1 h1], fun h1 => by rw [g.2.2 h1]⟩
    · rename_i hc
      rw [if_neg hc]
      split at hv
      · rename_i hc
        rw [if_pos hc]
        injection hv with hv; subst hv
        exact ⟨Nat.le_refl _, fun _ => rfl, fun h1 => by simp only at h1; omega⟩
      · rename_i hc
        rw [if_neg hc]
        split at hv
        · cases hv
        · rename_i hc
          rw [if_neg hc]
          cases hle : lengthN N L q s with
          | error e => rw [hle] at hv; cases hv
          | ok u =>
            obtain ⟨len, r⟩ := u
            rw [hle] at hv
            simp only [] at hv ⊢
            cases hfr : fr r with
            | error e => rw [hfr] at hv; cases hv
            | ok u =>
              obtain ⟨t, u⟩ := u
              rw [hfr] at hv
              simp only [] at hv ⊢
              cases hd : distN N L u t with
              | error e => rw [hd] at hv; cases hv
              | ok u =>
                obtain ⟨d, z⟩ := u
                rw [hd] at hv
                simp only [] at hv ⊢
                cases ha : againN M made len d with
                | error e => rw [ha] at hv; cases hv
                | ok m =>
                  have g := room_again (M := M) len d made h m ha
                  rw [ha] at hv
                  injection hv with hv; subst hv
                  exact ⟨g.1, fun h1 => by rw [g.2.1 h1], fun h1 => by rw [g.2.2 h1]⟩
theorem room_signsGo {N L : Nat} {nx fr : Nat → Except Nat (Nat × Nat)} : ∀ (most f p : Nat) (made : List Int), made.length ≤ most → Room (fun v => v.2.length) most made.length (signsGo N L most nx fr f p made) (signsGo N L M nx fr f p made)
  | most, 0, p, made, h => by intro v hv; rw [signsGo] at hv; cases hv
  | most, f + 1, p, made, h => by
    intro v hv
    rw [signsGo_step] at hv ⊢
    cases hs : stepN N L M nx fr p made with
    | error e => rw [hs] at hv; cases hv
    | ok u =>
      obtain ⟨b, q, m⟩ := u
      have g := room_step (M := M) p made h _ hs
      simp only at g
      rw [hs] at hv
      cases b with
      | false =>
        injection hv with hv; subst hv
        exact ⟨g.1, fun h1 => by rw [g.2.1 h1]; rfl, fun h1 => by rw [g.2.2 h1]; rfl⟩
      | true =>
        by_cases hm : m.length ≤ most
        · have ih := room_signsGo most f q m hm v hv
          rw [g.2.1 hm]
          exact ⟨Nat.le_trans g.1 ih.1, ih.2⟩
        · have ih := room_signsGo m.length f q m (Nat.le_refl _) v hv
          have := ih.1
          rw [g.2.2 (by omega)]
          exact ⟨by omega, fun h1 => by omega, fun _ => rfl⟩
theorem room_stored (bs : List Int) {N L : Nat} (p : Nat) (made : List Int) (h : made.length ≤ most) : Room (fun v => v.2.length) most made.length (storedN bs N L most p made) (storedN bs N L M p made) := by
  intro v hv
  unfold storedN at hv ⊢
  cases h1 : num N L (8 * ((p + 7) / 8)) 16 with
  | error e => rw [h1] at hv; cases hv
  | ok u =>
    obtain ⟨n, q⟩ := u
    rw [h1] at hv
    simp only [] at hv ⊢
    cases h2 : num N L q 16 with
    | error e => rw [h2] at hv; cases hv
    | ok u =>
      obtain ⟨m, r⟩ := u
      rw [h2] at hv
      simp only [] at hv ⊢
      split at hv
      · cases hv
      · rename_i hc
        rw [if_neg hc]
        split at hv
        · cases hv
        · split at hv
          · cases hv
          · rename_i hr
            injection hv with hv; subst hv
            have hl : (made ++ (bs.drop (r / 8)).take n).length = made.length + n := by
              rw [List.length_append, List.length_take, List.length_drop]; omega
            simp only [hl]
            refine ⟨by omega, fun h1 => ?_, fun h1 => ?_⟩
            · rw [if_neg (by omega), if_neg hr]
            · rw [if_pos (by omega)]
theorem room_block (bs : List Int) {N L : Nat} (kind p : Nat) (made : List Int) (h : made.length ≤ most) : Room (fun v => v.2.length) most made.length (blockN bs N L most kind p made) (blockN bs N L M kind p made) := by
  unfold blockN
  split
  · exact room_stored bs p made h
  · split
    · exact room_signsGo most _ p made h
    · split
      · cases ownCodesN N L p with
        | error e => intro v hv; cases hv
        | ok u => exact room_signsGo most _ _ made h
      · intro v hv; cases hv
theorem room_stepR (bs : List Int) {N L : Nat} (p : Nat) (made : List Int) (h : made.length ≤ most) : Room (fun v => v.2.2.length) most made.length (stepR bs N L most p made) (stepR bs N L M p made) := by
  intro v hv
  unfold stepR at hv ⊢
  cases h1 : num N L p 1 with
  | error e => rw [h1] at hv; cases hv
  | ok u =>
    obtain ⟨last, q⟩ := u
    rw [h1] at hv
    simp only [] at hv ⊢
    cases h2 : num N L q 2 with
    | error e => rw [h2] at hv; cases hv
    | ok u =>
      obtain ⟨kind, r⟩ := u
      rw [h2] at hv
      simp only [] at hv ⊢
      cases h3 : blockN bs N L M kind r made with
      | error e => rw [h3] at hv; cases hv
      | ok u =>
        obtain ⟨s, m⟩ := u
        have g := room_block (M := M) bs kind r made h _ h3
        rw [h3] at hv
        injection hv with hv; subst hv
        exact ⟨g.1, fun h1 => by rw [g.2.1 h1], fun h1 => by rw [g.2.2 h1]⟩
theorem room_rawGo (bs : List Int) {N L : Nat} : ∀ (most f p : Nat) (made : List Int), made.length ≤ most → Room (fun v => v.2.length) most made.length (rawGo bs N L most f p made) (rawGo bs N L M f p made)
  | most, 0, p, made, h => by intro v hv; rw [rawGo] at hv; cases hv
  | most, f + 1, p, made, h => by
    intro v hv
    rw [rawGo_step] at hv ⊢
    cases hs : stepR bs N L M p made with
    | error e => rw [hs] at hv; cases hv
    | ok u =>
      obtain ⟨l, q, m⟩ := u
      have g := room_stepR (M := M) bs p made h _ hs
      simp only at g
      rw [hs] at hv
      by_cases h0 : l = 0
      · simp only [contR, if_pos h0] at hv
        by_cases hm : m.length ≤ most
        · have ih := room_rawGo bs most f q m hm v hv
          rw [g.2.1 hm]
          simp only [contR, if_pos h0]
          exact ⟨Nat.le_trans g.1 ih.1, ih.2⟩
        · have ih := room_rawGo bs m.length f q m (Nat.le_refl _) v hv
          have := ih.1
          rw [g.2.2 (by omega)]
          exact ⟨by omega, fun h1 => by omega, fun _ => rfl⟩
      · simp only [contR, if_neg h0] at hv
        injection hv with hv; subst hv
        exact ⟨g.1, fun h1 => by rw [g.2.1 h1]; simp only [contR, if_neg h0], fun h1 => by rw [g.2.2 h1]; rfl⟩
end
/-! ### The three facts -/
theorem more_same {b more : List Int} {M q : Nat} {m : List Int} (hb : ∀ x ∈ b, 0 ≤ x ∧ x ≤ 255) (hmore : ∀ x ∈ more, 0 ≤ x ∧ x ≤ 255) (h : rawOf b M = .ok (q, m)) : rawOf (b.take ((q + 7) / 8) ++ more) m.length = .ok (q, m) := by
  have hq := rawGo_last _ _ _ _ _ h
  have hr : rawOf b m.length = .ok (q, m) := (room_rawGo b m.length _ 0 [] (Nat.zero_le _) _ h).2.1 (Nat.le_refl _)
  have hn : (q + 7) / 8 ≤ b.length := by omega
  have h1 : rawOf (b.take ((q + 7) / 8)) m.length = .ok (q, m) := by
    rcases cut_rawOf b hb ((q + 7) / 8) hn m.length with e | ⟨-, e⟩
    · rw [e]; exact hr
    · have := e _ hr
      simp only at this
      omega
  have hl : (b.take ((q + 7) / 8)).length = (q + 7) / 8 := by rw [List.length_take]; omega
  have ht : (b.take ((q + 7) / 8) ++ more).take ((q + 7) / 8) = b.take ((q + 7) / 8) := by
    rw [List.take_append_of_le_length (by omega), List.take_take, Nat.min_self]
  rcases cut_rawOf (b.take ((q + 7) / 8) ++ more) (fun x hx => (List.mem_append.1 hx).elim (fun h => hb x (List.mem_of_mem_take h)) (hmore x)) ((q + 7) / 8) (by rw [List.length_append]; omega) m.length with e | ⟨e, -⟩
  · rw [ht, h1] at e; exact e.symm
  · rw [ht, h1] at e; cases e
theorem cut_ends {b : List Int} {M q : Nat} {m : List Int} (hb : ∀ x ∈ b, 0 ≤ x ∧ x ≤ 255) (h : rawOf b M = .ok (q, m)) {k : Nat} (hk : k < (q + 7) / 8) : rawOf (b.take k) M = .error 3 := by
  have hq := rawGo_last _ _ _ _ _ h
  have hl : (b.take k).length = k := by rw [List.length_take]; omega
  rcases cut_rawOf b hb k (by omega) M with e | ⟨e, -⟩
  · rw [h] at e
    have := rawGo_last _ _ _ _ _ e
    omega
  · exact e
theorem less_room {b : List Int} {M q : Nat} {m : List Int} (h : rawOf b M = .ok (q, m)) {k : Nat} : (k < m.length → rawOf b k = .error 2) ∧ (m.length ≤ k → rawOf b k = .ok (q, m)) := by
  have g := room_rawGo b k _ 0 [] (Nat.zero_le _) _ h
  exact ⟨g.2.2, g.2.1⟩
end Plain
end Go.Proofs.YtglgchjkonjpiaaGreatDoor
