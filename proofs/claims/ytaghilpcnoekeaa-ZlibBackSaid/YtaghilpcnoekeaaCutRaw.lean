/- Bytes cut off, and less room: the whole of Raw. -/
import Derived.Test.YtaghilpcnoekeaaCut
namespace Go.Proofs.Ytaghilpcnoekeaa
set_option linter.unusedVariables false
namespace Plain
section
variable {N' N : Nat} (bs : List Int) (k : Nat) (hk : k ≤ bs.length) (H : ∀ p n, p + n ≤ 8 * k → N' / 2 ^ p % 2 ^ n = N / 2 ^ p % 2 ^ n)
include hk H
theorem cut_stepR (most p : Nat) (made : List Int) : Cut (·.2.1) (8 * k) (stepR (bs.take k) N' (8 * k) most p made) (stepR bs N (8 * bs.length) most p made) := by
  have hL : 8 * k ≤ 8 * bs.length := by omega
  unfold stepR
  rcases cut_num hL H p 1 with h | ⟨h, hl⟩
  · have h' := h
    rw [h]
    cases h1 : num N (8 * bs.length) p 1 with
    | error e => exact .inl rfl
    | ok v =>
      obtain ⟨last, q⟩ := v
      simp only []
      rcases cut_num hL H q 2 with h | ⟨h, hl⟩
      · have h'' := h
        rw [h]
        cases h2 : num N (8 * bs.length) q 2 with
        | error e => exact .inl rfl
        | ok v =>
          obtain ⟨kind, r⟩ := v
          rw [h2] at h''
          have hr := (num_ok h'').2.2
          simp only []
          rcases cut_block hL H bs k hk rfl rfl most kind r made hr with h | ⟨h, hl⟩
          · rw [h]; exact .inl rfl
          · rw [h]
            refine .inr ⟨rfl, fun v hv => ?_⟩
            cases h3 : blockN bs N (8 * bs.length) most kind r made with
            | error e => rw [h3] at hv; cases hv
            | ok u =>
              obtain ⟨s, m⟩ := u
              have b1 := hl _ h3
              rw [h3] at hv
              injection hv with hv; subst hv
              exact b1
      · rw [h]
        refine .inr ⟨rfl, fun v hv => ?_⟩
        cases h2 : num N (8 * bs.length) q 2 with
        | error e => rw [h2] at hv; cases hv
        | ok u =>
          obtain ⟨kind, r⟩ := u
          have b1 := hl _ h2
          simp only at b1
          have a2 := num_ok h2
          rw [h2] at hv
          simp only [] at hv
          cases h3 : blockN bs N (8 * bs.length) most kind r made with
          | error e => rw [h3] at hv; cases hv
          | ok u =>
            obtain ⟨s, m⟩ := u
            have a3 := adv_block a2.2.2 h3
            rw [h3] at hv
            injection hv with hv; subst hv
            show 8 * k < s
            omega
  · rw [h]
    refine .inr ⟨rfl, fun v hv => ?_⟩
    cases h1 : num N (8 * bs.length) p 1 with
    | error e => rw [h1] at hv; cases hv
    | ok u =>
      obtain ⟨last, q⟩ := u
      have b1 := hl _ h1
      simp only at b1
      rw [h1] at hv
      simp only [] at hv
      cases h2 : num N (8 * bs.length) q 2 with
      | error e => rw [h2] at hv; cases hv
      | ok u =>
        obtain ⟨kind, r⟩ := u
        have a2 := num_ok h2
        rw [h2] at hv
        simp only [] at hv
        cases h3 : blockN bs N (8 * bs.length) most kind r made with
        | error e => rw [h3] at hv; cases hv
        | ok u =>
          obtain ⟨s, m⟩ := u
          have a3 := adv_block a2.2.2 h3
          rw [h3] at hv
          injection hv with hv; subst hv
          show 8 * k < s
          omega
theorem cut_rawGo (most : Nat) : ∀ (f p : Nat) (made : List Int), Cut (·.1) (8 * k) (rawGo (bs.take k) N' (8 * k) most f p made) (rawGo bs N (8 * bs.length) most f p made)
  | 0, p, made => .inl rfl
  | f + 1, p, made => by
    rw [rawGo_step, rawGo_step]
    rcases cut_stepR bs k hk H most p made with h | ⟨h, hl⟩
    · rw [h]
      cases hs : stepR bs N (8 * bs.length) most p made with
      | error e => exact .inl rfl
      | ok v =>
        obtain ⟨l, q, m⟩ := v
        by_cases h0 : l = 0
        · simp only [contR, if_pos h0]
          exact cut_rawGo most f q m
        · simp only [contR, if_neg h0]
          exact .inl rfl
    · rw [h]
      refine .inr ⟨rfl, fun v hv => ?_⟩
      cases hs : stepR bs N (8 * bs.length) most p made with
      | error e => rw [hs] at hv; cases hv
      | ok u =>
        obtain ⟨l, q, m⟩ := u
        have b1 := hl _ hs
        simp only at b1
        rw [hs] at hv
        obtain ⟨r, m2⟩ := v
        show 8 * k < r
        by_cases h0 : l = 0
        · simp only [contR, if_pos h0] at hv
          have := rawGo_last f q m r m2 hv
          omega
        · simp only [contR, if_neg h0] at hv
          injection hv with hv; injection hv with hv _; omega
end
theorem stream_take (bs : List Int) (hb : ∀ x ∈ bs, 0 ≤ x ∧ x ≤ 255) (k : Nat) (hk : k ≤ bs.length) (p n : Nat) (h : p + n ≤ 8 * k) : streamN (bs.take k) / 2 ^ p % 2 ^ n = streamN bs / 2 ^ p % 2 ^ n := by
  have hs := (stream_append (bs.take k) (bs.drop k) (fun x hx => hb x (List.mem_of_mem_take hx))).1
  rw [List.take_append_drop, List.length_take, Nat.min_eq_left hk, show (256 : Nat) = 2 ^ 8 from rfl, ← Nat.pow_mul] at hs
  obtain ⟨j, hj⟩ : ∃ j, 8 * k = (p + n) + j := ⟨8 * k - (p + n), by omega⟩
  rw [hs, hj, ← Nat.mod_mul_right_div_self (streamN (bs.take k)), ← Nat.mod_mul_right_div_self, ← Nat.pow_add, Nat.pow_add 2 (p + n) j, Nat.mul_assoc, Nat.add_mul_mod_self_left]
theorem cut_rawOf (bs : List Int) (hb : ∀ x ∈ bs, 0 ≤ x ∧ x ≤ 255) (k : Nat) (hk : k ≤ bs.length) (most : Nat) : Cut (·.1) (8 * k) (rawOf (bs.take k) most) (rawOf bs most) := by
  have hlen : (bs.take k).length = k := by rw [List.length_take]; omega
  have h1 := cut_rawGo bs k hk (stream_take bs hb k hk) most (8 * bs.length + 1) 0 []
  unfold rawOf
  rw [rawGo_same (8 * (bs.take k).length + 1) (8 * bs.length + 1) 0 [] (by omega) (by omega) (by omega), hlen]
  exact h1
/-! ### Room -/
/-- With other room: the same, or too much. -/
def Room {α : Type} (len : α → Nat) (most lo : Nat) (s l : Except Nat α) : Prop := ∀ v, l = .ok v → lo ≤ len v ∧ (len v ≤ most → s = .ok v) ∧ (most < len v → s = .error 2)
section
variable {M most : Nat}
theorem room_give (made : List Int) (x : Int) (h : made.length ≤ most) : Room List.length most made.length (giveN most made x) (giveN M made x) := by
  intro v hv
  unfold giveN at hv ⊢
  split at hv
  · cases hv
  · injection hv with hv; subst hv
    simp only [List.length_append, List.length_singleton]
    refine ⟨by omega, fun h1 => by rw [if_neg (by omega)], fun h1 => by rw [if_pos (by omega)]⟩
theorem room_againGo : ∀ (most d k : Nat) (made : List Int), made.length ≤ most → Room List.length most made.length (againGo most d k made) (againGo M d k made)
  | most, d, 0, made, h => by
    intro v hv
    rw [againGo] at hv ⊢
    injection hv with hv; subst hv
    exact ⟨Nat.le_refl _, fun _ => rfl, fun h1 => by omega⟩
  | most, d, k + 1, made, h => by
    intro v hv
    rw [againGo] at hv ⊢
    cases hg : giveN M made (made[made.length - d]?.getD 0) with
    | error e => rw [hg] at hv; cases hv
    | ok m =>
      have g := room_give (M := M) made _ h m hg
      rw [hg] at hv
      simp only [] at hv
      by_cases hm : m.length ≤ most
      · have ih := room_againGo most d k m hm v hv
        rw [g.2.1 hm]
        exact ⟨Nat.le_trans g.1 ih.1, ih.2⟩
      · rw [g.2.2 (by omega)]
        have ih : m.length ≤ v.length := (room_againGo m.length d k m (Nat.le_refl _) v hv).1
        exact ⟨by omega, fun h1 => by omega, fun _ => rfl⟩
theorem room_again (len d : Nat) (made : List Int) (h : made.length ≤ most) : Room List.length most made.length (againN most made len d) (againN M made len d) := by
  intro v hv
  unfold againN at hv ⊢
  split at hv
  · cases hv
  · rename_i hc
    rw [if_neg hc]
    exact room_againGo most d len made h v hv
theorem room_step {N L : Nat} {nx fr : Nat → Except Nat (Nat × Nat)} (p : Nat) (made : List Int) (h : made.length ≤ most) : Room (fun v => v.2.2.length) most made.length (stepN N L most nx fr p made) (stepN N L M nx fr p made) := by
  intro v hv
  unfold stepN at hv ⊢
  cases hnx : nx p with
  | error e => rw [hnx] at hv; cases hv
  | ok u =>
    obtain ⟨s, q⟩ := u
    rw [hnx] at hv
    simp only [] at hv ⊢
    split at hv
    · rename_i hc
      rw [if_pos hc]
      cases hg : giveN M made (s : Int) with
      | error e => rw [hg] at hv; cases hv
      | ok m =>
        have g := room_give (M := M) made _ h m hg
        rw [hg] at hv
        injection hv with hv; subst hv
        exact ⟨g.1, fun h1 => by rw [g.2.1 h1], fun h1 => by rw [g.2.2 h1]⟩
    · rename_i hc
      rw [if_neg hc]
      split at hv
      · rename_i hc
        rw [if_pos hc]
        injection hv with hv; subst hv
        exact ⟨Nat.le_refl _, fun _ => rfl, fun h1 => by simp only at h1; omega⟩
      · rename_i hc
        rw [if_neg hc]
        split at hv
        · cases hv
        · rename_i hc
          rw [if_neg hc]
          cases hle : lengthN N L q s with
          | error e => rw [hle] at hv; cases hv
          | ok u =>
            obtain ⟨len, r⟩ := u
            rw [hle] at hv
            simp only [] at hv ⊢
            cases hfr : fr r with
            | error e => rw [hfr] at hv; cases hv
            | ok u =>
              obtain ⟨t, u⟩ := u
              rw [hfr] at hv
              simp only [] at hv ⊢
              cases hd : distN N L u t with
              | error e => rw [hd] at hv; cases hv
              | ok u =>
                obtain ⟨d, z⟩ := u
                rw [hd] at hv
                simp only [] at hv ⊢
                cases ha : againN M made len d with
                | error e => rw [ha] at hv; cases hv
                | ok m =>
                  have g := room_again (M := M) len d made h m ha
                  rw [ha] at hv
                  injection hv with hv; subst hv
                  exact ⟨g.1, fun h1 => by rw [g.2.1 h1], fun h1 => by rw [g.2.2 h1]⟩
theorem room_signsGo {N L : Nat} {nx fr : Nat → Except Nat (Nat × Nat)} : ∀ (most f p : Nat) (made : List Int), made.length ≤ most → Room (fun v => v.2.length) most made.length (signsGo N L most nx fr f p made) (signsGo N L M nx fr f p made)
  | most, 0, p, made, h => by intro v hv; rw [signsGo] at hv; cases hv
  | most, f + 1, p, made, h => by
    intro v hv
    rw [signsGo_step] at hv ⊢
    cases hs : stepN N L M nx fr p made with
    | error e => rw [hs] at hv; cases hv
    | ok u =>
      obtain ⟨b, q, m⟩ := u
      have g := room_step (M := M) p made h _ hs
      simp only at g
      rw [hs] at hv
      cases b with
      | false =>
        injection hv with hv; subst hv
        exact ⟨g.1, fun h1 => by rw [g.2.1 h1]; rfl, fun h1 => by rw [g.2.2 h1]; rfl⟩
      | true =>
        by_cases hm : m.length ≤ most
        · have ih := room_signsGo most f q m hm v hv
          rw [g.2.1 hm]
          exact ⟨Nat.le_trans g.1 ih.1, ih.2⟩
        · have ih := room_signsGo m.length f q m (Nat.le_refl _) v hv
          have := ih.1
          rw [g.2.2 (by omega)]
          exact ⟨by omega, fun h1 => by omega, fun _ => rfl⟩
theorem room_stored (bs : List Int) {N L : Nat} (p : Nat) (made : List Int) (h : made.length ≤ most) : Room (fun v => v.2.length) most made.length (storedN bs N L most p made) (storedN bs N L M p made) := by
  intro v hv
  unfold storedN at hv ⊢
  cases h1 : num N L (8 * ((p + 7) / 8)) 16 with
  | error e => rw [h1] at hv; cases hv
  | ok u =>
    obtain ⟨n, q⟩ := u
    rw [h1] at hv
    simp only [] at hv ⊢
    cases h2 : num N L q 16 with
    | error e => rw [h2] at hv; cases hv
    | ok u =>
      obtain ⟨m, r⟩ := u
      rw [h2] at hv
      simp only [] at hv ⊢
      split at hv
      · cases hv
      · rename_i hc
        rw [if_neg hc]
        split at hv
        · cases hv
        · split at hv
          · cases hv
          · rename_i hr
            injection hv with hv; subst hv
            have hl : (made ++ (bs.drop (r / 8)).take n).length = made.length + n := by
              rw [List.length_append, List.length_take, List.length_drop]; omega
            simp only [hl]
            refine ⟨by omega, fun h1 => ?_, fun h1 => ?_⟩
            · rw [if_neg (by omega), if_neg hr]
            · rw [if_pos (by omega)]
theorem room_block (bs : List Int) {N L : Nat} (kind p : Nat) (made : List Int) (h : made.length ≤ most) : Room (fun v => v.2.length) most made.length (blockN bs N L most kind p made) (blockN bs N L M kind p made) := by
  unfold blockN
  split
  · exact room_stored bs p made h
  · split
    · exact room_signsGo most _ p made h
    · split
      · cases ownCodesN N L p with
        | error e => intro v hv; cases hv
        | ok u => exact room_signsGo most _ _ made h
      · intro v hv; cases hv
theorem room_stepR (bs : List Int) {N L : Nat} (p : Nat) (made : List Int) (h : made.length ≤ most) : Room (fun v => v.2.2.length) most made.length (stepR bs N L most p made) (stepR bs N L M p made) := by
  intro v hv
  unfold stepR at hv ⊢
  cases h1 : num N L p 1 with
  | error e => rw [h1] at hv; cases hv
  | ok u =>
    obtain ⟨last, q⟩ := u
    rw [h1] at hv
    simp only [] at hv ⊢
    cases h2 : num N L q 2 with
    | error e => rw [h2] at hv; cases hv
    | ok u =>
      obtain ⟨kind, r⟩ := u
      rw [h2] at hv
      simp only [] at hv ⊢
      cases h3 : blockN bs N L M kind r made with
      | error e => rw [h3] at hv; cases hv
      | ok u =>
        obtain ⟨s, m⟩ := u
        have g := room_block (M := M) bs kind r made h _ h3
        rw [h3] at hv
        injection hv with hv; subst hv
        exact ⟨g.1, fun h1 => by rw [g.2.1 h1], fun h1 => by rw [g.2.2 h1]⟩
theorem room_rawGo (bs : List Int) {N L : Nat} : ∀ (most f p : Nat) (made : List Int), made.length ≤ most → Room (fun v => v.2.length) most made.length (rawGo bs N L most f p made) (rawGo bs N L M f p made)
  | most, 0, p, made, h => by intro v hv; rw [rawGo] at hv; cases hv
  | most, f + 1, p, made, h => by
    intro v hv
    rw [rawGo_step] at hv ⊢
    cases hs : stepR bs N L M p made with
    | error e => rw [hs] at hv; cases hv
    | ok u =>
      obtain ⟨l, q, m⟩ := u
      have g := room_stepR (M := M) bs p made h _ hs
      simp only at g
      rw [hs] at hv
      by_cases h0 : l = 0
      · simp only [contR, if_pos h0] at hv
        by_cases hm : m.length ≤ most
        · have ih := room_rawGo bs most f q m hm v hv
          rw [g.2.1 hm]
          simp only [contR, if_pos h0]
          exact ⟨Nat.le_trans g.1 ih.1, ih.2⟩
        · have ih := room_rawGo bs m.length f q m (Nat.le_refl _) v hv
          have := ih.1
          rw [g.2.2 (by omega)]
          exact ⟨by omega, fun h1 => by omega, fun _ => rfl⟩
      · simp only [contR, if_neg h0] at hv
        injection hv with hv; subst hv
        exact ⟨g.1, fun h1 => by rw [g.2.1 h1]; simp only [contR, if_neg h0], fun h1 => by rw [g.2.2 h1]; rfl⟩
end
/-! ### The three facts -/
theorem more_same {b more : List Int} {M q : Nat} {m : List Int} (hb : ∀ x ∈ b, 0 ≤ x ∧ x ≤ 255) (hmore : ∀ x ∈ more, 0 ≤ x ∧ x ≤ 255) (h : rawOf b M = .ok (q, m)) : rawOf (b.take ((q + 7) / 8) ++ more) m.length = .ok (q, m) := by
  have hq := rawGo_last _ _ _ _ _ h
  have hr : rawOf b m.length = .ok (q, m) := (room_rawGo b m.length _ 0 [] (Nat.zero_le _) _ h).2.1 (Nat.le_refl _)
  have hn : (q + 7) / 8 ≤ b.length := by omega
  have h1 : rawOf (b.take ((q + 7) / 8)) m.length = .ok (q, m) := by
    rcases cut_rawOf b hb ((q + 7) / 8) hn m.length with e | ⟨-, e⟩
    · rw [e]; exact hr
    · have := e _ hr
      simp only at this
      omega
  have hl : (b.take ((q + 7) / 8)).length = (q + 7) / 8 := by rw [List.length_take]; omega
  have ht : (b.take ((q + 7) / 8) ++ more).take ((q + 7) / 8) = b.take ((q + 7) / 8) := by
    rw [List.take_append_of_le_length (by omega), List.take_take, Nat.min_self]
  rcases cut_rawOf (b.take ((q + 7) / 8) ++ more) (fun x hx => (List.mem_append.1 hx).elim (fun h => hb x (List.mem_of_mem_take h)) (hmore x)) ((q + 7) / 8) (by rw [List.length_append]; omega) m.length with e | ⟨e, -⟩
  · rw [ht, h1] at e; exact e.symm
  · rw [ht, h1] at e; cases e
theorem cut_ends {b : List Int} {M q : Nat} {m : List Int} (hb : ∀ x ∈ b, 0 ≤ x ∧ x ≤ 255) (h : rawOf b M = .ok (q, m)) {k : Nat} (hk : k < (q + 7) / 8) : rawOf (b.take k) M = .error 3 := by
  have hq := rawGo_last _ _ _ _ _ h
  have hl : (b.take k).length = k := by rw [List.length_take]; omega
  rcases cut_rawOf b hb k (by omega) M with e | ⟨e, -⟩
  · rw [h] at e
    have := rawGo_last _ _ _ _ _ e
    omega
  · exact e
theorem less_room {b : List Int} {M q : Nat} {m : List Int} (h : rawOf b M = .ok (q, m)) {k : Nat} : (k < m.length → rawOf b k = .error 2) ∧ (m.length ≤ k → rawOf b k = .ok (q, m)) := by
  have g := room_rawGo b k _ 0 [] (Nat.zero_le _) _ h
  exact ⟨g.2.2, g.2.1⟩
end Plain
end Go.Proofs.Ytaghilpcnoekeaa
