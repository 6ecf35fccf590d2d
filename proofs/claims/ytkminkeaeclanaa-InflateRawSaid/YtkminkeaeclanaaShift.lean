/- Bytes ahead: everything lies farther on, and nothing else turns. -/
import Derived.Test.YtkminkeaeclanaaRawMath
namespace Go.Proofs.Ytkminkeaeclanaa
set_option linter.unusedVariables false
namespace Plain
def sh2 {α : Type} (d : Nat) : Except Nat (α × Nat) → Except Nat (α × Nat)
  | .error e => .error e
  | .ok (x, q) => .ok (x, q + d)
def sh1 {β : Type} (d : Nat) : Except Nat (Nat × β) → Except Nat (Nat × β)
  | .error e => .error e
  | .ok (q, m) => .ok (q + d, m)
def shM {α β : Type} (d : Nat) : Except Nat (α × Nat × β) → Except Nat (α × Nat × β)
  | .error e => .error e
  | .ok (x, q, m) => .ok (x, q + d, m)
def sh3 {α β : Type} (d : Nat) : Except Nat (α × β × Nat) → Except Nat (α × β × Nat)
  | .error e => .error e
  | .ok (x, y, q) => .ok (x, y, q + d)
section
variable {N' N L k : Nat} (H : ∀ p n, num N' (L + 8 * k) (p + 8 * k) n = sh2 (8 * k) (num N L p n))
include H
theorem sh_code (p n : Nat) : codeN N' (L + 8 * k) (p + 8 * k) n = sh2 (8 * k) (codeN N L p n) := by
  unfold codeN
  rw [H]
  cases num N L p n <;> rfl
theorem sh_fixedDist (p : Nat) : fixedDistN N' (L + 8 * k) (p + 8 * k) = sh2 (8 * k) (fixedDistN N L p) := sh_code H p 5
theorem sh_fixed (p : Nat) : fixedSignN N' (L + 8 * k) (p + 8 * k) = sh2 (8 * k) (fixedSignN N L p) := by
  unfold fixedSignN
  rw [sh_code H]
  cases codeN N L p 7 with
  | error e => rfl
  | ok v =>
    obtain ⟨x, q⟩ := v
    simp only [sh2]
    split
    · rfl
    · rw [H]
      cases num N L q 1 with
      | error e => rfl
      | ok v =>
        obtain ⟨b, r⟩ := v
        simp only [sh2]
        split
        · rfl
        · split
          · rfl
          · rw [H]
            cases num N L r 1 <;> rfl
theorem sh_signGo (c : CodeS) : ∀ (f l p x first ahead : Nat), signGo N' (L + 8 * k) c f l (p + 8 * k) x first ahead = sh2 (8 * k) (signGo N L c f l p x first ahead)
  | 0, l, p, x, first, ahead => rfl
  | f + 1, l, p, x, first, ahead => by
    rw [signGo, signGo, H]
    cases num N L p 1 with
    | error e => rfl
    | ok v =>
      obtain ⟨b, q⟩ := v
      simp only [sh2]
      split
      · rfl
      · exact sh_signGo c f _ _ _ _ _
theorem sh_sign (c : CodeS) (p : Nat) : signN N' (L + 8 * k) c (p + 8 * k) = sh2 (8 * k) (signN N L c p) := sh_signGo H c _ _ _ _ _ _
theorem sh_length (p s : Nat) : lengthN N' (L + 8 * k) (p + 8 * k) s = sh2 (8 * k) (lengthN N L p s) := by
  unfold lengthN
  split
  · rfl
  · split
    · rfl
    · rw [H]; cases num N L p ((s - 261) / 4) <;> rfl
theorem sh_dist (p s : Nat) : distN N' (L + 8 * k) (p + 8 * k) s = sh2 (8 * k) (distN N L p s) := by
  unfold distN
  split
  · rfl
  · split
    · rfl
    · rw [H]; cases num N L p ((s - 2) / 2) <;> rfl
theorem sh_step (most : Nat) {nx' fr' nx fr : Nat → Except Nat (Nat × Nat)} (hn : ∀ p, nx' (p + 8 * k) = sh2 (8 * k) (nx p)) (hf : ∀ p, fr' (p + 8 * k) = sh2 (8 * k) (fr p)) (p : Nat) (made : List Int) :
    stepN N' (L + 8 * k) most nx' fr' (p + 8 * k) made = shM (8 * k) (stepN N L most nx fr p made) := by
  unfold stepN
  rw [hn]
  cases nx p with
  | error e => rfl
  | ok v =>
    obtain ⟨s, q⟩ := v
    simp only [sh2]
    split
    · cases giveN most made (s : Int) <;> rfl
    · split
      · rfl
      · split
        · rfl
        · rw [sh_length H]
          cases lengthN N L q s with
          | error e => rfl
          | ok v =>
            obtain ⟨len, r⟩ := v
            simp only [sh2]
            rw [hf]
            cases fr r with
            | error e => rfl
            | ok v =>
              obtain ⟨t, u⟩ := v
              simp only [sh2]
              rw [sh_dist H]
              cases distN N L u t with
              | error e => rfl
              | ok v =>
                obtain ⟨d, z⟩ := v
                simp only [sh2]
                cases againN most made len d <;> rfl
theorem sh_signsGo (most : Nat) {nx' fr' nx fr : Nat → Except Nat (Nat × Nat)} (hn : ∀ p, nx' (p + 8 * k) = sh2 (8 * k) (nx p)) (hf : ∀ p, fr' (p + 8 * k) = sh2 (8 * k) (fr p)) : ∀ (f p : Nat) (made : List Int),
    signsGo N' (L + 8 * k) most nx' fr' f (p + 8 * k) made = sh1 (8 * k) (signsGo N L most nx fr f p made)
  | 0, p, made => rfl
  | f + 1, p, made => by
    rw [signsGo_step, signsGo_step, sh_step H most hn hf]
    cases stepN N L most nx fr p made with
    | error e => rfl
    | ok v =>
      obtain ⟨b, q, m⟩ := v
      cases b with
      | false => rfl
      | true => exact sh_signsGo most hn hf f q m
theorem sh_signs (most : Nat) {nx' fr' nx fr : Nat → Except Nat (Nat × Nat)} (hn : ∀ p, nx' (p + 8 * k) = sh2 (8 * k) (nx p)) (hf : ∀ p, fr' (p + 8 * k) = sh2 (8 * k) (fr p)) (p : Nat) (made : List Int) :
    signsN N' (L + 8 * k) most nx' fr' (p + 8 * k) made = sh1 (8 * k) (signsN N L most nx fr p made) := by
  unfold signsN
  rw [show L + 8 * k + 1 - (p + 8 * k) = L + 1 - p by omega]
  exact sh_signsGo H most hn hf _ _ _
theorem sh_howMany (p n least most : Nat) : howManyN N' (L + 8 * k) (p + 8 * k) n least most = sh2 (8 * k) (howManyN N L p n least most) := by
  unfold howManyN
  rw [H]
  cases num N L p n with
  | error e => rfl
  | ok v =>
    obtain ⟨x, q⟩ := v
    simp only [sh2]
    split <;> rfl
theorem sh_told : ∀ (l : List Nat) (p : Nat) (ls : List Nat), toldGo N' (L + 8 * k) l (p + 8 * k) ls = sh1 (8 * k) (toldGo N L l p ls)
  | [], p, ls => rfl
  | s :: t, p, ls => by
    rw [toldGo, toldGo, H]
    cases num N L p 3 with
    | error e => rfl
    | ok v =>
      obtain ⟨x, q⟩ := v
      simp only [sh2]
      exact sh_told t q _
theorem sh_codeOf (p : Nat) : codeOfLengthsN N' (L + 8 * k) (p + 8 * k) = sh1 (8 * k) (codeOfLengthsN N L p) := by
  unfold codeOfLengthsN
  rw [H]
  cases num N L p 4 with
  | error e => rfl
  | ok v =>
    obtain ⟨x, q⟩ := v
    simp only [sh2]
    rw [sh_told H]
    cases toldGo N L (orderN.take (x + 4)) q (List.replicate 19 0) with
    | error e => rfl
    | ok v =>
      obtain ⟨r, ls⟩ := v
      simp only [sh1]
      split <;> rfl
theorem sh_oneLen (c : CodeS) (p : Nat) (ls : List Nat) : oneLen N' (L + 8 * k) c (p + 8 * k) ls = sh3 (8 * k) (oneLen N L c p ls) := by
  unfold oneLen
  rw [sh_sign H]
  cases signN N L c p with
  | error e => rfl
  | ok v =>
    obtain ⟨s, q⟩ := v
    simp only [sh2]
    split
    · split
      · rfl
      · rw [H]; cases num N L q 2 <;> rfl
    · split
      · rw [H]; cases num N L q 3 <;> rfl
      · split
        · rw [H]; cases num N L q 7 <;> rfl
        · rfl
theorem sh_lensGo (c : CodeS) (n : Nat) : ∀ (f p : Nat) (ls : List Nat), lensGo N' (L + 8 * k) c n f (p + 8 * k) ls = sh1 (8 * k) (lensGo N L c n f p ls)
  | 0, p, ls => rfl
  | f + 1, p, ls => by
    rw [lensGo, lensGo]
    split
    · rfl
    · rw [sh_oneLen H]
      cases oneLen N L c p ls with
      | error e => rfl
      | ok v =>
        obtain ⟨len, times, q⟩ := v
        simp only [sh3]
        split
        · rfl
        · exact sh_lensGo c n f q _
theorem sh_lens (c : CodeS) (n p : Nat) : lensN N' (L + 8 * k) c n (p + 8 * k) = sh1 (8 * k) (lensN N L c n p) := by
  unfold lensN
  rw [show L + 8 * k + 1 - (p + 8 * k) = L + 1 - p by omega]
  exact sh_lensGo H c n _ _ _
theorem sh_own (p : Nat) : ownCodesN N' (L + 8 * k) (p + 8 * k) = sh1 (8 * k) (ownCodesN N L p) := by
  unfold ownCodesN
  rw [sh_howMany H]
  cases howManyN N L p 5 257 286 with
  | error e => rfl
  | ok v =>
    obtain ⟨n, q1⟩ := v
    simp only [sh2]
    rw [sh_howMany H]
    cases howManyN N L q1 5 1 30 with
    | error e => rfl
    | ok v =>
      obtain ⟨m, q2⟩ := v
      simp only [sh2]
      rw [sh_codeOf H]
      cases codeOfLengthsN N L q2 with
      | error e => rfl
      | ok v =>
        obtain ⟨q3, cc⟩ := v
        simp only [sh1]
        rw [sh_lens H]
        cases lensN N L cc (n + m) q3 with
        | error e => rfl
        | ok v =>
          obtain ⟨q4, ls⟩ := v
          simp only [sh1]
          split <;> rfl
theorem sh_stored (c b : List Int) (hc : c.length = k) (most p : Nat) (made : List Int) : storedN (c ++ b) N' (L + 8 * k) most (p + 8 * k) made = sh1 (8 * k) (storedN b N L most p made) := by
  unfold storedN
  rw [show 8 * ((p + 8 * k + 7) / 8) = 8 * ((p + 7) / 8) + 8 * k by omega, H]
  cases num N L (8 * ((p + 7) / 8)) 16 with
  | error e => rfl
  | ok v =>
    obtain ⟨n, q⟩ := v
    simp only [sh2]
    rw [H]
    cases num N L q 16 with
    | error e => rfl
    | ok v =>
      obtain ⟨m, r⟩ := v
      simp only [sh2]
      have e1 : (c ++ b).length - (r + 8 * k) / 8 = b.length - r / 8 := by rw [List.length_append, hc]; omega
      have e2 : (c ++ b).drop ((r + 8 * k) / 8) = b.drop (r / 8) := by
        rw [show (r + 8 * k) / 8 = c.length + r / 8 by rw [hc]; omega, List.drop_append, List.drop_eq_nil_of_le (by omega), List.nil_append, Nat.add_sub_cancel_left]
      rw [e1, e2]
      split
      · rfl
      · split
        · rfl
        · split
          · rfl
          · simp only [sh1]
            rw [show r + 8 * k + 8 * n = r + 8 * n + 8 * k by omega]
theorem sh_block (c b : List Int) (hc : c.length = k) (most kind p : Nat) (made : List Int) : blockN (c ++ b) N' (L + 8 * k) most kind (p + 8 * k) made = sh1 (8 * k) (blockN b N L most kind p made) := by
  unfold blockN
  split
  · exact sh_stored H c b hc most p made
  · split
    · exact sh_signs H most (sh_fixed H) (sh_fixedDist H) p made
    · split
      · rw [sh_own H]
        cases ownCodesN N L p with
        | error e => rfl
        | ok v =>
          obtain ⟨q, cc, dd⟩ := v
          exact sh_signs H most (sh_sign H cc) (sh_sign H dd) q made
      · rfl
theorem sh_stepR (c b : List Int) (hc : c.length = k) (most p : Nat) (made : List Int) : stepR (c ++ b) N' (L + 8 * k) most (p + 8 * k) made = shM (8 * k) (stepR b N L most p made) := by
  unfold stepR
  rw [H]
  cases num N L p 1 with
  | error e => rfl
  | ok v =>
    obtain ⟨last, q⟩ := v
    simp only [sh2]
    rw [H]
    cases num N L q 2 with
    | error e => rfl
    | ok v =>
      obtain ⟨kind, r⟩ := v
      simp only [sh2]
      rw [sh_block H c b hc]
      cases blockN b N L most kind r made <;> rfl
theorem sh_rawGo (c b : List Int) (hc : c.length = k) (most : Nat) : ∀ (f p : Nat) (made : List Int), rawGo (c ++ b) N' (L + 8 * k) most f (p + 8 * k) made = sh1 (8 * k) (rawGo b N L most f p made)
  | 0, p, made => rfl
  | f + 1, p, made => by
    rw [rawGo_step, rawGo_step, sh_stepR H c b hc]
    cases stepR b N L most p made with
    | error e => rfl
    | ok v =>
      obtain ⟨l, q, m⟩ := v
      simp only [shM, contR]
      split
      · exact sh_rawGo c b hc most f q m
      · rfl
end
theorem stream_append : ∀ (c b : List Int), (∀ x ∈ c, 0 ≤ x ∧ x ≤ 255) → streamN (c ++ b) = streamN c + 256 ^ c.length * streamN b ∧ streamN c < 256 ^ c.length
  | [], b, h => by simp [streamN]
  | x :: t, b, h => by
    have hx := h x (by simp)
    obtain ⟨h1, h2⟩ := stream_append t b (fun y hy => h y (by simp [hy]))
    rw [List.cons_append, streamN, streamN, h1, List.length_cons, Nat.pow_succ]
    refine ⟨?_, by omega⟩
    rw [Nat.mul_add, ← Nat.mul_assoc, Nat.mul_comm 256 (256 ^ t.length), Nat.add_assoc]
theorem num_shift (c b : List Int) (hc : ∀ x ∈ c, 0 ≤ x ∧ x ≤ 255) (p n : Nat) : num (streamN (c ++ b)) (8 * b.length + 8 * c.length) (p + 8 * c.length) n = sh2 (8 * c.length) (num (streamN b) (8 * b.length) p n) := by
  obtain ⟨h1, h2⟩ := stream_append c b hc
  have e : streamN (c ++ b) / 2 ^ (p + 8 * c.length) = streamN b / 2 ^ p := by
    rw [Nat.add_comm p, Nat.pow_add, Nat.pow_mul, ← Nat.div_div_eq_div_mul, h1]
    rw [show (2 : Nat) ^ 8 = 256 by rfl, Nat.add_mul_div_left _ _ (Nat.pow_pos (by omega)), Nat.div_eq_of_lt h2, Nat.zero_add]
  unfold num
  by_cases h : p + n ≤ 8 * b.length
  · rw [if_pos (by omega), if_pos h, e]
    simp only [sh2, Except.ok.injEq, Prod.mk.injEq, true_and]; omega
  · rw [if_neg (by omega), if_neg h]; rfl
theorem raw_shift (c b : List Int) (hc : ∀ x ∈ c, 0 ≤ x ∧ x ≤ 255) (most p : Nat) (made : List Int) : rawAt (c ++ b) (streamN (c ++ b)) most (p + 8 * c.length) made = sh1 (8 * c.length) (rawAt b (streamN b) most p made) := by
  unfold rawAt
  rw [show 8 * (c ++ b).length = 8 * b.length + 8 * c.length by rw [List.length_append]; omega, show 8 * b.length + 8 * c.length + 1 - (p + 8 * c.length) = 8 * b.length + 1 - p by omega]
  exact sh_rawGo (num_shift c b hc) c b rfl most _ _ _
theorem num_byte {bs : List Int} (h : ∀ x ∈ bs, 0 ≤ x ∧ x ≤ 255) (i : Nat) (hi : i < bs.length) (n o : Nat) (ho : o + n ≤ 8) : num (streamN bs) (8 * bs.length) (8 * i + o) n = .ok ((bs[i]?.getD 0).toNat / 2 ^ o % 2 ^ n, 8 * i + o + n) := by
  unfold num
  rw [if_pos (by omega), ← stream_at bs h i, show (256 : Nat) = 2 ^ 8 by rfl, bits_div _ _ _ _ (by omega), bits_mod _ _ _ _ (by omega)]
theorem num_two {bs : List Int} (h : ∀ x ∈ bs, 0 ≤ x ∧ x ≤ 255) (i : Nat) (hi : i + 1 < bs.length) : num (streamN bs) (8 * bs.length) (8 * i) 16 = .ok ((bs[i]?.getD 0).toNat + 256 * (bs[i + 1]?.getD 0).toNat, 8 * i + 16) := by
  unfold num
  rw [if_pos (by omega), show (16 : Nat) = 8 + 8 by rfl, bits_split, ← stream_at bs h i, ← stream_at bs h (i + 1), show 8 * (i + 1) = 8 * i + 8 by omega]
def empty5 : List Int := [0, 0, 0, 255, 255]
theorem ahead_one (b : List Int) (hb : ∀ x ∈ b, 0 ≤ x ∧ x ≤ 255) (most : Nat) : rawOf (empty5 ++ b) most = sh1 40 (rawOf b most) := by
  have hx : ∀ x ∈ empty5 ++ b, 0 ≤ x ∧ x ≤ 255 := fun x hx => by
    rcases List.mem_append.1 hx with h | h
    · simp [empty5] at h; omega
    · exact hb x h
  have hlen : (empty5 ++ b).length = 5 + b.length := by rw [List.length_append]; rfl
  have hs : stepR (empty5 ++ b) (streamN (empty5 ++ b)) (8 * (empty5 ++ b).length) most 0 [] = .ok (0, 40, []) := by
    have g0 : (empty5 ++ b)[0]?.getD 0 = 0 := by simp [empty5]
    have g1 : (empty5 ++ b)[1]?.getD 0 = 0 := by simp [empty5]
    have g2 : (empty5 ++ b)[1 + 1]?.getD 0 = 0 := by simp [empty5]
    have g3 : (empty5 ++ b)[3]?.getD 0 = 255 := by simp [empty5]
    have g4 : (empty5 ++ b)[3 + 1]?.getD 0 = 255 := by simp [empty5]
    have k1 : num (streamN (empty5 ++ b)) (8 * (empty5 ++ b).length) 0 1 = .ok (0, 1) := by
      have := num_byte hx 0 (by omega) 1 0 (by omega)
      rw [g0] at this; exact this
    have k2 : num (streamN (empty5 ++ b)) (8 * (empty5 ++ b).length) 1 2 = .ok (0, 3) := by
      have := num_byte hx 0 (by omega) 2 1 (by omega)
      rw [g0] at this; exact this
    have k3 : num (streamN (empty5 ++ b)) (8 * (empty5 ++ b).length) 8 16 = .ok (0, 24) := by
      have := num_two hx 1 (by omega)
      rw [g1, g2] at this; exact this
    have k4 : num (streamN (empty5 ++ b)) (8 * (empty5 ++ b).length) 24 16 = .ok (65535, 40) := by
      have := num_two hx 3 (by omega)
      rw [g3, g4] at this; exact this
    have h2 : blockN (empty5 ++ b) (streamN (empty5 ++ b)) (8 * (empty5 ++ b).length) most 0 3 [] = .ok (40, []) := by
      unfold blockN
      rw [if_pos rfl, storedN, show 8 * ((3 + 7) / 8) = 8 by rfl, k3]
      simp only []
      rw [k4]
      simp only []
      rw [if_neg (by omega), if_neg (by omega), if_neg (by omega)]
      simp
    unfold stepR
    rw [k1]
    simp only []
    rw [k2]
    simp only []
    rw [h2]
  rw [rawOf_at, rawAt_step (Nat.zero_le _), hs]
  show rawAt (empty5 ++ b) (streamN (empty5 ++ b)) most (0 + 8 * empty5.length) [] = _
  rw [raw_shift empty5 b (by decide)]; rfl
def emptyN : Nat → List Int
  | 0 => []
  | t + 1 => emptyN t ++ empty5
theorem emptyN_len : ∀ t, (emptyN t).length = 5 * t
  | 0 => rfl
  | t + 1 => by rw [emptyN, List.length_append, emptyN_len t]; show 5 * t + 5 = _; omega
theorem emptyN_range : ∀ t, ∀ x ∈ emptyN t, 0 ≤ x ∧ x ≤ 255
  | 0, x, h => by simp [emptyN] at h
  | t + 1, x, h => by
    rcases List.mem_append.1 h with h | h
    · exact emptyN_range t x h
    · simp [empty5] at h; omega
theorem ahead_many : ∀ (t : Nat) (b : List Int), (∀ x ∈ b, 0 ≤ x ∧ x ≤ 255) → ∀ most, rawOf (emptyN t ++ b) most = sh1 (40 * t) (rawOf b most)
  | 0, b, hb, most => by
    show rawOf b most = _
    cases rawOf b most <;> rfl
  | t + 1, b, hb, most => by
    rw [emptyN, List.append_assoc, ahead_many t (empty5 ++ b) (fun x hx => by
      rcases List.mem_append.1 hx with h | h
      · simp [empty5] at h; omega
      · exact hb x h), ahead_one b hb]
    cases rawOf b most with
    | error e => rfl
    | ok v => obtain ⟨q, m⟩ := v; simp only [sh1, Except.ok.injEq, Prod.mk.injEq, and_true]; omega
end Plain
end Go.Proofs.Ytkminkeaeclanaa
