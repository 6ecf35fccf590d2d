/- What a base becomes by hunks, from behind. -/
import Derived.Test.YtbkifjmfmiipnaaEndsMath
namespace Go.Proofs.Ytbkifjmfmiipnaa
open Go.RowKit Plain
set_option linter.unusedVariables false
namespace Plain
def stepB (h : Hk) (out : List Int) : List Int := out.take h.fr ++ h.ys ++ out.drop h.to
def behind (base : List Int) (l : List Hk) : List Int := l.foldr stepB base
/-- Hunks in their order, from 'p' on, up to 'q'. -/
def Chain (n : Nat) : Nat → List Hk → Nat → Prop
  | p, [], q => p = q ∧ p ≤ n
  | p, h :: t, q => p ≤ h.fr ∧ h.fr ≤ h.to ∧ h.to ≤ n ∧ Chain n h.to t q
theorem chain_snoc (n : Nat) (h : Hk) : ∀ (l : List Hk) (p q : Nat), Chain n p l q → q ≤ h.fr → h.fr ≤ h.to → h.to ≤ n → Chain n p (l ++ [h]) h.to
  | [], p, q, hc, h1, h2, h3 => by
    obtain ⟨rfl, h0⟩ := hc
    exact ⟨h1, h2, h3, rfl, h3⟩
  | k :: t, p, q, hc, h1, h2, h3 => by
    obtain ⟨c1, c2, c3, c4⟩ := hc
    exact ⟨c1, c2, c3, chain_snoc n h t k.to q c4 h1 h2 h3⟩
theorem chain_le (n : Nat) : ∀ (l : List Hk) (p q : Nat), Chain n p l q → p ≤ q ∧ q ≤ n
  | [], p, q, hc => by obtain ⟨rfl, h0⟩ := hc; omega
  | k :: t, p, q, hc => by
    obtain ⟨c1, c2, c3, c4⟩ := hc
    have := chain_le n t k.to q c4
    omega
theorem applyGo_chain (base : List Int) : ∀ (l : List Hk) (p q : Nat) (out : List Int) (rest : List (Option Hk)), Chain base.length p l q → ∃ out', applyGo base (l.map some ++ rest) p out = applyGo base rest q out'
  | [], p, q, out, rest, hc => by obtain ⟨rfl, -⟩ := hc; exact ⟨out, rfl⟩
  | k :: t, p, q, out, rest, hc => by
    obtain ⟨c1, c2, c3, c4⟩ := hc
    obtain ⟨out', h⟩ := applyGo_chain base t k.to q (out ++ sub base p (k.fr - p) ++ k.ys) rest c4
    refine ⟨out', ?_⟩
    rw [List.map_cons, List.cons_append, applyGo, if_neg (by omega)]
    exact h
theorem applyGo_behind (base : List Int) : ∀ (l : List Hk) (p q : Nat) (out : List Int), Chain base.length p l q →
    applyGo base (l.map some) p out = (0, out ++ (behind base l).drop p) ∧ (behind base l).take p = base.take p ∧ p ≤ (behind base l).length
  | [], p, q, out, hc => by obtain ⟨rfl, h0⟩ := hc; exact ⟨rfl, rfl, h0⟩
  | k :: t, p, q, out, hc => by
    obtain ⟨c1, c2, c3, c4⟩ := hc
    obtain ⟨i1, i2, i3⟩ := applyGo_behind base t k.to q (out ++ sub base p (k.fr - p) ++ k.ys) c4
    have e : behind base (k :: t) = (behind base t).take k.fr ++ k.ys ++ (behind base t).drop k.to := rfl
    have f : (behind base t).take k.fr = base.take k.fr := by
      have := congrArg (List.take k.fr) i2
      rwa [List.take_take, List.take_take, Nat.min_eq_left c2] at this
    refine ⟨?_, ?_, ?_⟩
    · rw [List.map_cons, applyGo, if_neg (by omega), i1, e, f]
      congr 1
      rw [List.append_assoc (base.take k.fr), List.drop_append_of_le_length (by simp; omega), List.drop_take]
      simp [sub, List.append_assoc]
    · rw [e, f, List.append_assoc, List.take_append_of_le_length (by simp; omega), List.take_take, Nat.min_eq_left c1]
    · rw [e, f]; simp; omega
theorem behind_len (base : List Int) (M : Nat) : ∀ (l : List Hk), (∀ h ∈ l, h.ys.length ≤ M) → ∀ q p, Chain base.length p l q → (behind base l).length ≤ base.length + M * l.length
  | [], _, _, _, _ => by simp [behind]
  | k :: t, hl, q, p, hc => by
    obtain ⟨c1, c2, c3, c4⟩ := hc
    have ih := behind_len base M t (fun h hh => hl h (by simp [hh])) q k.to c4
    have h1 := hl k (by simp)
    have e : behind base (k :: t) = (behind base t).take k.fr ++ k.ys ++ (behind base t).drop k.to := rfl
    rw [e]
    simp only [List.length_append, List.length_take, List.length_drop, List.length_cons, Nat.mul_add, Nat.mul_one]
    omega
theorem chain_drop (n : Nat) : ∀ (l : List Hk) (p q : Nat), Chain n p l q → ∀ i, ∃ p', Chain n p' (l.drop i) q
  | [], p, q, hc, i => ⟨p, by simpa using hc⟩
  | k :: t, p, q, hc, 0 => ⟨p, hc⟩
  | k :: t, p, q, hc, i + 1 => by
    obtain ⟨c1, c2, c3, c4⟩ := hc
    obtain ⟨p', h⟩ := chain_drop n t k.to q c4 i
    exact ⟨p', by simpa using h⟩
theorem behind_drop (base : List Int) (l : List Hk) (i : Nat) (h : Hk) (hh : l[i]? = some h) : behind base (l.drop i) = stepB h (behind base (l.drop (i + 1))) := by
  obtain ⟨hi, rfl⟩ := List.getElem?_eq_some_iff.1 hh
  rw [List.drop_eq_getElem_cons hi]
  rfl
/-- The sizes at a step from behind. -/
theorem step_ok (base : List Int) (l : List Hk) (q i : Nat) (h : Hk) (hc : Chain base.length 0 l q) (hh : l[i]? = some h) : h.fr ≤ h.to ∧ h.to ≤ (behind base (l.drop (i + 1))).length := by
  obtain ⟨hi, rfl⟩ := List.getElem?_eq_some_iff.1 hh
  obtain ⟨p, hp⟩ := chain_drop base.length l 0 q hc i
  rw [List.drop_eq_getElem_cons hi] at hp
  obtain ⟨c1, c2, c3, c4⟩ := hp
  exact ⟨c2, (applyGo_behind base _ _ q [] c4).2.2⟩
/-- The next hunk. -/
theorem hunksOf_step (xs : List Int) (h1 : 12 ≤ xs.length) (h2 : num (sub xs 8 4) ≤ xs.length - 12) :
    hunksOf xs = some ⟨num (sub xs 0 4), num (sub xs 4 4), sub xs 12 (num (sub xs 8 4))⟩ :: hunksOf (xs.drop (12 + num (sub xs 8 4))) := by
  unfold hunksOf
  obtain ⟨f, hf⟩ : ∃ f, xs.length = f + 1 := ⟨xs.length - 1, by omega⟩
  rw [hf, hunksF, if_neg (by omega), if_neg (by omega), if_neg (by omega), hunksF_same f (xs.drop (12 + num (sub xs 8 4))).length _ (by simp; omega) (Nat.le_refl _)]
theorem hunksOf_end (xs : List Int) (h0 : 0 < xs.length) (h : xs.length < 12 ∨ xs.length - 12 < num (sub xs 8 4)) : hunksOf xs = [none] := by
  unfold hunksOf
  obtain ⟨f, hf⟩ : ∃ f, xs.length = f + 1 := ⟨xs.length - 1, by omega⟩
  rw [hf, hunksF, if_neg (by omega)]
  by_cases h12 : xs.length < 12
  · rw [if_pos h12]
  · rw [if_neg h12, if_pos (by omega)]
theorem sub_drop (xs : List Int) (a o n : Nat) : sub (xs.drop a) o n = sub xs (a + o) n := by
  unfold sub
  rw [List.drop_drop]
/-- What was read of a patch up to 'at'. -/
def ReadUp (base xs : List Int) (l : List Hk) (p last : Nat) : Prop := p ≤ xs.length ∧ hunksOf xs = l.map some ++ hunksOf (xs.drop p) ∧ Chain base.length 0 l last ∧ 12 * l.length ≤ p ∧ ∀ h ∈ l, h.ys.length ≤ xs.length
theorem read_start (base xs : List Int) : ReadUp base xs [] 0 0 := ⟨by omega, by simp, ⟨rfl, by omega⟩, by simp, by simp⟩
theorem read_end {base xs : List Int} {l : List Hk} {p last : Nat} (h : ReadUp base xs l p last) (h0 : p < xs.length) (h1 : xs.length - p < 12 ∨ xs.length - p - 12 < num (sub xs (p + 8) 4)) : applyGo base (hunksOf xs) 0 [] = (3, []) := by
  obtain ⟨r1, r2, r3, -, -⟩ := h
  rw [r2]
  obtain ⟨o, ho⟩ := applyGo_chain base l 0 last [] (hunksOf (xs.drop p)) r3
  rw [ho, hunksOf_end (xs.drop p) (by simp; omega) (by rw [sub_drop, List.length_drop]; exact h1)]
  rfl
theorem read_form {base xs : List Int} {l : List Hk} {p last : Nat} (h : ReadUp base xs l p last) (h0 : 12 ≤ xs.length - p) (h1 : num (sub xs (p + 8) 4) ≤ xs.length - p - 12)
    (hb : num (sub xs (p + 4) 4) < num (sub xs p 4) ∨ base.length < num (sub xs (p + 4) 4) ∨ num (sub xs p 4) < last) : applyGo base (hunksOf xs) 0 [] = (4, []) := by
  obtain ⟨r1, r2, r3, -, -⟩ := h
  rw [r2]
  obtain ⟨o, ho⟩ := applyGo_chain base l 0 last [] (hunksOf (xs.drop p)) r3
  rw [ho, hunksOf_step (xs.drop p) (by simp; omega) (by rw [sub_drop, List.length_drop]; exact h1)]
  rw [sub_drop, sub_drop, sub_drop, Nat.add_zero, applyGo, if_pos (by simp only; omega)]
theorem read_next {base xs : List Int} {l : List Hk} {p last : Nat} (h : ReadUp base xs l p last) (h0 : 12 ≤ xs.length - p) (h1 : num (sub xs (p + 8) 4) ≤ xs.length - p - 12)
    (g1 : num (sub xs p 4) ≤ num (sub xs (p + 4) 4)) (g2 : num (sub xs (p + 4) 4) ≤ base.length) (g3 : last ≤ num (sub xs p 4)) :
    ReadUp base xs (l ++ [⟨num (sub xs p 4), num (sub xs (p + 4) 4), sub xs (p + 12) (num (sub xs (p + 8) 4))⟩]) (p + 12 + num (sub xs (p + 8) 4)) (num (sub xs (p + 4) 4)) := by
  obtain ⟨r1, r2, r3, r4, r5⟩ := h
  refine ⟨by omega, ?_, chain_snoc _ ⟨num (sub xs p 4), num (sub xs (p + 4) 4), sub xs (p + 12) (num (sub xs (p + 8) 4))⟩ l 0 last r3 g3 g1 g2, by simp; omega, ?_⟩
  · rw [r2, hunksOf_step (xs.drop p) (by simp; omega) (by rw [sub_drop, List.length_drop]; exact h1)]
    rw [sub_drop, sub_drop, sub_drop, sub_drop, Nat.add_zero, List.drop_drop]
    simp [Nat.add_assoc]
  · intro h hh
    rcases List.mem_append.1 hh with hh | hh
    · exact r5 h hh
    · simp at hh
      subst hh
      simp [sub]; omega
theorem read_done {base xs : List Int} {l : List Hk} {p last : Nat} (h : ReadUp base xs l p last) (h0 : p = xs.length) : applyGo base (hunksOf xs) 0 [] = (0, behind base l) := by
  obtain ⟨r1, r2, r3, -, -⟩ := h
  rw [r2, h0, List.drop_length, hunksOf_nil, List.append_nil, (applyGo_behind base l 0 last [] r3).1]
  simp
end Plain
end Go.Proofs.Ytbkifjmfmiipnaa
