/- A patch by which a base becomes a target. -/
import Derived.Test.YtbkifjmfmiipnaaNumber
namespace Go.Proofs.Ytbkifjmfmiipnaa
open Go.RowKit Plain
set_option linter.unusedVariables false
namespace Plain
/-- How far a test holds, from 'n' on. -/
def runQ (q : Nat → Bool) : Nat → Nat → Nat
  | 0, n => n
  | f + 1, n => if q n then runQ q f (n + 1) else n
def alikeN (a b : Nat) (q : Nat → Bool) : Nat := runQ q (min a b) 0
theorem runQ_spec (q : Nat → Bool) : ∀ (f n : Nat), n ≤ runQ q f n ∧ runQ q f n ≤ n + f ∧ ∀ j, n ≤ j → j < runQ q f n → q j = true
  | 0, n => ⟨Nat.le_refl _, Nat.le_refl _, fun j h1 h2 => by simp [runQ] at h2; omega⟩
  | f + 1, n => by
    by_cases h : q n = true
    · obtain ⟨h1, h2, h3⟩ := runQ_spec q f (n + 1)
      rw [runQ, if_pos h]
      refine ⟨by omega, by omega, fun j g1 g2 => ?_⟩
      by_cases hj : j = n
      · subst hj; exact h
      · exact h3 j (by omega) g2
    · rw [runQ, if_neg h]
      exact ⟨Nat.le_refl _, by omega, fun j g1 g2 => by omega⟩
theorem runQ_all (q : Nat → Bool) : ∀ (f n : Nat), (∀ j, n ≤ j → j < n + f → q j = true) → runQ q f n = n + f
  | 0, n, h => rfl
  | f + 1, n, h => by
    rw [runQ, if_pos (h n (Nat.le_refl _) (by omega)), runQ_all q f (n + 1) (fun j h1 h2 => h j (by omega) (by omega))]
    omega
theorem alikeN_le (a b : Nat) (q : Nat → Bool) : alikeN a b q ≤ a ∧ alikeN a b q ≤ b := by
  have := (runQ_spec q (min a b) 0).2.1
  unfold alikeN
  omega
theorem alikeN_q (a b : Nat) (q : Nat → Bool) (j : Nat) (h : j < alikeN a b q) : q j = true := (runQ_spec q (min a b) 0).2.2 j (Nat.zero_le _) h
def eqF (xs ys : List Int) (j : Nat) : Bool := decide (xs[j]? = ys[j]?)
def eqB (xs ys : List Int) (j : Nat) : Bool := decide (xs[xs.length - 1 - j]? = ys[ys.length - 1 - j]?)
def frontN (base target : List Int) : Nat := alikeN base.length target.length (eqF base target)
def endN (old made : List Int) : Nat := alikeN old.length made.length (eqB old made)
theorem front_take (xs ys : List Int) : xs.take (frontN xs ys) = ys.take (frontN xs ys) := by
  apply List.ext_getElem?
  intro j
  by_cases h : j < frontN xs ys
  · rw [List.getElem?_take_of_lt h, List.getElem?_take_of_lt h]
    have := alikeN_q _ _ _ j h
    simpa [eqF] using this
  · rw [List.getElem?_eq_none (by simp; omega), List.getElem?_eq_none (by simp; omega)]
theorem end_drop (xs ys : List Int) : xs.drop (xs.length - endN xs ys) = ys.drop (ys.length - endN xs ys) := by
  have hl := alikeN_le xs.length ys.length (eqB xs ys)
  have hn : endN xs ys ≤ xs.length ∧ endN xs ys ≤ ys.length := hl
  have hq : ∀ j, j < endN xs ys → eqB xs ys j = true := fun j h => alikeN_q _ _ _ j h
  generalize endN xs ys = n at *
  apply List.ext_getElem?
  intro i
  rw [List.getElem?_drop, List.getElem?_drop]
  by_cases h : i < n
  · have := hq (n - 1 - i) (by omega)
    unfold eqB at this
    rw [show xs.length - 1 - (n - 1 - i) = xs.length - n + i by omega, show ys.length - 1 - (n - 1 - i) = ys.length - n + i by omega] at this
    simpa using this
  · rw [List.getElem?_eq_none (by omega), List.getElem?_eq_none (by omega)]
def makeHk (base target : List Int) : Hk :=
  ⟨frontN base target, base.length - endN (base.drop (frontN base target)) (target.drop (frontN base target)), (target.drop (frontN base target)).take ((target.drop (frontN base target)).length - endN (base.drop (frontN base target)) (target.drop (frontN base target)))⟩
def makeOf (base target : List Int) : List Int := if (makeHk base target).fr = (makeHk base target).to ∧ (makeHk base target).ys.length = 0 then [] else hkBytes (makeHk base target)
theorem make_parts (base target : List Int) : (makeHk base target).fr ≤ (makeHk base target).to ∧ (makeHk base target).to ≤ base.length ∧ (makeHk base target).ys.length ≤ target.length ∧
    base.take (makeHk base target).fr ++ (makeHk base target).ys ++ base.drop (makeHk base target).to = target := by
  have h1 := alikeN_le base.length target.length (eqF base target)
  have hf : frontN base target ≤ base.length ∧ frontN base target ≤ target.length := h1
  have ht := front_take base target
  unfold makeHk
  generalize frontN base target = f at *
  have he := end_drop (base.drop f) (target.drop f)
  have h2 := alikeN_le (base.drop f).length (target.drop f).length (eqB (base.drop f) (target.drop f))
  have hn : endN (base.drop f) (target.drop f) ≤ (base.drop f).length ∧ endN (base.drop f) (target.drop f) ≤ (target.drop f).length := h2
  generalize endN (base.drop f) (target.drop f) = n at *
  rw [List.length_drop, List.length_drop] at hn
  refine ⟨by simp only; omega, by simp only; omega, by simp; omega, ?_⟩
  simp only
  rw [List.drop_drop, List.drop_drop, List.length_drop, List.length_drop] at he
  have e1 : base.drop (base.length - n) = (target.drop f).drop ((target.drop f).length - n) := by
    rw [show base.length - n = f + (base.length - f - n) by omega, he, List.drop_drop, List.length_drop]
  rw [ht, e1, List.append_assoc, List.take_append_drop, List.take_append_drop]
theorem make_go (base target : List Int) (hb : base.length < 4294967296) (ht : target.length < 4294967296) : applyGo base (hunksOf (makeOf base target)) 0 [] = (0, target) := by
  obtain ⟨h1, h2, h3, h4⟩ := make_parts base target
  unfold makeOf
  generalize makeHk base target = h at *
  split
  · rename_i hc
    obtain ⟨hc1, hc2⟩ := hc
    rw [hunksOf_nil, applyGo]
    have : h.ys = [] := List.eq_nil_of_length_eq_zero hc2
    rw [this, ← hc1, List.append_nil, List.take_append_drop] at h4
    rw [h4]; rfl
  · have e := hunksOf_cons h [] (by omega)
    rw [List.append_nil] at e
    rw [e, hunksOf_nil, low_id h (by omega) (by omega), applyGo, if_neg (by omega), applyGo]
    rw [← h4]
    simp [sub]
theorem make_apply (base target : List Int) (hb : base.length < 4294967296) (ht : target.length < 4294967296) : applyOf base (makeOf base target) (target.length : Int) = (0, target) := by
  unfold applyOf
  rw [make_go base target hb ht]
  simp
theorem make_len (base target : List Int) : (makeOf base target).length ≤ 12 + target.length := by
  obtain ⟨h1, h2, h3, h4⟩ := make_parts base target
  unfold makeOf
  split
  · simp
  · rw [hkBytes_length]; omega
theorem make_same (base : List Int) : makeOf base base = [] := by
  have h : frontN base base = base.length := by
    unfold frontN alikeN
    rw [runQ_all _ _ _ (fun j _ _ => by simp [eqF])]
    omega
  unfold makeOf
  rw [if_pos]
  unfold makeHk
  rw [h]
  have hn := (alikeN_le (base.drop base.length).length (base.drop base.length).length (eqB (base.drop base.length) (base.drop base.length))).1
  have hn' : endN (base.drop base.length) (base.drop base.length) ≤ (base.drop base.length).length := hn
  rw [List.length_drop] at hn'
  constructor
  · simp only; omega
  · simp
end Plain
end Go.Proofs.Ytbkifjmfmiipnaa
