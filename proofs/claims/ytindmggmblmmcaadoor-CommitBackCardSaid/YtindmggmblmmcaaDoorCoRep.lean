/- Texts in which a piece is put in place of another, plainly. -/
import Derived.Test.YtindmggmblmmcaaDoorCoPerM
import Derived.Lib.ReplaceLaws
import Derived.Lib.CountLaws
namespace Go.Proofs.YtindmggmblmmcaaDoor
set_option linter.unusedVariables false
theorem rep_miss {s old new : List UInt8} (h : Lib.index s old = -1) : Lib.replaceAll s old new = s := by
  unfold Lib.replaceAll Lib.replace Lib.replaceNum
  rw [Lib.count_miss h]
  simp [Lib.replaceK]
theorem rep_hit {s old new : List UInt8} (ho : old ≠ []) (hn : old ≠ new) {i : Nat} (h : Lib.index s old = i) : Lib.replaceAll s old new = s.take i ++ new ++ Lib.replaceAll (s.drop (i + old.length)) old new := by
  have e : ∀ t, Lib.replaceAll t old new = Lib.replaceK old new (Lib.count t old) t := fun t => by
    unfold Lib.replaceAll Lib.replace Lib.replaceNum
    rw [if_neg (by simpa using hn), if_pos (.inl (by decide))]
  rw [e s, e, Lib.count_hit ho h, Nat.add_comm 1, Lib.replaceK_hit _ _ _ _ _ h]
/-- A byte ahead that the sought text doesn't begin with. -/
theorem index_skip {c : UInt8} {s old : List UInt8} (h : old.isPrefixOf (c :: s) = false) : Lib.index (c :: s) old = if Lib.index s old = -1 then -1 else Lib.index s old + 1 := by
  conv => lhs; unfold Lib.index
  rw [if_neg (by rw [h]; simp)]
  simp only [beq_iff_eq]
theorem rep_skip {c : UInt8} {s old new : List UInt8} (ho : old ≠ []) (hn : old ≠ new) (h : old.isPrefixOf (c :: s) = false) : Lib.replaceAll (c :: s) old new = c :: Lib.replaceAll s old new := by
  have hi := index_skip h
  by_cases hm : Lib.index s old = -1
  · rw [if_pos hm] at hi
    rw [rep_miss hi, rep_miss hm]
  · rw [if_neg hm] at hi
    have hg := Lib.index_ge s old
    obtain ⟨i, hj⟩ : ∃ i : Nat, Lib.index s old = i := ⟨(Lib.index s old).toNat, by omega⟩
    rw [hj] at hi
    rw [rep_hit ho hn (i := i + 1) (by rw [hi]; rfl), rep_hit ho hn hj, List.take_succ_cons, show i + 1 + old.length = (i + old.length) + 1 by omega, List.drop_succ_cons]
    rfl
theorem rep_here {s old new : List UInt8} (ho : old ≠ []) (hn : old ≠ new) : Lib.replaceAll (old ++ s) old new = new ++ Lib.replaceAll s old new := by
  have : Lib.index (old ++ s) old = (0 : Nat) := Lib.index_first (Nat.zero_le _) (by unfold Lib.occAt; simp) (fun j hj => absurd hj (Nat.not_lt_zero _))
  rw [rep_hit ho hn this, List.take_zero, Nat.zero_add, List.drop_left]
  rfl
theorem rep_nil {old new : List UInt8} (ho : old ≠ []) : Lib.replaceAll [] old new = [] := rep_miss (by unfold Lib.index; cases old with | nil => exact absurd rfl ho | cons a t => rfl)
theorem pre_ne {c : UInt8} (hc : ¬ c = 10) (t l : List UInt8) : (10 :: t).isPrefixOf (c :: l) = false := by
  have h : ((10 : UInt8) == c) = false := by rw [beq_eq_false_iff_ne]; exact fun e => hc e.symm
  simp only [List.isPrefixOf, h, Bool.false_and]
/-- A blank behind each newline. -/
def nlB : List UInt8 → List UInt8
  | [] => []
  | c :: r => if c = 10 then 10 :: 32 :: nlB r else c :: nlB r
theorem rep_nlB : ∀ l : List UInt8, Lib.replaceAll l [10] [10, 32] = nlB l
  | [] => rep_nil (by simp)
  | c :: r => by
    unfold nlB
    split
    · rename_i hc
      subst hc
      have := rep_here (s := r) (old := [10]) (new := [10, 32]) (by simp) (by decide)
      rw [rep_nlB r] at this
      exact this
    · rename_i hc
      rw [rep_skip (by simp) (by decide) (pre_ne hc _ _), rep_nlB r]
theorem rep_back : ∀ l : List UInt8, Lib.replaceAll (nlB l) [10, 32] [10] = l
  | [] => rep_nil (by simp)
  | c :: r => by
    unfold nlB
    split
    · rename_i hc
      subst hc
      have := rep_here (s := nlB r) (old := [10, 32]) (new := [10]) (by simp) (by decide)
      rw [rep_back r] at this
      exact this
    · rename_i hc
      rw [rep_skip (by simp) (by decide) (pre_ne hc _ _), rep_back r]
/-- Each newline has a blank behind. -/
def allB : List UInt8 → Prop
  | [] => True
  | c :: r => (c = 10 → r.head? = some 32) ∧ allB r
theorem rep_forth : ∀ (k : Nat) (l : List UInt8), l.length ≤ k → allB l → nlB (Lib.replaceAll l [10, 32] [10]) = l
  | _, [], _, _ => by rw [rep_nil (by simp)]; rfl
  | 0, c :: r, hk, _ => by simp at hk
  | k + 1, c :: r, hk, h => by
    by_cases hc : c = 10
    · subst hc
      have h1 := h.1 rfl
      cases r with
      | nil => cases h1
      | cons d r =>
        simp only [List.head?_cons, Option.some.injEq] at h1
        subst h1
        have := rep_here (s := r) (old := [10, 32]) (new := [10]) (by simp) (by decide)
        rw [show ([10, 32] ++ r : List UInt8) = 10 :: 32 :: r from rfl] at this
        rw [this]
        show nlB (10 :: Lib.replaceAll r [10, 32] [10]) = _
        unfold nlB
        rw [if_pos rfl, rep_forth k r (by simp at hk; omega) h.2.2]
    · rw [rep_skip (by simp) (by decide) (pre_ne hc _ _)]
      unfold nlB
      rw [if_neg hc, rep_forth k r (by simpa using hk) h.2]
theorem nlB_allB : ∀ l, allB (nlB l)
  | [] => True.intro
  | c :: r => by
    unfold nlB
    split
    · exact ⟨fun _ => rfl, (fun h => absurd h (by decide)), nlB_allB r⟩
    · rename_i hc
      exact ⟨fun h => absurd h hc, nlB_allB r⟩
end Go.Proofs.YtindmggmblmmcaaDoor
