/- Stable sorting, plainly: blocks, the last one shorter. -/
import Derived.Test.YthemolkmciofaaaDoorStabB
namespace Go.Proofs.YthemolkmciofaaaDoor
set_option linter.unusedVariables false
section
variable {α : Type} {lt : α → α → Bool}
/-- Each block of s by itself in order, to the end. -/
def bs (lt : α → α → Bool) (s : Nat) (l : List α) : List α := blocks lt s l.length l
theorem blocks_more (s : Nat) (hs : 0 < s) : ∀ (k j : Nat) (l : List α), l.length ≤ k → l.length ≤ j → blocks lt s k l = blocks lt s j l
  | 0, j, l, h, _ => by
    have := List.length_eq_zero_iff.1 (Nat.le_zero.1 h)
    subst this
    simp only [blocks_nil]
  | k + 1, 0, l, _, h => by
    have := List.length_eq_zero_iff.1 (Nat.le_zero.1 h)
    subst this
    simp only [blocks_nil]
  | k + 1, j + 1, l, h, h' => by
    show sortS lt (l.take s) ++ blocks lt s k (l.drop s) = sortS lt (l.take s) ++ blocks lt s j (l.drop s)
    rw [blocks_more s hs k j (l.drop s) (by rw [List.length_drop]; omega) (by rw [List.length_drop]; omega)]
theorem bs_step (s : Nat) (hs : 0 < s) (l : List α) : bs lt s l = sortS lt (l.take s) ++ bs lt s (l.drop s) := by
  unfold bs
  rw [blocks_more s hs l.length (l.length + 1) l (Nat.le_refl _) (by omega)]
  show sortS lt (l.take s) ++ blocks lt s l.length (l.drop s) = _
  rw [blocks_more s hs l.length (l.drop s).length (l.drop s) (by rw [List.length_drop]; omega) (Nat.le_refl _)]
theorem bs_short (s : Nat) (hs : 0 < s) (l : List α) (h : l.length ≤ s) : bs lt s l = sortS lt l := by
  rw [bs_step s hs, List.take_of_length_le h, List.drop_eq_nil_of_le h]
  show sortS lt l ++ [] = _
  rw [List.append_nil]
/-- Two blocks are merged to one. -/
theorem bs_two (hw : SWO lt) (s : Nat) (hs : 0 < s) (l : List α) : bs lt s l = sortS lt (l.take s) ++ (sortS lt ((l.drop s).take s) ++ bs lt s (l.drop (2 * s))) ∧ mrg lt (sortS lt (l.take s)) (sortS lt ((l.drop s).take s)) = sortS lt (l.take (2 * s)) := by
  refine ⟨?_, (blocks_two hw s 0 l).2⟩
  rw [bs_step s hs l, bs_step s hs (l.drop s), List.drop_drop, show s + s = 2 * s by omega]
end
end Go.Proofs.YthemolkmciofaaaDoor
