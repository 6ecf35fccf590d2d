/- Stable sorting, plainly: the steps of the loops (insertion, rotation, blocks that grow). -/
import Derived.Test.YthemolkmciofaaaDoorStab
namespace Go.Proofs.YthemolkmciofaaaDoor
set_option linter.unusedVariables false
section
variable {α : Type} {lt : α → α → Bool}
theorem swap_comm (l : List α) (i j : Nat) (h : i ≠ j) : swapL l i j = swapL l j i := by
  unfold swapL
  cases hi : l[i]? with
  | none => cases l[j]? <;> rfl
  | some a =>
    cases hj : l[j]? with
    | none => rfl
    | some b => exact List.set_comm _ _ h
theorem swap_len (l : List α) (i j : Nat) : (swapL l i j).length = l.length := by
  unfold swapL
  split
  · simp
  · rfl
theorem swap_val {l : List α} {i j : Nat} {a b : α} (hi : l[i]? = some a) (hj : l[j]? = some b) : swapL l i j = (l.set i b).set j a := by
  unfold swapL
  rw [hi, hj]
/-- An element on its way through a list: one step ahead. -/
theorem walk_swap (A X C : List α) (y : α) (t : Nat) (ht : t < X.length) : swapL (A ++ (X.take t ++ y :: (X.drop t ++ C))) (A.length + t) (A.length + t + 1) = A ++ (X.take (t + 1) ++ y :: (X.drop (t + 1) ++ C)) := by
  have e1 : X.drop t = X[t] :: X.drop (t + 1) := List.drop_eq_getElem_cons ht
  have e2 : X.take (t + 1) = X.take t ++ [X[t]] := by rw [List.take_add_one, List.getElem?_eq_getElem ht]; rfl
  rw [e1, e2]
  have := swap_at (A ++ X.take t) [] (X.drop (t + 1) ++ C) y X[t] (A.length + t) (A.length + t + 1) (by rw [List.length_append, List.length_take]; omega) (by rw [List.length_append, List.length_take]; simp; omega)
  simp only [List.append_assoc, List.cons_append, List.nil_append] at this ⊢
  exact this
/-- .. and one step back. -/
theorem walk_back (A X C : List α) (y : α) (t : Nat) (ht : t < X.length) : swapL (A ++ (X.take (t + 1) ++ y :: (X.drop (t + 1) ++ C))) (A.length + t + 1) (A.length + t) = A ++ (X.take t ++ y :: (X.drop t ++ C)) := by
  have e1 : X.drop t = X[t] :: X.drop (t + 1) := List.drop_eq_getElem_cons ht
  have e2 : X.take (t + 1) = X.take t ++ [X[t]] := by rw [List.take_add_one, List.getElem?_eq_getElem ht]; rfl
  rw [swap_comm _ _ _ (by omega), e1, e2]
  have := swap_at (A ++ X.take t) [] (X.drop (t + 1) ++ C) X[t] y (A.length + t) (A.length + t + 1) (by rw [List.length_append, List.length_take]; omega) (by rw [List.length_append, List.length_take]; simp; omega)
  simp only [List.append_assoc, List.cons_append, List.nil_append] at this ⊢
  exact this
/-- Insertion's end: the element stands where it belongs. -/
theorem ins_end (hw : SWO lt) {X : List α} (hX : Srt lt X) (y : α) (t : Nat) (ht : t ≤ X.length) (h1 : ∀ x, 0 < t → X[t - 1]? = some x → lt y x = false) (h2 : ∀ x, X[t]? = some x → lt y x = true) (A C : List α) :
    A ++ (X.take t ++ y :: (X.drop t ++ C)) = A ++ (mrg lt X [y] ++ C) := by
  rw [one_right hw hX t ht h1 h2]
  simp
theorem block_step (B : List α) (t : Nat) (y : α) (h : B[t]? = some y) : sortS lt (B.take (t + 1)) = mrg lt (sortS lt (B.take t)) [y] := by
  have e : B.take (t + 1) = B.take t ++ [y] := by rw [List.take_add_one, h]; rfl
  rw [e, sortS_snoc]
/-- Rotating: where it stands. -/
structure Rot (D : List α) (m i j : Nat) (T : List α) : Prop where
  ex : ∃ pre u v post, D = pre ++ (u ++ (v ++ post)) ∧ pre.length + i = m ∧ u.length = i ∧ v.length = j ∧ T = pre ++ (v ++ (u ++ post))
theorem Rot.big {D T : List α} {m i j : Nat} (h : Rot D m i j T) (hj : j < i) : Rot (swapN D (m - i) m j) m (i - j) j T := by
  obtain ⟨pre, u, v, post, rfl, h1, h2, h3, rfl⟩ := h.ex
  have e := swapN_at pre (u.drop j) post (u.take j) v [] [] (by rw [List.length_take]; omega)
  have e1 : u.take j ++ u.drop j = u := List.take_append_drop j u
  have l1 : (u.take j).length = j := by rw [List.length_take]; omega
  simp only [List.append_nil] at e
  rw [l1, List.length_drop] at e
  rw [show m - i = pre.length by omega, show m = pre.length + j + (u.length - j) by omega]
  have e2 : pre ++ (u ++ (v ++ post)) = pre ++ (u.take j ++ (u.drop j ++ (v ++ post))) := by
    conv => lhs; rw [← e1]
    simp only [List.append_assoc]
  rw [e2, e]
  refine ⟨pre ++ v, u.drop j, u.take j, post, by simp, by rw [List.length_append]; omega, by rw [List.length_drop]; omega, l1, ?_⟩
  conv => lhs; rw [← e1]
  simp only [List.append_assoc]
theorem Rot.small {D T : List α} {m i j : Nat} (h : Rot D m i j T) (hj : i < j) : Rot (swapN D (m - i) (m + j - i) i) m i (j - i) T := by
  obtain ⟨pre, u, v, post, rfl, h1, h2, h3, rfl⟩ := h.ex
  have e := swapN_at pre (v.take (j - i)) post u (v.drop (j - i)) [] [] (by rw [List.length_drop]; omega)
  have e1 : v.take (j - i) ++ v.drop (j - i) = v := List.take_append_drop _ v
  have l1 : (v.take (j - i)).length = j - i := by rw [List.length_take]; omega
  simp only [List.append_nil] at e
  rw [l1, h2] at e
  rw [show m - i = pre.length by omega, show m + j - i = pre.length + i + (j - i) by omega]
  have e2 : pre ++ (u ++ (v ++ post)) = pre ++ (u ++ (v.take (j - i) ++ (v.drop (j - i) ++ post))) := by
    conv => lhs; rw [← e1]
    simp only [List.append_assoc]
  rw [e2, e]
  refine ⟨pre, v.drop (j - i), v.take (j - i), u ++ post, by simp, by omega, by rw [List.length_drop]; omega, l1, ?_⟩
  conv => lhs; rw [← e1]
  simp only [List.append_assoc]
theorem Rot.done {D T : List α} {m i : Nat} (h : Rot D m i i T) : swapN D (m - i) m i = T := by
  obtain ⟨pre, u, v, post, rfl, h1, h2, h3, rfl⟩ := h.ex
  have e := swapN_at pre [] post u v [] [] (by omega)
  simp only [List.append_nil] at e
  rw [h2] at e
  rw [show m - i = pre.length by omega, show m = pre.length + i + ([] : List α).length by simp; omega]
  exact e
theorem swapN_len (l : List α) (a b : Nat) : ∀ k, (swapN l a b k).length = l.length
  | 0 => rfl
  | k + 1 => (swap_len _ _ _).trans (swapN_len l a b k)
/-- Each block of s by itself in order. -/
def blocks (lt : α → α → Bool) (s : Nat) : Nat → List α → List α
  | 0, _ => []
  | k + 1, l => sortS lt (l.take s) ++ blocks lt s k (l.drop s)
theorem blocks_nil (s : Nat) : ∀ k, blocks lt s k ([] : List α) = []
  | 0 => rfl
  | k + 1 => by
    show sortS lt (([] : List α).take s) ++ blocks lt s k (([] : List α).drop s) = _
    rw [List.take_nil, List.drop_nil, blocks_nil s k]
    rfl
theorem blocks_short (s k : Nat) (l : List α) (h : l.length ≤ s) : blocks lt s (k + 1) l = sortS lt l := by
  show sortS lt (l.take s) ++ blocks lt s k (l.drop s) = _
  rw [List.take_of_length_le h, List.drop_eq_nil_of_le h, blocks_nil, List.append_nil]
theorem blocks_len (s : Nat) : ∀ (k : Nat) (l : List α), l.length ≤ k * s → (blocks lt s k l).length = l.length
  | 0, l, h => by simp at h; rw [h]; rfl
  | k + 1, l, h => by
    show (sortS lt (l.take s) ++ blocks lt s k (l.drop s)).length = _
    rw [List.length_append, sortS_len, blocks_len s k (l.drop s) (by rw [List.length_drop]; rw [Nat.succ_mul] at h; omega), List.length_take, List.length_drop]
    omega
/-- Two blocks as one. -/
theorem blocks_two (hw : SWO lt) (s k : Nat) (l : List α) : blocks lt s (k + 2) l = sortS lt (l.take s) ++ (sortS lt ((l.drop s).take s) ++ blocks lt s k (l.drop (2 * s))) ∧ mrg lt (sortS lt (l.take s)) (sortS lt ((l.drop s).take s)) = sortS lt (l.take (2 * s)) := by
  constructor
  · show sortS lt (l.take s) ++ (sortS lt ((l.drop s).take s) ++ blocks lt s k ((l.drop s).drop s)) = _
    rw [List.drop_drop, show s + s = 2 * s by omega]
  · rw [← sortS_app hw _ _ _ rfl]
    congr 1
    rw [show 2 * s = s + s by omega, List.take_add]
end
end Go.Proofs.YthemolkmciofaaaDoor
