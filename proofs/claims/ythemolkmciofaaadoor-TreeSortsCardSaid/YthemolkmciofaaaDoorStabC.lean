/- Stable merging, plainly: where the elements of both parts stand; the step of symMerge. -/
import Derived.Test.YthemolkmciofaaaDoorStabB
namespace Go.Proofs.YthemolkmciofaaaDoor
set_option linter.unusedVariables false
section
variable {α : Type} {lt : α → α → Bool}
theorem at_x (A X R : List α) (i : Nat) (h : i < X.length) : (A ++ (X ++ R))[A.length + i]? = X[i]? := by
  rw [List.getElem?_append_right (by omega), Nat.add_sub_cancel_left, List.getElem?_append_left h]
theorem at_y (A X Y C : List α) (j : Nat) (h : j < Y.length) : (A ++ (X ++ (Y ++ C)))[A.length + X.length + j]? = Y[j]? := by
  rw [List.getElem?_append_right (by omega), List.getElem?_append_right (by omega), List.getElem?_append_left (by omega)]
  congr 1
  omega
/-- symMerge's seam in the row: s is where the first part is cut, e where the second one is; what is told are the elements at s and e - 1, at s - 1 and e. -/
theorem sym_step (hw : SWO lt) {A X Y C : List α} (hX : Srt lt X) (hY : Srt lt Y) (a m b s e : Nat) (ha : A.length = a) (hm : a + X.length = m) (hb : m + Y.length = b) (h1 : a ≤ s) (h2 : s ≤ m) (h3 : m ≤ e) (h4 : e ≤ b)
    (k1 : ∀ x y, s < m → m < e → (A ++ (X ++ (Y ++ C)))[s]? = some x → (A ++ (X ++ (Y ++ C)))[e - 1]? = some y → lt y x = true)
    (k2 : ∀ x y, a < s → e < b → (A ++ (X ++ (Y ++ C)))[s - 1]? = some x → (A ++ (X ++ (Y ++ C)))[e]? = some y → lt y x = false) :
    mrg lt X Y = mrg lt (X.take (s - a)) (Y.take (e - m)) ++ mrg lt (X.drop (s - a)) (Y.drop (e - m)) := by
  refine sym_split hw hX hY (s - a) (e - m) (by omega) (by omega) (fun x y hj hx hy => ?_) (fun x y hi hx hy => ?_)
  · have l1 := (List.getElem?_eq_some_iff.1 hx).1
    have l2 := (List.getElem?_eq_some_iff.1 hy).1
    have e1 := at_x A X (Y ++ C) (s - a) l1
    have e2 := at_y A X Y C (e - m - 1) l2
    rw [show A.length + (s - a) = s by omega] at e1
    rw [show A.length + X.length + (e - m - 1) = e - 1 by omega] at e2
    exact k1 x y (by omega) (by omega) (e1.trans hx) (e2.trans hy)
  · have l1 := (List.getElem?_eq_some_iff.1 hx).1
    have l2 := (List.getElem?_eq_some_iff.1 hy).1
    have e1 := at_x A X (Y ++ C) (s - a - 1) l1
    have e2 := at_y A X Y C (e - m) l2
    rw [show A.length + (s - a - 1) = s - 1 by omega] at e1
    rw [show A.length + X.length + (e - m) = e by omega] at e2
    exact k2 x y (by omega) (by omega) (e1.trans hx) (e2.trans hy)
/-- .. the same row, told as what is rotated. -/
theorem sym_rot {A X Y C : List α} (a m s e : Nat) (ha : A.length = a) (hm : a + X.length = m) (h1 : a ≤ s) (h2 : s ≤ m) (h3 : m ≤ e) (h4 : e - m ≤ Y.length) :
    Rot (A ++ (X ++ (Y ++ C))) m (m - s) (e - m) (A ++ (X.take (s - a) ++ (Y.take (e - m) ++ (X.drop (s - a) ++ (Y.drop (e - m) ++ C))))) := by
  refine ⟨A ++ X.take (s - a), X.drop (s - a), Y.take (e - m), Y.drop (e - m) ++ C, ?_, by rw [List.length_append, List.length_take]; omega, by rw [List.length_drop]; omega, by rw [List.length_take]; omega, by simp only [List.append_assoc]⟩
  conv => lhs; rw [← List.take_append_drop (s - a) X, ← List.take_append_drop (e - m) Y]
  simp only [List.append_assoc]
end
end Go.Proofs.YthemolkmciofaaaDoor
