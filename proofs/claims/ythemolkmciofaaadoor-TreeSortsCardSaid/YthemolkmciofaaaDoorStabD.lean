/- Stable merging, plainly: what symMerge's searches end with. -/
import Derived.Test.YthemolkmciofaaaDoorStabC
namespace Go.Proofs.YthemolkmciofaaaDoor
set_option linter.unusedVariables false
section
variable {α : Type} {lt : α → α → Bool}
theorem left_end (hw : SWO lt) {A Y C : List α} {x : α} (hY : Srt lt Y) (a m b i : Nat) (ha : A.length = a) (hm : a + 1 = m) (hb : m + Y.length = b) (h1 : m ≤ i) (h2 : i ≤ b)
    (k1 : ∀ y, m < i → (A ++ ([x] ++ (Y ++ C)))[i - 1]? = some y → lt y x = true) (k2 : ∀ y, i < b → (A ++ ([x] ++ (Y ++ C)))[i]? = some y → lt y x = false) :
    mrg lt [x] Y = Y.take (i - m) ++ x :: Y.drop (i - m) := by
  refine one_left hw hY (i - m) (by omega) (fun y hp hy => ?_) (fun y hy => ?_)
  · have l := (List.getElem?_eq_some_iff.1 hy).1
    have e := at_y A [x] Y C (i - m - 1) l
    rw [show A.length + [x].length + (i - m - 1) = i - 1 by simp only [List.length_singleton]; omega] at e
    exact k1 y (by omega) (e.trans hy)
  · have l := (List.getElem?_eq_some_iff.1 hy).1
    have e := at_y A [x] Y C (i - m) l
    rw [show A.length + [x].length + (i - m) = i by simp only [List.length_singleton]; omega] at e
    exact k2 y (by omega) (e.trans hy)
theorem right_end (hw : SWO lt) {A X C : List α} {y : α} (hX : Srt lt X) (a m i : Nat) (ha : A.length = a) (hm : a + X.length = m) (h1 : a ≤ i) (h2 : i ≤ m)
    (k1 : ∀ x, a < i → (A ++ (X ++ ([y] ++ C)))[i - 1]? = some x → lt y x = false) (k2 : ∀ x, i < m → (A ++ (X ++ ([y] ++ C)))[i]? = some x → lt y x = true) :
    mrg lt X [y] = X.take (i - a) ++ y :: X.drop (i - a) := by
  refine one_right hw hX (i - a) (by omega) (fun x hp hx => ?_) (fun x hx => ?_)
  · have l := (List.getElem?_eq_some_iff.1 hx).1
    have e := at_x A X ([y] ++ C) (i - a - 1) l
    rw [show A.length + (i - a - 1) = i - 1 by omega] at e
    exact k1 x (by omega) (e.trans hx)
  · have l := (List.getElem?_eq_some_iff.1 hx).1
    have e := at_x A X ([y] ++ C) (i - a) l
    rw [show A.length + (i - a) = i by omega] at e
    exact k2 x (by omega) (e.trans hx)
theorem one_of {X : List α} (h : X.length = 1) : ∃ x, X = [x] := List.length_eq_one_iff.1 h
/-- An element on its way: where it stands, and the one behind it. -/
theorem way_at (A Y C : List α) (x : α) (t : Nat) (ht : t ≤ Y.length) : (A ++ (Y.take t ++ x :: (Y.drop t ++ C)))[A.length + t]? = some x := by
  rw [List.getElem?_append_right (by omega), Nat.add_sub_cancel_left, List.getElem?_append_right (by rw [List.length_take]; omega), List.length_take, Nat.min_eq_left ht, Nat.sub_self]
  rfl
theorem way_next (A Y C : List α) (x : α) (t : Nat) (ht : t < Y.length) : (A ++ (Y.take t ++ x :: (Y.drop t ++ C)))[A.length + t + 1]? = Y[t]? := by
  rw [List.getElem?_append_right (by omega), List.getElem?_append_right (by rw [List.length_take]; omega), List.length_take, Nat.min_eq_left (by omega), show A.length + t + 1 - A.length - t = 1 by omega]
  rw [List.getElem?_cons_succ, List.getElem?_append_left (by rw [List.length_drop]; omega), List.getElem?_drop]
  rfl
theorem way_before (A X R : List α) (y : α) (t : Nat) (ht : t + 1 ≤ X.length) : (A ++ (X.take (t + 1) ++ y :: (X.drop (t + 1) ++ R)))[A.length + t]? = X[t]? := by
  rw [List.getElem?_append_right (by omega), Nat.add_sub_cancel_left, List.getElem?_append_left (by rw [List.length_take]; omega), List.getElem?_take, if_pos (by omega)]
/-- The general step's numbers. -/
structure SymN (a m b mid n s0 r0 : Nat) : Prop where
  h1 : a < m
  h2 : m < b
  h3 : a < mid
  h4 : mid < b
  h5 : n = mid + m
  h6 : (m > mid ∧ s0 + b = n ∧ r0 = mid) ∨ (¬ m > mid ∧ s0 = a ∧ r0 = m)
  h7 : 2 * mid ≤ a + b ∧ a + b ≤ 2 * mid + 1
theorem SymN.ok {a m b mid n s0 r0 s : Nat} (h : SymN a m b mid n s0 r0) (h1 : s0 ≤ s) (h2 : s ≤ r0) : a ≤ s ∧ s ≤ m ∧ m + s ≤ n ∧ n ≤ b + s := by
  obtain ⟨q1, q2, q3, q4, q5, q6, q7, q8⟩ := h
  rcases q6 with ⟨e1, e2, e3⟩ | ⟨e1, e2, e3⟩ <;> omega
theorem SymN.at {a m b mid n s0 r0 c : Nat} (h : SymN a m b mid n s0 r0) (h1 : s0 ≤ c) (h2 : c < r0) : a ≤ c ∧ c < m ∧ c + 1 + m ≤ n ∧ n ≤ b + c := by
  obtain ⟨q1, q2, q3, q4, q5, q6, q7, q8⟩ := h
  rcases q6 with ⟨e1, e2, e3⟩ | ⟨e1, e2, e3⟩ <;> omega
theorem SymN.seam (hw : SWO lt) {A X Y C : List α} (hX : Srt lt X) (hY : Srt lt Y) {a m b mid n s0 r0 s e : Nat} (h : SymN a m b mid n s0 r0) (ha : A.length = a) (hm : a + X.length = m) (hb : m + Y.length = b) (h1 : s0 ≤ s) (h2 : s ≤ r0) (he : e + s = n)
    (k1 : ∀ x y, s < r0 → (A ++ (X ++ (Y ++ C)))[s]? = some x → (A ++ (X ++ (Y ++ C)))[n - 1 - s]? = some y → lt y x = true)
    (k2 : ∀ x y, s0 < s → (A ++ (X ++ (Y ++ C)))[s - 1]? = some x → (A ++ (X ++ (Y ++ C)))[n - s]? = some y → lt y x = false) :
    mrg lt X Y = mrg lt (X.take (s - a)) (Y.take (e - m)) ++ mrg lt (X.drop (s - a)) (Y.drop (e - m)) := by
  obtain ⟨o1, o2, o3, o4⟩ := h.ok h1 h2
  obtain ⟨q1, q2, q3, q4, q5, q6, q7, q8⟩ := h
  refine sym_step (A := A) (C := C) hw hX hY a m b s e ha hm hb o1 o2 (by omega) (by omega) (fun x y l1 l2 hx hy => ?_) (fun x y l1 l2 hx hy => ?_)
  · refine k1 x y (by rcases q6 with ⟨e1, e2, e3⟩ | ⟨e1, e2, e3⟩ <;> omega) hx ?_
    rw [show n - 1 - s = e - 1 by omega]; exact hy
  · refine k2 x y (by rcases q6 with ⟨e1, e2, e3⟩ | ⟨e1, e2, e3⟩ <;> omega) hx ?_
    rw [show n - s = e by omega]; exact hy
end
end Go.Proofs.YthemolkmciofaaaDoor
