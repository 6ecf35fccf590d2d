/- Orders: places, heads, a node more: maths. -/
import Derived.Test.YthadgepihjigeaaLawReaches
namespace Go.Proofs.Ythadgepihjigeaa
open Go.RowKit Plain
set_option linter.unusedVariables false
namespace Plain
/-- A parent's place is less. -/
theorem order_places {G : List (List Int)} {o : List Int} (h : Pre G o) : ∀ (t y : Nat), o[t]? = some (y : Int) → ∀ p ∈ row G y, ∃ s, s < t ∧ o[s]? = some p := by
  induction h with
  | nil => intro t y h; cases h
  | @cons o x h hl hx ih =>
    intro t y ht p hp
    obtain ⟨n1, -, -⟩ := next_some.1 hx
    have htl : t < (o ++ [(x : Int)]).length := (List.getElem?_eq_some_iff.1 ht).1
    rw [List.length_append, List.length_singleton] at htl
    by_cases e : t < o.length
    · rw [List.getElem?_append_left e] at ht
      obtain ⟨s, h1, h2⟩ := ih t y ht p hp
      exact ⟨s, h1, by rw [List.getElem?_append_left (by omega)]; exact h2⟩
    · have e2 : t = o.length := by omega
      subst e2
      rw [List.getElem?_append_right (Nat.le_refl _), Nat.sub_self] at ht
      have : y = x := by simp at ht; omega
      subst this
      obtain ⟨s, hs, h2⟩ := List.mem_iff_getElem.1 (n1.2 p hp)
      exact ⟨s, hs, by rw [List.getElem?_append_left hs, List.getElem?_eq_getElem hs, h2]⟩
/-- The first ones of an order are closed. -/
theorem order_closed {G : List (List Int)} {o : List Int} (h : Pre G o) (k : Nat) : ∀ x : Nat, (x : Int) ∈ o.take k → ∀ p ∈ row G x, p ∈ o.take k := fun x hx p hp => by
  obtain ⟨t, ht, e⟩ := List.mem_iff_getElem.1 hx
  have ht' : t < k ∧ t < o.length := by rw [List.length_take] at ht; omega
  have e2 : o[t]? = some (x : Int) := by
    rw [List.getElem_take] at e
    rw [List.getElem?_eq_getElem ht'.2, e]
  obtain ⟨s, h1, h2⟩ := order_places h t x e2 p hp
  have h3 : (o.take k)[s]? = some p := by rw [List.getElem?_take_of_lt (by omega)]; exact h2
  exact List.mem_of_getElem? h3
/-- What the heads come to is all. -/
theorem heads_all {G : List (List Int)} {o F : List Int} (h : Pre G o) (hl : o.length = G.length) (hF : ∀ x : Nat, x < G.length → (∀ l ∈ G, (x : Int) ∉ l) → (x : Int) ∈ F) : ∀ x : Nat, x < G.length → Rch G F (x : Int) := by
  have key : ∀ (d t x : Nat), o.length - t ≤ d → o[t]? = some (x : Int) → Rch G F (x : Int) := by
    intro d
    induction d with
    | zero =>
      intro t x hd ht
      have := (List.getElem?_eq_some_iff.1 ht).1
      omega
    | succ d ih =>
      intro t x hd ht
      obtain ⟨x', hx', e⟩ := (h.facts).2.1 _ (List.mem_of_getElem? ht)
      have hxn : x < G.length := by omega
      by_cases hu : ∀ l ∈ G, (x : Int) ∉ l
      · exact .base (hF x hxn hu)
      · have : ∃ l, l ∈ G ∧ (x : Int) ∈ l := by
          refine Classical.byContradiction fun hno => hu fun l hl hx => hno ⟨l, hl, hx⟩
        obtain ⟨l, hlG, hxl⟩ := this
        obtain ⟨y, hy, rfl⟩ := List.mem_iff_getElem.1 hlG
        have hr : row G y = G[y] := by unfold row; rw [List.getElem?_eq_getElem hy]; rfl
        obtain ⟨u, hu2, e2⟩ := List.mem_iff_getElem.1 (order_all h hl y hy)
        have hu3 : o[u]? = some (y : Int) := by rw [List.getElem?_eq_getElem hu2, e2]
        obtain ⟨s, h1, h2⟩ := order_places h u y hu3 (x : Int) (by rw [hr]; exact hxl)
        have hst : s = t := by
          have hs := (List.getElem?_eq_some_iff.1 h2).1
          have htl := (List.getElem?_eq_some_iff.1 ht).1
          rw [List.getElem?_eq_getElem hs] at h2
          rw [List.getElem?_eq_getElem htl] at ht
          have e3 : o[s] = o[t] := by injection h2 with h2; injection ht with ht; rw [h2, ht]
          have hnd := List.pairwise_iff_getElem.1 h.facts.1
          rcases Nat.lt_trichotomy s t with hc | hc | hc
          · exact absurd e3 (hnd s t hs htl hc)
          · exact hc
          · exact absurd e3.symm (hnd t s htl hs hc)
        subst hst
        have ht' := (List.getElem?_eq_some_iff.1 ht).1
        exact .step (ih u y (by omega) hu3) (by rw [hr]; exact hxl)
  intro x hx
  obtain ⟨t, ht, e⟩ := List.mem_iff_getElem.1 (order_all h hl x hx)
  exact key o.length t x (by omega) (by rw [List.getElem?_eq_getElem ht, e])
theorem row_more (G : List (List Int)) (l : List Int) {x : Nat} (h : x < G.length) : row (G ++ [l]) x = row G x := by
  unfold row
  rw [List.getElem?_append_left h]
theorem Pre.more {G : List (List Int)} {o : List Int} (l : List Int) (h : Pre G o) : Pre (G ++ [l]) o := by
  induction h with
  | nil => exact .nil
  | @cons o x h hl hx ih =>
    obtain ⟨n1, n2, n3⟩ := next_some.1 hx
    have hlen : (G ++ [l]).length = G.length + 1 := by simp
    exact .cons ih (by omega) (next_some.2 ⟨⟨n1.1, by rw [row_more G l n2]; exact n1.2⟩, by omega, fun y hy hr => n3 y hy ⟨hr.1, fun p hp => hr.2 p (by rw [row_more G l (by omega)]; exact hp)⟩⟩)
/-- A node more, of whom all are parents, comes last. -/
theorem order_more {G : List (List Int)} {o : List Int} (h : orderN G = some o) : orderN (G ++ [o]) = some (o ++ [(G.length : Int)]) := by
  obtain ⟨h1, h2⟩ := order_some h
  have hlen : (G ++ [o]).length = G.length + 1 := by simp
  obtain ⟨f1, f2, f3⟩ := h1.facts
  refine Pre.done (.cons (h1.more o) (by omega) (next_some.2 ⟨⟨fun hm => ?_, fun p hp => ?_⟩, by omega, fun y hy hr => hr.1 (order_all h1 h2 y hy)⟩)) (by rw [hlen, List.length_append, List.length_singleton]; omega)
  · obtain ⟨y, hy, e⟩ := f2 _ hm
    omega
  · unfold row at hp
    rw [List.getElem?_append_right (Nat.le_refl _), Nat.sub_self] at hp
    exact hp
end Plain
end Go.Proofs.Ythadgepihjigeaa
