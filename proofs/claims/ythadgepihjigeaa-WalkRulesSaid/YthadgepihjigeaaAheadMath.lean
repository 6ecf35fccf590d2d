/- Graphs whose parents are ahead have an order: maths. -/
import Derived.Test.YthadgepihjigeaaLawCloses
namespace Go.Proofs.Ythadgepihjigeaa
open Plain
set_option linter.unusedVariables false
namespace Plain
def Ahead (G : List (List Int)) : Prop := ∀ x, x < G.length → ∀ p ∈ row G x, ∃ y : Nat, y < x ∧ p = (y : Int)
theorem Ahead.ready {G : List (List Int)} (h : Ahead G) {o : List Int} (hn : next G o = none) : ∀ x, x < G.length → (x : Int) ∈ o := by
  intro x
  induction x using Nat.strongRecOn with
  | _ x ih =>
    intro hx
    refine Classical.byContradiction fun hno => ?_
    exact next_none.1 hn x hx ⟨hno, fun p hp => by
      obtain ⟨y, hy, rfl⟩ := h x hx p hp
      exact ih y hy (by omega)⟩
theorem all_len {o : List Int} {n : Nat} (h : ∀ x, x < n → (x : Int) ∈ o) : n ≤ o.length := by
  have h1 : ((List.range n).map (fun i : Nat => (i : Int))) ⊆ o := fun v hv => by
    obtain ⟨y, hy, rfl⟩ := List.mem_map.1 hv
    exact h y (List.mem_range.1 hy)
  have h3 : ((List.range n).map (fun i : Nat => (i : Int))).Nodup := by
    rw [List.nodup_iff_pairwise_ne, List.pairwise_map]
    exact (List.nodup_iff_pairwise_ne.1 List.nodup_range).imp fun hab e => hab (by omega)
  have h2 := List.Nodup.length_le_of_subset h3 h1
  simpa using h2
theorem Ahead.run {G : List (List Int)} (h : Ahead G) : ∀ (f : Nat) (o : List Int), Pre G o → G.length ≤ o.length + f → ∃ r, Plain.run G f o = some r
  | 0, o, hp, hl => ⟨o, by rw [Plain.run, if_pos (by omega)]⟩
  | f + 1, o, hp, hl => by
    rw [Plain.run]
    split
    · exact ⟨o, rfl⟩
    · cases hx : next G o with
      | none =>
        have := all_len (h.ready hx)
        omega
      | some x => exact h.run f _ (.cons hp (by omega) hx) (by rw [List.length_append, List.length_singleton]; omega)
theorem Ahead.order {G : List (List Int)} (h : Ahead G) : ∃ o, orderN G = some o := h.run _ _ .nil (by simp)
/-- All nodes stand in the order. -/
theorem order_all {G : List (List Int)} {o : List Int} (h : Pre G o) (hl : o.length = G.length) : ∀ x : Nat, x < G.length → (x : Int) ∈ o := fun x hx => by
  obtain ⟨f1, f2, f3⟩ := h.facts
  refine Classical.byContradiction fun hno => ?_
  have h1 : ((x : Int) :: o).length ≤ G.length := nodup_len (by rw [List.nodup_cons]; exact ⟨hno, f1⟩) fun v hv => by
    rcases List.mem_cons.1 hv with rfl | hv
    · exact ⟨x, hx, rfl⟩
    · exact f2 v hv
  rw [List.length_cons] at h1
  omega
end Plain
theorem ahead_row (G : List (List Int)) (x : Nat) : row (aheadN G) x = aheadRow x (row G x) := by
  unfold row aheadN
  rw [List.getElem?_mapIdx]
  cases G[x]? with
  | none =>
    show [] = aheadRow x []
    unfold aheadRow
    split <;> rfl
  | some l => rfl
theorem ahead_is (G : List (List Int)) : Ahead (aheadN G) := fun x hx p hp => by
  rw [ahead_row] at hp
  unfold aheadRow at hp
  split at hp
  · simp at hp
  · obtain ⟨y, -, rfl⟩ := List.mem_map.1 hp
    have h := modI_lt x y (by omega)
    exact ⟨(modI x y).toNat, by omega, by omega⟩
end Go.Proofs.Ythadgepihjigeaa
