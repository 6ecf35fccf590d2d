/- What is told by a delta are bytes; the error's number is small. -/
import Derived.Test.YtkpnmagcmpljoaaRefMath
namespace Go.Proofs.Ytkpnmagcmpljoaa
namespace Plain
theorem gat_mem (c : Nat) : ∀ (f i : Nat) (d : List Int) (x : Nat), ∀ y t, gat c f i d x = some (y, t) → ∀ z ∈ t, z ∈ d
  | 0, i, d, x, y, t, h => by simp [gat] at h; rw [h.2]; exact fun z hz => hz
  | f + 1, i, [], x, y, t, h => by
    simp only [gat] at h
    split at h
    · exact gat_mem c f _ _ _ _ _ h
    · simp at h
  | f + 1, i, u :: v, x, y, t, h => by
    simp only [gat] at h
    split at h
    · exact gat_mem c f _ _ _ _ _ h
    · exact fun z hz => List.mem_cons_of_mem _ (gat_mem c f _ _ _ _ _ h z hz)
theorem sub_mem {xs : List Int} {o n : Nat} {x : Int} (h : x ∈ sub xs o n) : x ∈ xs := List.mem_of_mem_drop (List.mem_of_mem_take h)
theorem stepOf_mem (base rest : List Int) : (∀ z ∈ (stepOf base rest).2.1, z ∈ base ∨ z ∈ rest) ∧ (∀ z ∈ (stepOf base rest).2.2, z ∈ rest) ∧ (stepOf base rest).1 ≤ 4 := by
  cases rest with
  | nil => simp [stepOf]
  | cons c t =>
    simp only [stepOf]
    split
    · unfold copyOf
      cases hg : gat c.toNat 7 0 t 0 with
      | none => simp
      | some p =>
        obtain ⟨x, u⟩ := p
        simp only
        split
        · simp
        · exact ⟨fun z hz => .inl (sub_mem hz), fun z hz => List.mem_cons_of_mem _ (gat_mem _ _ _ _ _ _ _ hg z hz), by simp⟩
    · split
      · simp
      · split
        · simp
        · exact ⟨fun z hz => .inr (List.mem_cons_of_mem _ (List.mem_of_mem_take hz)), fun z hz => List.mem_cons_of_mem _ (List.mem_of_mem_drop hz), by simp⟩
theorem stepsGo_range (base : List Int) (b : Nat) (hb : ∀ x ∈ base, 0 ≤ x ∧ x ≤ 255) : ∀ (f : Nat) (rest out : List Int), (∀ x ∈ rest, 0 ≤ x ∧ x ≤ 255) → (∀ x ∈ out, 0 ≤ x ∧ x ≤ 255) → (∀ x ∈ (stepsGo base b f rest out).2, 0 ≤ x ∧ x ≤ 255) ∧ (stepsGo base b f rest out).1 ≤ 4
  | 0, rest, out, h1, h2 => by simp [stepsGo]
  | f + 1, rest, out, h1, h2 => by
    obtain ⟨g1, g2, g3⟩ := stepOf_mem base rest
    simp only [stepsGo]
    split
    · split
      · simp
      · exact ⟨h2, by simp⟩
    · split
      · exact ⟨by simp, g3⟩
      · split
        · simp
        · refine stepsGo_range base b hb f _ _ (fun x hx => h1 x (g2 x hx)) (fun x hx => ?_)
          rcases List.mem_append.1 hx with hx | hx
          · exact h2 x hx
          · rcases g1 x hx with h | h
            · exact hb x h
            · exact h1 x h
theorem applyOf_range (base d : List Int) (most : Int) (hb : ∀ x ∈ base, 0 ≤ x ∧ x ≤ 255) (hd : ∀ x ∈ d, 0 ≤ x ∧ x ≤ 255) : (∀ x ∈ (applyOf base d most).2, 0 ≤ x ∧ x ≤ 255) ∧ (applyOf base d most).1 ≤ 4 := by
  have h3 := sizesOf_le d
  unfold applyOf
  split
  · exact ⟨by simp, by simp only; omega⟩
  · split
    · simp
    · split
      · simp
      · exact stepsGo_range _ _ hb _ _ _ (fun x hx => hd x (List.mem_of_mem_drop hx)) (by simp)
end Plain
theorem getD_bytes4 {w : World} {a : Option Addr} {m : Nat} {xs : List Int} (h : Bytes w a m xs) : ∀ x ∈ xs, 0 ≤ x ∧ x ≤ 255 := by
  intro x hx
  obtain ⟨j, hj, rfl⟩ := List.mem_iff_getElem.1 hx
  have := h.2.2.1 j
  rwa [List.getElem?_eq_getElem hj] at this
end Go.Proofs.Ytkpnmagcmpljoaa
