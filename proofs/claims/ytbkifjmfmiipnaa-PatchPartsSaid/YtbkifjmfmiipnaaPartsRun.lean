/- Printed rows of one hunk and of two. -/
import Derived.Test.YtbkifjmfmiipnaaPartsMath
namespace Go.Proofs.Ytbkifjmfmiipnaa
open Go.RowKit Plain
set_option linter.unusedVariables false
theorem new_two (w : World) (o o2 : Obj) : ((w.alloc o).alloc o2).heap[w.heap.size + 1]? = some o2 := by
  have := heap_alloc_new (w.alloc o) o2
  rwa [World.size_alloc] at this
theorem u64n_nat (p : Nat) (h : p < 18446744073709551616) : u64n (p : Int) = p := by unfold u64n; rw [IntKind.wrap_u64]; omega
theorem print_row2 (W : World) (p0 p1 p2 p3 : Nat) (a1 : Option Addr) (m1 c1 : Nat) (one : List Int) (a2 : Option Addr) (m2 c2 : Nat) (two : List Int) (hp0 : p0 ≤ 1000000) (hp1 : p1 ≤ 1000000) (hp2 : p2 ≤ 1000000) (hp3 : p3 ≤ 1000000)
    (B1 : Bytes W a1 m1 one) (l1 : m1 ≤ 1000000) (k1 : m1 ≤ c1) (n1 : a1 = none → c1 = 0) (B2 : Bytes W a2 m2 two) (l2 : m2 ≤ 1000000) (k2 : m2 ≤ c2) (n2 : a2 = none → c2 = 0) :
    Calls Try.prog 9 #[.slice (some ⟨W.heap.size, 0, none⟩) 2 2] (W.alloc (.cells #[.int .i64 (p0 : Int), .int .i64 (p1 : Int), .slice a1 m1 c1, .int .i64 (p2 : Int), .int .i64 (p3 : Int), .slice a2 m2 c2] 26)) fun e w' =>
      (∃ a c, e = .returned (.slice a (24 + m1 + m2) c) ∧ Own w' W.heap.size (.slice a (24 + m1 + m2) c) (24 + m1 + m2) (printOf [⟨p0, p1, one⟩, ⟨p2, p3, two⟩])) ∧ Below W.heap.size W w' := by
  have h2 := heap_alloc_new W (.cells #[.int .i64 (p0 : Int), .int .i64 (p1 : Int), .slice a1 m1 c1, .int .i64 (p2 : Int), .int .i64 (p3 : Int), .slice a2 m2 c2] 26)
  have b : Below W.heap.size W (W.alloc (.cells #[.int .i64 (p0 : Int), .int .i64 (p1 : Int), .slice a1 m1 c1, .int .i64 (p2 : Int), .int .i64 (p3 : Int), .slice a2 m2 c2] 26)) := (Below.refl _ _).alloc (Nat.le_refl _) _
  have hsz := World.size_alloc W (.cells #[.int .i64 (p0 : Int), .int .i64 (p1 : Int), .slice a1 m1 c1, .int .i64 (p2 : Int), .int .i64 (p3 : Int), .slice a2 m2 c2] 26)
  generalize (W.alloc (.cells #[.int .i64 (p0 : Int), .int .i64 (p1 : Int), .slice a1 m1 c1, .int .i64 (p2 : Int), .int .i64 (p3 : Int), .slice a2 m2 c2] 26)) = V at *
  have e1 := B1.1
  have e2 := B2.1
  have P : HunksAt V W.heap.size 0 [⟨p0, p1, a1, c1, one⟩, ⟨p2, p3, a2, c2, two⟩] := by
    intro j p hp
    match j, hp with
    | 0, hp =>
      simp at hp; subst hp
      exact ⟨by rw [cell_of_rowf V _ _ _ _ _ h2]; rfl, by rw [cell_of_rowf V _ _ _ _ _ h2]; rfl, by rw [cell_of_rowf V _ _ _ _ _ h2]; simp [e1], by rw [e1]; exact k1, n1, by rw [e1]; exact l1, by rw [e1]; exact B1.below b⟩
    | 1, hp =>
      simp at hp; subst hp
      exact ⟨by rw [cell_of_rowf V _ _ _ _ _ h2]; rfl, by rw [cell_of_rowf V _ _ _ _ _ h2]; rfl, by rw [cell_of_rowf V _ _ _ _ _ h2]; simp [e2], by rw [e2]; exact k2, n2, by rw [e2]; exact l2, by rw [e2]; exact B2.below b⟩
    | j + 2, hp => simp at hp
  refine (print_any _ 0 2 _ V (by simp) P (by omega)).mono ?_
  rintro e w' ⟨⟨a, n, c, rfl, ho⟩, hb⟩
  have hl : [(⟨p0, p1, a1, c1, one⟩ : HkM), ⟨p2, p3, a2, c2, two⟩].map hkM = [⟨p0, p1, one⟩, ⟨p2, p3, two⟩] := by
    simp [hkM, u64n_nat p0 (by omega), u64n_nat p1 (by omega), u64n_nat p2 (by omega), u64n_nat p3 (by omega)]
  rw [hl] at ho
  have hn : 24 + m1 + m2 = n := by
    have := ho.1
    rw [List.length_map, Nat.mul_one] at this
    rw [← this]
    simp [printOf, hkBytes_length, e1, e2]
    omega
  subst hn
  exact ⟨⟨a, c, rfl, ho.lower b.size⟩, b.trans (hb.mono b.size)⟩
theorem print_row1 (W : World) (p0 p1 : Nat) (a1 : Option Addr) (m1 c1 : Nat) (one : List Int) (hp0 : p0 ≤ 1000000) (hp1 : p1 ≤ 1000000)
    (B1 : Bytes W a1 m1 one) (l1 : m1 ≤ 1000000) (k1 : m1 ≤ c1) (n1 : a1 = none → c1 = 0) :
    Calls Try.prog 9 #[.slice (some ⟨W.heap.size, 0, none⟩) 1 1] (W.alloc (.cells #[.int .i64 (p0 : Int), .int .i64 (p1 : Int), .slice a1 m1 c1] 26)) fun e w' =>
      (∃ a c, e = .returned (.slice a (12 + m1) c) ∧ Own w' W.heap.size (.slice a (12 + m1) c) (12 + m1) (printOf [⟨p0, p1, one⟩])) ∧ Below W.heap.size W w' := by
  have h2 := heap_alloc_new W (.cells #[.int .i64 (p0 : Int), .int .i64 (p1 : Int), .slice a1 m1 c1] 26)
  have b : Below W.heap.size W (W.alloc (.cells #[.int .i64 (p0 : Int), .int .i64 (p1 : Int), .slice a1 m1 c1] 26)) := (Below.refl _ _).alloc (Nat.le_refl _) _
  have hsz := World.size_alloc W (.cells #[.int .i64 (p0 : Int), .int .i64 (p1 : Int), .slice a1 m1 c1] 26)
  generalize (W.alloc (.cells #[.int .i64 (p0 : Int), .int .i64 (p1 : Int), .slice a1 m1 c1] 26)) = V at *
  have e1 := B1.1
  have P : HunksAt V W.heap.size 0 [⟨p0, p1, a1, c1, one⟩] := by
    intro j p hp
    match j, hp with
    | 0, hp =>
      simp at hp; subst hp
      exact ⟨by rw [cell_of_rowf V _ _ _ _ _ h2]; rfl, by rw [cell_of_rowf V _ _ _ _ _ h2]; rfl, by rw [cell_of_rowf V _ _ _ _ _ h2]; simp [e1], by rw [e1]; exact k1, n1, by rw [e1]; exact l1, by rw [e1]; exact B1.below b⟩
    | j + 1, hp => simp at hp
  refine (print_any _ 0 1 _ V (by simp) P (by omega)).mono ?_
  rintro e w' ⟨⟨a, n, c, rfl, ho⟩, hb⟩
  have hl : [(⟨p0, p1, a1, c1, one⟩ : HkM)].map hkM = [⟨p0, p1, one⟩] := by
    simp [hkM, u64n_nat p0 (by omega), u64n_nat p1 (by omega)]
  rw [hl] at ho
  have hn : 12 + m1 = n := by
    have := ho.1
    rw [List.length_map, Nat.mul_one] at this
    rw [← this]
    simp [printOf, hkBytes_length, e1]
  subst hn
  exact ⟨⟨a, c, rfl, ho.lower b.size⟩, b.trans (hb.mono b.size)⟩
theorem own_cap {w : World} {base : Nat} {a : Option Addr} {n c : Nat} {xs : List Int} (h : Own w base (.slice a n c) n xs) : n ≤ c := by
  obtain ⟨a', c', e, h1, h2, -⟩ := h.shape
  simp only [Value.slice.injEq, true_and] at e
  obtain ⟨rfl, rfl⟩ := e
  exact h1
theorem hk_range (h : Hk) (hy : ∀ x ∈ h.ys, 0 ≤ x ∧ x ≤ 255) : ∀ x ∈ hkBytes h, 0 ≤ x ∧ x ≤ 255 := by
  intro x hx
  unfold hkBytes at hx
  simp only [List.mem_append] at hx
  rcases hx with ((h1 | h1) | h1) | h1
  · exact be4_bytes _ x h1
  · exact be4_bytes _ x h1
  · exact be4_bytes _ x h1
  · exact hy x h1
theorem print_range (l : List Hk) (hl : ∀ h ∈ l, ∀ x ∈ h.ys, 0 ≤ x ∧ x ≤ 255) (j : Nat) : 0 ≤ (printOf l)[j]?.getD 0 ∧ (printOf l)[j]?.getD 0 ≤ 255 := by
  refine range_of_mem ?_ j
  intro x hx
  obtain ⟨h, hh, hx⟩ := List.mem_flatMap.1 hx
  exact hk_range h (hl h hh) x hx
end Go.Proofs.Ytbkifjmfmiipnaa
