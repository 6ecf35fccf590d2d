/- A hunk in a box of its own; printed rows' sizes. -/
import Derived.Test.YtbkifjmfmiipnaaHunks
namespace Go.Proofs.Ytbkifjmfmiipnaa
open Go.RowKit Plain
set_option linter.unusedVariables false
theorem own_box (w : World) (base : Nat) (hb : base ≤ w.heap.size) (fr to : Int) (a : Option Addr) (m c : Nat) (ys : List Int) (hm : ys.length = m) :
    OwnH (w.alloc (.cells #[.int .i64 fr, .int .i64 to, .slice a m c] 26)) base (.slice (some ⟨w.heap.size, 0, none⟩) 1 1) 1 [⟨fr, to, a, c, ys⟩] := by
  subst hm
  exact ⟨rfl, .inr ⟨w.heap.size, 1, _, rfl, hb, heap_alloc_new w _, Nat.le_refl _, by unfold maxLen; omega, rfl, rfl⟩⟩
theorem OwnH.drew {w : World} {base : Nat} {v : Value} {n : Nat} {l : List HkM} (h : OwnH w base v n l) : OwnH w.drew base v n l := h
theorem box_cells {w : World} {base g : Nat} {fr to : Int} {a : Option Addr} {m c : Nat} {ys : List Int} (hm : ys.length = m) (h : OwnH w base (.slice (some ⟨g, 0, none⟩) 1 1) 1 [⟨fr, to, a, c, ys⟩]) :
    w.cell? ⟨g, 0, none⟩ = some (.int .i64 fr) ∧ w.cell? ⟨g, 1, none⟩ = some (.int .i64 to) ∧ w.cell? ⟨g, 2, none⟩ = some (.slice a m c) := by
  subst hm
  obtain ⟨h1, ⟨h2, _⟩ | ⟨g', cap, cur, e, h3, h4, h5, h6, h7, h8⟩⟩ := h
  · cases h2
  · simp only [Value.slice.injEq, Option.some.injEq, Addr.mk.injEq, true_and, and_true] at e
    obtain ⟨rfl, rfl⟩ := e
    have hc : ∀ i, i < 3 → w.cell? ⟨g, i, none⟩ = (hkCells ⟨fr, to, a, c, ys⟩)[i]? := by
      intro i hi
      have := hksFlat_get [⟨fr, to, a, c, ys⟩] 0 i _ rfl hi
      rw [cell_of_row w g _ cur _ h4, ← this, ← h8, List.getElem?_take_of_lt (by omega), Array.getElem?_toList, Nat.zero_mul, Nat.zero_add]
    exact ⟨hc 0 (by omega), hc 1 (by omega), hc 2 (by omega)⟩
def shM (F : Nat) (h : HkM) : HkM := ⟨h.fr + F, h.to + F, h.a, h.c, h.ys⟩
/-- What holds of each hunk that has been gathered. -/
def EndFine (w : World) (l : List HkM) : Prop := ∀ h ∈ l, (0 ≤ h.fr ∧ h.fr ≤ 5000) ∧ (0 ≤ h.to ∧ h.to ≤ 5000) ∧ h.ys.length ≤ 100 ∧ h.ys.length ≤ h.c ∧ (h.a = none → h.c = 0) ∧ Bytes w h.a h.ys.length h.ys
theorem EndFine.fine {w w' : World} {l : List HkM} (h : EndFine w l) (hb : Below w.heap.size w w') : HkFine w' l := fun k hk => by
  obtain ⟨-, -, h3, h4, h5, h6⟩ := h k hk
  exact ⟨h4, h5, by omega, h6.below hb⟩
theorem EndFine.fineS {w w' : World} {l : List HkM} (F : Nat) (h : EndFine w l) (hb : Below w.heap.size w w') : HkFine w' (l.map (shM F)) := fun k hk => by
  obtain ⟨x, hx, rfl⟩ := List.mem_map.1 hk
  obtain ⟨-, -, h3, h4, h5, h6⟩ := h x hx
  exact ⟨h4, h5, by show x.ys.length ≤ _; omega, h6.below hb⟩
theorem print_len (l : List Hk) (h : ∀ k ∈ l, k.ys.length ≤ 100) : (printOf l).length ≤ 112 * l.length := by
  induction l with
  | nil => simp [printOf]
  | cons x t ih =>
    have h1 := ih (fun k hk => h k (by simp [hk]))
    have h2 := h x (by simp)
    show (hkBytes x ++ printOf t).length ≤ _
    rw [List.length_append, hkBytes_length, List.length_cons]
    omega
theorem shM_hk {w : World} {l : List HkM} (F : Nat) (hF : F ≤ 100) (h : EndFine w l) : (l.map (shM F)).map hkM = (l.map hkM).map (shH F) := by
  rw [List.map_map, List.map_map]
  apply List.map_congr_left
  intro k hk
  obtain ⟨h1, h2, -⟩ := h k hk
  show hkM (shM F k) = shH F (hkM k)
  unfold hkM shM shH
  simp only [Hk.mk.injEq, and_true]
  unfold u64n
  rw [IntKind.wrap_u64, IntKind.wrap_u64, IntKind.wrap_u64, IntKind.wrap_u64]
  omega
theorem hkM_fine {w : World} {l : List HkM} (h : EndFine w l) : ∀ k ∈ l.map hkM, k.fr ≤ 5000 ∧ k.to ≤ 5000 ∧ k.ys.length ≤ 100 := by
  intro k hk
  obtain ⟨x, hx, rfl⟩ := List.mem_map.1 hk
  obtain ⟨h1, h2, h3, -⟩ := h x hx
  refine ⟨?_, ?_, h3⟩
  · show u64n x.fr ≤ 5000
    unfold u64n; rw [IntKind.wrap_u64]; omega
  · show u64n x.to ≤ 5000
    unfold u64n; rw [IntKind.wrap_u64]; omega
theorem hkM_range {w : World} {l : List HkM} (h : EndFine w l) : ∀ k ∈ l.map hkM, ∀ x ∈ k.ys, 0 ≤ x ∧ x ≤ 255 := by
  intro k hk
  obtain ⟨x, hx, rfl⟩ := List.mem_map.1 hk
  exact getD_bytes4 (h x hx).2.2.2.2.2
theorem sub_mem {xs : List Int} {o n : Nat} {x : Int} (h : x ∈ sub xs o n) : x ∈ xs := List.mem_of_mem_drop (List.mem_of_mem_take h)
theorem applyGo_range (base : List Int) (hb : ∀ x ∈ base, 0 ≤ x ∧ x ≤ 255) : ∀ (l : List (Option Hk)) (p : Nat) (out : List Int), (∀ h, some h ∈ l → ∀ x ∈ h.ys, 0 ≤ x ∧ x ≤ 255) → (∀ x ∈ out, 0 ≤ x ∧ x ≤ 255) → ∀ x ∈ (applyGo base l p out).2, 0 ≤ x ∧ x ≤ 255
  | [], p, out, hl, ho, x, hx => by
    simp only [applyGo, List.mem_append] at hx
    rcases hx with h | h
    · exact ho x h
    · exact hb x (List.mem_of_mem_drop h)
  | none :: t, p, out, hl, ho, x, hx => by simp [applyGo] at hx
  | some k :: t, p, out, hl, ho, x, hx => by
    rw [applyGo] at hx
    split at hx
    · simp at hx
    · refine applyGo_range base hb t k.to (out ++ sub base p (k.fr - p) ++ k.ys) (fun h hh => hl h (by simp [hh])) (fun z hz => ?_) x hx
      simp only [List.mem_append] at hz
      rcases hz with (h | h) | h
      · exact ho z h
      · exact hb z (sub_mem h)
      · exact hl k (by simp) z h
theorem applyOf_range (base : List Int) (hs : List Hk) (most : Int) (hb : ∀ x ∈ base, 0 ≤ x ∧ x ≤ 255) (hl : ∀ h ∈ hs, h.ys.length ≤ 100) (hy : ∀ h ∈ hs, ∀ x ∈ h.ys, 0 ≤ x ∧ x ≤ 255) : ∀ x ∈ (applyOf base (printOf hs) most).2, 0 ≤ x ∧ x ≤ 255 := by
  have h1 : ∀ x ∈ (applyGo base (hunksOf (printOf hs)) 0 []).2, 0 ≤ x ∧ x ≤ 255 := by
    refine applyGo_range base hb _ 0 [] (fun h hh => ?_) (by simp)
    rw [hunksOf_print hs (fun k hk => by have := hl k hk; omega)] at hh
    obtain ⟨k, hk, e⟩ := List.mem_map.1 hh
    cases e
    exact hy k hk
  intro x hx
  unfold applyOf at hx
  split at hx
  · split at hx
    · simp at hx
    · exact h1 x hx
  · exact h1 x hx
theorem applyOf_len (base : List Int) (hs : List Hk) (most : Int) (hl : ∀ h ∈ hs, h.ys.length ≤ 100) : (applyOf base (printOf hs) most).2.length ≤ base.length + 100 * hs.length := by
  have h0 := hunksOf_print hs (fun k hk => by have := hl k hk; omega)
  have h1 := applyGo_len base (hunksOf (printOf hs)) 0 [] (by omega) (fun h hh => by
    rw [h0] at hh
    obtain ⟨k, hk, e⟩ := List.mem_map.1 hh
    cases e
    exact hl k hk)
  rw [h0, List.length_map] at h1
  simp only [List.length_nil, Nat.sub_zero, Nat.zero_add] at h1
  unfold applyOf
  rw [h0]
  split
  · split
    · simp
    · exact h1
  · exact h1
end Go.Proofs.Ytbkifjmfmiipnaa
