/- The chapter's examples: the walk. -/
import Derived.Test.YtcajcnceomimhaaHex
import Derived.Test.YtcajcnceomimhaaSum
namespace Go.Proofs.Ytcajcnceomimhaa
open Go.RowKit Plain
set_option linter.unusedVariables false
theorem hex_empty : hexOf (tbs (sumOf [])) = [100, 97, 51, 57, 97, 51, 101, 101, 53, 101, 54, 98, 52, 98, 48, 100, 51, 50, 53, 53, 98, 102, 101, 102, 57, 53, 54, 48, 49, 56, 57, 48, 97, 102, 100, 56, 48, 55, 48, 57] := by decide +kernel
theorem hex_abc : hexOf (tbs (sumOf [97, 98, 99])) = [97, 57, 57, 57, 51, 101, 51, 54, 52, 55, 48, 54, 56, 49, 54, 97, 98, 97, 51, 101, 50, 53, 55, 49, 55, 56, 53, 48, 99, 50, 54, 99, 57, 99, 100, 48, 100, 56, 57, 100] := by decide +kernel
theorem hexSum_any (s : Five) (w : World) : Calls Try.prog 11 #[.agg (idTo s 20)] w fun e w' => e = .returned (.string ⟨(hexOf (tbs s)).toArray⟩) ∧ Below w.heap.size w w' := by
  rw [idTo_tbs]
  exact hex_any _ w (tbs_length s) (tbs_bytes s)
def abcMem (w : World) : World := ((w.alloc (.cells #[Value.int .u8 97] 5 (1, 2))).alloc (.cells #[Value.int .u8 98, Value.int .u8 99] 5 (2, 3))).alloc (.cells #[Value.slice (some ⟨w.heap.size, 0, none⟩) 1 1, Value.slice (some ⟨w.heap.size + 1, 0, none⟩) 2 2] 22)
theorem abcMem_below (w : World) : Below w.heap.size w (abcMem w) := (((Below.refl _ _).alloc (Nat.le_refl _) _).alloc (by simp) _).alloc (by simp; omega) _
theorem sum_abc (w : World) :
    Calls Try.prog 9 #[.slice (some ⟨w.heap.size + 1 + 1, 0, none⟩) 2 2] (abcMem w) fun e w' => e = .returned (.agg (idTo (sumOf [97, 98, 99]) 20)) ∧ Below w.heap.size w w' := by
  have h3 : (abcMem w).heap[w.heap.size]? = some (.cells #[Value.int .u8 97] 5 (1, 2)) ∧ (abcMem w).heap[w.heap.size + 1]? = some (.cells #[Value.int .u8 98, Value.int .u8 99] 5 (2, 3)) ∧ (abcMem w).heap[w.heap.size + 1 + 1]? = some (.cells #[Value.slice (some ⟨w.heap.size, 0, none⟩) 1 1, Value.slice (some ⟨w.heap.size + 1, 0, none⟩) 2 2] 22 (0, 0)) := by
    unfold abcMem
    refine ⟨?_, ?_, ?_⟩
    · rw [Below.heap_alloc _ _ _ (by simp; omega), Below.heap_alloc _ _ _ (by simp), heap_alloc_new]
    · rw [Below.heap_alloc _ _ _ (by simp)]
      simpa using heap_alloc_new (w.alloc (.cells #[Value.int .u8 97] 5 (1, 2))) (.cells #[Value.int .u8 98, Value.int .u8 99] 5 (2, 3))
    · simpa using heap_alloc_new ((w.alloc (.cells #[Value.int .u8 97] 5 (1, 2))).alloc (.cells #[Value.int .u8 98, Value.int .u8 99] 5 (2, 3))) (.cells #[Value.slice (some ⟨w.heap.size, 0, none⟩) 1 1, Value.slice (some ⟨w.heap.size + 1, 0, none⟩) 2 2] 22)
  obtain ⟨h0, h1, h2⟩ := h3
  have b := abcMem_below w
  generalize abcMem w = W at *
  have row : ∀ (g : Nat) (xs : List Int) (fz : Nat × Nat), W.heap[g]? = some (.cells (xs.map (Value.int .u8)).toArray 5 fz) → (∀ x ∈ xs, 0 ≤ x ∧ x ≤ 255) → xs.length ≤ 9223372036854775807 → Bytes W (some ⟨g, 0, none⟩) xs.length xs := fun g xs fz h hx hl =>
    ⟨rfl, hl, getD_bytes xs hx, .inr ⟨g, 0, rfl, fun j hj => by rw [cell_of_row W g (0 + j) _ _ _ h]; simp [hj]⟩⟩
  have P : PartsAt W (w.heap.size + 1 + 1) 0 [⟨some ⟨w.heap.size, 0, none⟩, 1, [97]⟩, ⟨some ⟨w.heap.size + 1, 0, none⟩, 2, [98, 99]⟩] := by
    intro j p hp
    match j, hp with
    | 0, hp =>
      simp at hp; subst hp
      exact ⟨by rw [cell_of_row W _ _ _ _ _ h2]; rfl, by simp, row w.heap.size [97] (1, 2) h0 (by decide) (by decide)⟩
    | 1, hp =>
      simp at hp; subst hp
      exact ⟨by rw [cell_of_row W _ _ _ _ _ h2]; rfl, by simp, row (w.heap.size + 1) [98, 99] (2, 3) h1 (by decide) (by decide)⟩
    | j + 2, hp => simp at hp
  refine (sum_any _ _ 2 _ W (by simp) (by simp) (by simp [allBytes]) P).mono ?_
  rintro e w' ⟨rfl, hb⟩
  exact ⟨rfl, b.trans (hb.mono b.size)⟩
set_option maxRecDepth 100000 in
set_option maxHeartbeats 4000000 in
theorem known_any (w : World) : Calls Try.prog 8 #[] w fun e w' => e = .returned (.bool true) ∧ Below w.heap.size w w' := by
  have hcv := fun (w : World) (C : Array Value) (n c g : Nat) (hg : g = w.heap.size) => Joins.run_convert_bytes_const_at (P := Try.prog) w 22 5 C n c g hg Try.underlying22 Try.underlying5
  go_enter Try.func8, Try.ntmps8
  go_wp2_with fail
  refine (sum_nil w).mono ?_
  rintro e w1 ⟨rfl, hb1⟩
  go_wp2_with fail
  refine (hexSum_any _ w1).mono ?_
  rintro e w2 ⟨rfl, hb2⟩
  rw [hex_empty]
  go_wp2_with fail
  refine (sum_abc w2).mono ?_
  rintro e w3 ⟨rfl, hb3⟩
  go_wp2_with fail
  refine (hexSum_any _ w3).mono ?_
  rintro e w4 ⟨rfl, hb4⟩
  rw [hex_abc]
  go_wp2_with fail
  go_ret
  exact ⟨rfl, ((hb1.trans (hb2.mono hb1.size)).trans (hb3.mono (Nat.le_trans hb1.size hb2.size))).trans (hb4.mono (Nat.le_trans (Nat.le_trans hb1.size hb2.size) hb3.size))⟩
end Go.Proofs.Ytcajcnceomimhaa
