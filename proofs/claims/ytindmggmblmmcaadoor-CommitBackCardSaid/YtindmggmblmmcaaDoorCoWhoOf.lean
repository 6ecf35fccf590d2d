/- The law's whoOf: the walk. -/
import Derived.Test.YtindmggmblmmcaaDoorCoGuess
namespace Go.Proofs.YtindmggmblmmcaaDoor
open Go.RowKit Plain
set_option linter.unusedVariables false
set_option linter.unusedSimpArgs false
set_option maxRecDepth 100000 in
set_option maxHeartbeats 8000000 in
theorem whoof_any (x : WX) (w : World) : Calls Tryd.prog 23 #[.agg (whoA x)] w fun e w' => e = .returned (.agg (whoA x)) ∧ Below w.heap.size w w' := by
  have HB : Hid (Below w.heap.size w ((w.alloc (.cells (whoA x) 32)).alloc (.cells #[.string ⟨#[]⟩, .string ⟨#[]⟩, .int .i64 0, .string ⟨#[]⟩] 25))) := ((Below.refl _ _).alloc (Nat.le_refl _) _).alloc (by simp) _
  have HR0 : Hid (((w.alloc (.cells (whoA x) 32)).alloc (.cells #[.string ⟨#[]⟩, .string ⟨#[]⟩, .int .i64 0, .string ⟨#[]⟩] 25)).heap[w.heap.size]? = some (.cells (whoA x) 32 (0, 0))) := (Below.heap_alloc _ _ _ (by simp)).trans (heap_alloc_new _ _)
  have HZ : Hid (((w.alloc (.cells (whoA x) 32)).alloc (.cells #[.string ⟨#[]⟩, .string ⟨#[]⟩, .int .i64 0, .string ⟨#[]⟩] 25)).heap[w.heap.size + 1]? = some (.cells #[.string ⟨#[]⟩, .string ⟨#[]⟩, .int .i64 0, .string ⟨#[]⟩] 25 (0, 0))) := by
    have h := heap_alloc_new (w.alloc (.cells (whoA x) 32)) (.cells #[.string ⟨#[]⟩, .string ⟨#[]⟩, .int .i64 0, .string ⟨#[]⟩] 25)
    rw [show (w.alloc (.cells (whoA x) 32)).heap.size = w.heap.size + 1 by simp] at h
    exact h
  obtain ⟨hc0, hc1, hc2, hc3⟩ := who_cell HR0.out
  go_enter Tryd.func23, Tryd.ntmps23
  go_wp2_with (first
    | refine wpList_buildQ rfl 25 _ rfl #[(0, .string x.n), (1, .string x.m), (2, .int .i64 x.t), (3, .string x.z)] (map_four _ _ _ _ _ _ _ _ _ rfl rfl rfl rfl) _ (build_rwho _ _ _ _) ?_
    | refine wpList_store_row rfl 25 _ _ rfl (w.heap.size + 1) (whoA x) rfl rfl 25 #[.string ⟨#[]⟩, .string ⟨#[]⟩, .int .i64 0, .string ⟨#[]⟩] HZ.out (info_rwho _) rfl (who_one _) ?_)
  refine bodyPost_ret (results_cell_row Tryd.results23 _ _ (w.heap.size + 1) 25 (whoA x) (0, 0) _ rfl (setRow_heap _ _ _ _ _ _ HZ.out) Tryd.underlying25 rfl (info_rwho _)) rfl ⟨rfl, below_setRow HB.out (by omega) _⟩
end Go.Proofs.YtindmggmblmmcaaDoor
