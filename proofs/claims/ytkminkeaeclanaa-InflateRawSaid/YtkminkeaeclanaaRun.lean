/- halt.Run: what its deferred closure does, in both ways. -/
import Derived.Test.YtkminkeaeclanaaState
import Derived.Defers
import Derived.Recover
import Derived.Laws.Pointers
namespace Go.Proofs.Ytkminkeaeclanaa
open Go.RowKit
set_option linter.unusedVariables false
set_option maxRecDepth 100000 in
theorem catch_idle (p : Addr) (w : World) :
    CallsD Try.prog 27 #[.pointer (some p)] .returning w fun e u' w' => e = .returned (.tuple #[]) ∧ u' = .returning ∧ w' = w := by
  refine callsD_of_wpS Try.func27 rfl fun c₀ cs hu => ?_
  apply wpS_seq
  apply wpS_region
  simp only [Try.ntmps27, List.size_toArray, List.length_cons, List.length_nil, Nat.reduceAdd, Nat.reduceSub, Array.replicate_succ, Array.replicate_zero, List.push_toArray, List.append_toArray, List.nil_append, List.cons_append]
  generalize hN : Code.wpS Try.prog _ _ = next
  simp [wpOpsS, go_sem, recoverD, hu, Exit.thenS]
  rw [← hN]
  clear hN
  refine wpS_of_wp ?_
  go_wp2_with fail
  have hr : ∀ t : Array Value, (results Try.f27 t).run Try.prog w = .ok (.tuple #[]) w := fun t => results_none rfl _ _ _
  exact ⟨rfl, .returning, by rw [← hu], _, hr _, rfl, rfl, rfl⟩
set_option maxRecDepth 100000 in
theorem catch_fault (p : Nat) (old k : Nat) (older : List PanicEntry) (w : World) (hh : w.heap[p]? = some (.cells #[.int .i64 (old : Int)] 23 (0, 0))) :
    CallsD Try.prog 27 #[.pointer (some ⟨p, 0, none⟩)] (.panicking ({ v := .iface 55 (.agg #[.int .i64 (k : Int)]), recovered := false } :: older)) w fun e u' w' =>
      e = .returned (.tuple #[]) ∧ u' = .panicking ({ v := .iface 55 (.agg #[.int .i64 (k : Int)]), recovered := true } :: older) ∧ w' = (w.alloc (.cells #[.int .i64 (k : Int)] 55)).setCell ⟨p, 0, none⟩ (.int .i64 (k : Int)) := by
  have hta : ∀ w : World, (Instr.typeAssert (.iface 55 (.agg #[.int .i64 (k : Int)])) 20 55 true).run Try.prog w = .ok (.tuple #[.agg #[.int .i64 (k : Int)], .bool true]) w := fun _ => rfl
  have h3 : (w.alloc (.cells #[.int .i64 (k : Int)] 55)).heap[p]? = some (.cells #[.int .i64 (old : Int)] 23 (0, 0)) := (((Below.refl _ w).alloc (Nat.le_refl _) _).block p (Array.getElem?_eq_some_iff.1 hh).1).trans hh
  have hc : (w.alloc (.cells #[.int .i64 (k : Int)] 55)).cell? ⟨p, 0, none⟩ = some (.int .i64 (old : Int)) := by rw [cell_row0 _ _ _ _ _ _ h3]; rfl
  have hz : (w.alloc (.cells #[.int .i64 (k : Int)] 55)).frozen? ⟨p, 0, none⟩ = false := by simp [World.frozen?, h3]
  clear h3 hh
  refine callsD_of_wpS Try.func27 rfl fun c₀ cs hu => ?_
  apply wpS_seq
  apply wpS_region
  simp only [Try.ntmps27, List.size_toArray, List.length_cons, List.length_nil, Nat.reduceAdd, Nat.reduceSub, Array.replicate_succ, Array.replicate_zero, List.push_toArray, List.append_toArray, List.nil_append, List.cons_append]
  generalize hN : Code.wpS Try.prog _ _ = next
  simp [wpOpsS, go_sem, recoverD, hu, Exit.thenS]
  rw [← hN]
  clear hN
  refine wpS_of_wp ?_
  go_wp2_with fail
  have hr : ∀ (t : Array Value) (w : World), (results Try.f27 t).run Try.prog w = .ok (.tuple #[]) w := fun t _ => results_none rfl _ _ _
  exact ⟨rfl, _, rfl, _, hr _ _, rfl, rfl, rfl⟩
end Go.Proofs.Ytkminkeaeclanaa
