/- The document's Same, of the same data twice: the walk. -/
import Derived.Test.YtkpiinjhcckhfaaGreatDoorChTo
import Derived.Laws.StructEq
namespace Go.Proofs.YtkpiinjhcckhfaaGreatDoor
open Go.RowKit Plain Go.ChangeShapes Go.WideShapes Go.ChangeAt Go.Great
set_option linter.unusedVariables false
set_option linter.unusedSimpArgs false
theorem eqFields_self (P : Program) (w : World) (d : Nat) (X : Array Value) : ∀ fs : List Field, (∀ f ∈ fs, f.name ≠ "_" ∧ ∃ v, (part f.type X f.offset).run P w = .ok v w ∧ (Op.equalIn d f.type v v).run P w = .ok true w) →
    (Op.eqFields d X X fs).run P w = .ok true w
  | [], _ => by simp [Op.eqFields]
  | f :: fs, h => by
    obtain ⟨hn, v, h1, h2⟩ := h f (by simp)
    have ih := eqFields_self P w d X fs fun g hg => h g (by simp [hg])
    simp only [Op.eqFields, hn, ne_eq, not_false_eq_true, if_true, Sem.run_bind, h1, h2, Result.andThen_ok]
    simpa using ih
theorem fields_rext : ∃ f1 f2, (Tryz.prog.fieldsOf 63).toList = [f1, f2] ∧ f1.name ≠ "_" ∧ f2.name ≠ "_" ∧ (f1.type = 9 ∧ f1.offset = 0) ∧ f2.type = 9 ∧ f2.offset = 1 := by
  have h : (Tryz.prog.fieldsOf 63).toList.map (fun f => (f.name == "_", f.type, f.offset)) = [(false, 9, 0), (false, 9, 1)] := by kernel_rfl
  generalize (Tryz.prog.fieldsOf 63).toList = l at *
  match l, h with
  | [], h => cases h
  | [_], h => simp at h
  | _ :: _ :: _ :: _, h => simp at h
  | [f1, f2], h =>
    simp only [List.map_cons, List.map_nil, List.cons.injEq, Prod.mk.injEq, and_true, beq_eq_false_iff_ne] at h
    exact ⟨f1, f2, rfl, h.1.1, h.2.1, h.1.2, h.2.2⟩
theorem part_strF (w : World) (X : Array Value) (o : Nat) (p : ByteArray) (h : X[o]? = some (.string p)) : (part 9 X o).run Tryz.prog w = .ok (.string p) w :=
  run_part_plain w (by kernel_rfl) h
theorem guard_a20 (x y : Operand) (u v : Array Value) (W : World) : (eqGuard .neq 22 x y (.agg u) (.agg v)).run Tryz.prog W = .ok () W := by
  simp [eqGuard]
theorem neq_a20 (w : World) (n : List Int) (h : n.length = 20) : (binOp .neq 22 (.agg (V8 n)) (.agg (V8 n))).run Tryz.prog w = .ok (.bool false) w := by
  rw [run_neq_struct, run_equalIn_arr w 22 20 Tryz.underlying22 n n h h, beq_self_eq_true]
  rfl
end Go.Proofs.YtkpiinjhcckhfaaGreatDoor
