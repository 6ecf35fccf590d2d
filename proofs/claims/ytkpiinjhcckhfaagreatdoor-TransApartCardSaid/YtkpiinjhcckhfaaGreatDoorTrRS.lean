/- The document's Same of commits and changes by themselves, whatever they tell: the walks. -/
import Derived.Test.YtkpiinjhcckhfaaGreatDoorTrRef
namespace Go.Proofs.YtkpiinjhcckhfaaGreatDoor
open Go.RowKit Plain Go.ChangeShapes Go.WideShapes Go.ChangeAt Go.Great
set_option linter.unusedVariables false
set_option linter.unusedSimpArgs false
theorem neq_int (s t : Int) (W : World) : (binOp .neq 3 (.int .i64 s) (.int .i64 t)).run Tryz.prog W = .ok (.bool (!(s == t))) W := by
  have h : (s != t) = !(s == t) := rfl
  simp [binOp, go_sem, h]
theorem guard_neqi (x y : Operand) (s t : Int) (W : World) : (eqGuard .neq 3 x y (.int .i64 s) (.int .i64 t)).run Tryz.prog W = .ok () W := by simp [eqGuard]
set_option maxRecDepth 100000 in
theorem eqin_rwhos (d : Nat) (w : World) (x y : WX) : (Op.equalIn (d + 4) 25 (.agg (whoA x)) (.agg (whoA y))).run Tryz.prog w = .ok (decide (x = y)) w := by
  obtain ⟨f1, f2, f3, f4, hf, ⟨n1, n2, n3, n4⟩, ⟨t1, o1⟩, ⟨t2, o2⟩, ⟨t3, o3⟩, t4, o4⟩ := fields_rwho
  rw [run_equalIn_struct w (d + 3) 25 _ _ Tryz.underlying25 (by kernel_rfl), hf]
  have h := eqFields_any Tryz.prog w (d + 3) (whoA x) (whoA y) [(f1, x.n.toList == y.n.toList), (f2, x.m.toList == y.m.toList), (f3, x.t == y.t), (f4, x.z.toList == y.z.toList)] fun p hm => by
    simp only [List.mem_cons, List.not_mem_nil, or_false] at hm
    rcases hm with rfl | rfl | rfl | rfl
    · exact ⟨n1, .string x.n, .string y.n, by rw [t1, o1]; exact run_part_plain w (by kernel_rfl) rfl, by rw [t1, o1]; exact run_part_plain w (by kernel_rfl) rfl, by rw [t1]; exact run_equalIn_string w (d + 2) 9 x.n y.n Tryz.underlying9⟩
    · exact ⟨n2, .string x.m, .string y.m, by rw [t2, o2]; exact run_part_plain w (by kernel_rfl) rfl, by rw [t2, o2]; exact run_part_plain w (by kernel_rfl) rfl, by rw [t2]; exact run_equalIn_string w (d + 2) 9 x.m y.m Tryz.underlying9⟩
    · exact ⟨n3, .int .i64 x.t, .int .i64 y.t, by rw [t3, o3]; exact run_part_plain w (by kernel_rfl) rfl, by rw [t3, o3]; exact run_part_plain w (by kernel_rfl) rfl, by rw [t3]; exact run_equalIn_int w (d + 2) 3 .i64 .i64 x.t y.t Tryz.underlying3⟩
    · exact ⟨n4, .string x.z, .string y.z, by rw [t4, o4]; exact run_part_plain w (by kernel_rfl) rfl, by rw [t4, o4]; exact run_part_plain w (by kernel_rfl) rfl, by rw [t4]; exact run_equalIn_string w (d + 2) 9 x.z y.z Tryz.underlying9⟩
  refine h.trans ?_
  congr 1
  simp only [List.all_cons, List.all_nil, Bool.and_true, strq]
  obtain ⟨n, m, t, z⟩ := x
  obtain ⟨n', m', t', z'⟩ := y
  rw [Bool.eq_iff_iff]
  simp
theorem neqs_rwho (x y : WX) (w : World) : (binOp .neq 25 (.agg (whoA x)) (.agg (whoA y))).run Tryz.prog w = .ok (.bool (!decide (x = y))) w := by
  rw [run_neq_struct, show (10000 : Nat) = 9996 + 4 from rfl, eqin_rwhos]
  rfl
set_option maxRecDepth 100000 in
theorem neqs_rce (w : World) (x y : ByteArray × ByteArray) : (binOp .neq 65 (.agg (extE x).toArray) (.agg (extE y).toArray)).run Tryz.prog w = .ok (.bool (!decide (x = y))) w := by
  obtain ⟨f1, f2, hf, n1, n2, ⟨t1, o1⟩, t2, o2⟩ := fields_rcext
  have e : (Op.equalIn (9996 + 4) 65 (.agg (extE x).toArray) (.agg (extE y).toArray)).run Tryz.prog w = .ok (decide (x = y)) w := by
    rw [run_equalIn_struct w (9996 + 3) 65 _ _ Tryz.underlying65 (by kernel_rfl), hf]
    have h := eqFields_any Tryz.prog w (9996 + 3) (extE x).toArray (extE y).toArray [(f1, x.1.toList == y.1.toList), (f2, x.2.toList == y.2.toList)] fun p hm => by
      simp only [List.mem_cons, List.not_mem_nil, or_false] at hm
      rcases hm with rfl | rfl
      · exact ⟨n1, .string x.1, .string y.1, by rw [t1, o1]; exact part_strF w _ 0 x.1 rfl, by rw [t1, o1]; exact part_strF w _ 0 y.1 rfl, by rw [t1]; exact run_equalIn_string w (9996 + 2) 9 x.1 y.1 Tryz.underlying9⟩
      · exact ⟨n2, .string x.2, .string y.2, by rw [t2, o2]; exact part_strF w _ 1 x.2 rfl, by rw [t2, o2]; exact part_strF w _ 1 y.2 rfl, by rw [t2]; exact run_equalIn_string w (9996 + 2) 9 x.2 y.2 Tryz.underlying9⟩
    refine h.trans ?_
    congr 1
    simp only [List.all_cons, List.all_nil, Bool.and_true, strq]
    obtain ⟨a, b⟩ := x
    obtain ⟨a', b'⟩ := y
    rw [Bool.eq_iff_iff]
    simp
  rw [run_neq_struct]
  rw [show (9996 + 4 : Nat) = 10000 from rfl] at e
  rw [e]
  rfl
theorem guardn_rce (x y : Operand) (u v : Array Value) (W : World) : (eqGuard .neq 65 x y (.agg u) (.agg v)).run Tryz.prog W = .ok () W := by simp [eqGuard]
set_option maxRecDepth 100000 in
theorem neqs_rxe (w : World) (x y : ByteArray × ByteArray) : (binOp .neq 63 (.agg (extE x).toArray) (.agg (extE y).toArray)).run Tryz.prog w = .ok (.bool (!decide (x = y))) w := by
  obtain ⟨f1, f2, hf, n1, n2, ⟨t1, o1⟩, t2, o2⟩ := fields_rext
  have e : (Op.equalIn (9996 + 4) 63 (.agg (extE x).toArray) (.agg (extE y).toArray)).run Tryz.prog w = .ok (decide (x = y)) w := by
    rw [run_equalIn_struct w (9996 + 3) 63 _ _ Tryz.underlying63 (by kernel_rfl), hf]
    have h := eqFields_any Tryz.prog w (9996 + 3) (extE x).toArray (extE y).toArray [(f1, x.1.toList == y.1.toList), (f2, x.2.toList == y.2.toList)] fun p hm => by
      simp only [List.mem_cons, List.not_mem_nil, or_false] at hm
      rcases hm with rfl | rfl
      · exact ⟨n1, .string x.1, .string y.1, by rw [t1, o1]; exact part_strF w _ 0 x.1 rfl, by rw [t1, o1]; exact part_strF w _ 0 y.1 rfl, by rw [t1]; exact run_equalIn_string w (9996 + 2) 9 x.1 y.1 Tryz.underlying9⟩
      · exact ⟨n2, .string x.2, .string y.2, by rw [t2, o2]; exact part_strF w _ 1 x.2 rfl, by rw [t2, o2]; exact part_strF w _ 1 y.2 rfl, by rw [t2]; exact run_equalIn_string w (9996 + 2) 9 x.2 y.2 Tryz.underlying9⟩
    refine h.trans ?_
    congr 1
    simp only [List.all_cons, List.all_nil, Bool.and_true, strq]
    obtain ⟨a, b⟩ := x
    obtain ⟨a', b'⟩ := y
    rw [Bool.eq_iff_iff]
    simp
  rw [run_neq_struct]
  rw [show (9996 + 4 : Nat) = 10000 from rfl] at e
  rw [e]
  rfl
theorem guardn_rxe (x y : Operand) (u v : Array Value) (W : World) : (eqGuard .neq 63 x y (.agg u) (.agg v)).run Tryz.prog W = .ok () W := by simp [eqGuard]
end Go.Proofs.YtkpiinjhcckhfaaGreatDoor
