/- Where a text was copied from: values. -/
import Derived.Test.YtmkhnlfhbiabcaaDoorCut
import Derived.Test.YtmkhnlfhbiabcaaDoorBackText
import Derived.Test.YtmkhnlfhbiabcaaDoorRefPath
import Derived.ChangeArms
import Derived.ChangeAt
namespace Go.Proofs.YtmkhnlfhbiabcaaDoor
open Go.RowKit Plain Go.ChangeShapes Go.WideShapes Go.ChangeAt
set_option linter.unusedVariables false
def fromA (p : ByteArray) (id : List Int) : Array Value := (Value.string p :: id.map (Value.int .u8)).toArray
theorem fromA_size (p : ByteArray) (id : List Int) : (fromA p id).size = id.length + 1 := by simp [fromA]
theorem fromA_one (p : ByteArray) (id : List Int) : (fromA p id).all (·.oneCell') = true := by
  rw [Array.all_eq_true_iff_forall_mem]
  intro v hv
  have hv' : v ∈ Value.string p :: id.map (Value.int .u8) := by simpa [fromA] using hv
  rcases List.mem_cons.1 hv' with rfl | hv'
  · rfl
  · obtain ⟨x, -, rfl⟩ := List.mem_map.1 hv'; rfl
theorem from_info (p : ByteArray) (id : List Int) (h : id.length = 20) : (Tryd.prog.info? 28).map (·.size) = some (fromA p id).size := by rw [fromA_size, h]; kernel_rfl
theorem rfrom_info (p : ByteArray) (id : List Int) (h : id.length = 20) : (Tryd.prog.info? 25).map (·.size) = some (fromA p id).size := by rw [fromA_size, h]; kernel_rfl
theorem from_cell {w : World} {g : Nat} {p : ByteArray} {id : List Int} {t : TypeId} {fr : Nat × Nat} (R : w.heap[g]? = some (.cells (fromA p id) t fr)) : w.cell? ⟨g, 0, none⟩ = some (.string p) := by
  rw [cell_of_row _ _ _ _ _ _ R]
  simp [fromA]
theorem from_range {w : World} {g : Nat} {p : ByteArray} {id : List Int} {t : TypeId} {fr : Nat × Nat} (R : w.heap[g]? = some (.cells (fromA p id) t fr)) : w.rangeAt g 1 (id.map (Value.int .u8)) := fun j v hj => by
  rw [cell_of_row _ _ _ _ _ _ R, ← hj]
  simp [fromA, Nat.add_comm 1 j]
theorem list20 {xs : List Int} (h : xs.length = 20) : ∃ a0 a1 a2 a3 a4 a5 a6 a7 a8 a9 a10 a11 a12 a13 a14 a15 a16 a17 a18 a19 : Int, xs = [a0, a1, a2, a3, a4, a5, a6, a7, a8, a9, a10, a11, a12, a13, a14, a15, a16, a17, a18, a19] := by
  match xs, h with
  | [a0, a1, a2, a3, a4, a5, a6, a7, a8, a9, a10, a11, a12, a13, a14, a15, a16, a17, a18, a19], _ => exact ⟨a0, a1, a2, a3, a4, a5, a6, a7, a8, a9, a10, a11, a12, a13, a14, a15, a16, a17, a18, a19, rfl⟩
theorem built_from (p : ByteArray) (a0 a1 a2 a3 a4 a5 a6 a7 a8 a9 a10 a11 a12 a13 a14 a15 a16 a17 a18 a19 : Int) : Tryd.prog.built 28 [(0, .string p), (1, .agg #[.int .u8 a0, .int .u8 a1, .int .u8 a2, .int .u8 a3, .int .u8 a4, .int .u8 a5, .int .u8 a6, .int .u8 a7, .int .u8 a8, .int .u8 a9, .int .u8 a10, .int .u8 a11, .int .u8 a12, .int .u8 a13, .int .u8 a14, .int .u8 a15, .int .u8 a16, .int .u8 a17, .int .u8 a18, .int .u8 a19])] = some (fromA p [a0, a1, a2, a3, a4, a5, a6, a7, a8, a9, a10, a11, a12, a13, a14, a15, a16, a17, a18, a19]) := by kernel_rfl
theorem built_rfrom (p : ByteArray) (a0 a1 a2 a3 a4 a5 a6 a7 a8 a9 a10 a11 a12 a13 a14 a15 a16 a17 a18 a19 : Int) : Tryd.prog.built 25 [(0, .string p), (1, .agg #[.int .u8 a0, .int .u8 a1, .int .u8 a2, .int .u8 a3, .int .u8 a4, .int .u8 a5, .int .u8 a6, .int .u8 a7, .int .u8 a8, .int .u8 a9, .int .u8 a10, .int .u8 a11, .int .u8 a12, .int .u8 a13, .int .u8 a14, .int .u8 a15, .int .u8 a16, .int .u8 a17, .int .u8 a18, .int .u8 a19])] = some (fromA p [a0, a1, a2, a3, a4, a5, a6, a7, a8, a9, a10, a11, a12, a13, a14, a15, a16, a17, a18, a19]) := by kernel_rfl
theorem build_from (p : ByteArray) (id : List Int) (h : id.length = 20) (W : World) : (Instr.build 28 #[(0, .string p), (1, .agg (V8 id))]).run Tryd.prog W = .ok (.agg (fromA p id)) W := by
  obtain ⟨a0, a1, a2, a3, a4, a5, a6, a7, a8, a9, a10, a11, a12, a13, a14, a15, a16, a17, a18, a19, rfl⟩ := list20 h
  exact run_build W _ _ _ (built_from p a0 a1 a2 a3 a4 a5 a6 a7 a8 a9 a10 a11 a12 a13 a14 a15 a16 a17 a18 a19)
theorem build_rfrom (p : ByteArray) (id : List Int) (h : id.length = 20) (W : World) : (Instr.build 25 #[(0, .string p), (1, .agg (V8 id))]).run Tryd.prog W = .ok (.agg (fromA p id)) W := by
  obtain ⟨a0, a1, a2, a3, a4, a5, a6, a7, a8, a9, a10, a11, a12, a13, a14, a15, a16, a17, a18, a19, rfl⟩ := list20 h
  exact run_build W _ _ _ (built_rfrom p a0 a1 a2 a3 a4 a5 a6 a7 a8 a9 a10 a11 a12 a13 a14 a15 a16 a17 a18 a19)
theorem build_none (W : World) : (Instr.build 28 #[]).run Tryd.prog W = .ok (.agg (fromA ⟨#[]⟩ zeros20)) W := by kernel_rfl
theorem build_noId (W : World) : (Instr.build 23 #[]).run Tryd.prog W = .ok (.agg (V8 zeros20)) W := by kernel_rfl
theorem zero_from (W : World) : (zeroValue 28).run Tryd.prog W = .ok (.agg (fromA ⟨#[]⟩ zeros20)) W := by kernel_rfl
theorem zero_rfrom (W : World) : (zeroValue 25).run Tryd.prog W = .ok (.agg (fromA ⟨#[]⟩ zeros20)) W := by kernel_rfl
theorem part_str (w : World) (p : ByteArray) (id : List Int) : (part 9 (fromA p id) 0).run Tryd.prog w = .ok (.string p) w :=
  run_part_plain w (by kernel_rfl) (by simp [fromA])
theorem part_node (w : World) (p : ByteArray) (id : List Int) (h : id.length = 20) : (part 26 (fromA p id) 1).run Tryd.prog w = .ok (.agg (V8 id)) w := by
  have hagg : (isAgg 26).run Tryd.prog w = .ok true w := by kernel_rfl
  obtain ⟨i, hi, h1⟩ := Option.map_eq_some_iff.1 (show (Tryd.prog.info? 26).map (·.size) = some 20 from by kernel_rfl)
  have e : (fromA p id).extract 1 (1 + 20) = V8 id := by
    apply Array.ext'
    have h2 : (List.map (Value.int .u8) id).length = 20 := by rw [List.length_map]; exact h
    simp only [fromA, V8]
    simp
    rw [List.take_of_length_le (by rw [List.length_map]; omega)]
  simp [part, hagg, sizeOf, typeInfo, hi, h1, e]
theorem fields_from : ∃ f1 f2, (Tryd.prog.fieldsOf 28).toList = [f1, f2] ∧ f1.name ≠ "_" ∧ f2.name ≠ "_" ∧ f1.type = 9 ∧ f1.offset = 0 ∧ f2.type = 26 ∧ f2.offset = 1 := by
  have h : (Tryd.prog.fieldsOf 28).toList.map (fun f => (f.name == "_", f.type, f.offset)) = [(false, 9, 0), (false, 26, 1)] := by kernel_rfl
  generalize (Tryd.prog.fieldsOf 28).toList = l at *
  match l, h with
  | [], h => cases h
  | [_], h => simp at h
  | _ :: _ :: _ :: _, h => simp at h
  | [f1, f2], h =>
    simp only [List.map_cons, List.map_nil, List.cons.injEq, Prod.mk.injEq, and_true, beq_eq_false_iff_ne] at h
    exact ⟨f1, f2, rfl, h.1.1, h.2.1, h.1.2.1, h.1.2.2, h.2.2.1, h.2.2.2⟩
theorem run_equalIn_arr8 (w : World) (d : Nat) (t : TypeId) (n : Nat) (ht : Tryd.prog.underlying t = some (.array n 5)) (xs ys : List Int) (hx : xs.length = n) (hy : ys.length = n) :
    (Op.equalIn (d + 2) t (.agg (V8 xs)) (.agg (V8 ys))).run Tryd.prog w = .ok (xs == ys) w := by
  obtain ⟨i, hi, -⟩ := Option.map_eq_some_iff.1 (show (Tryd.prog.info? 5).map (fun i => (i.zero, i.size, i.bytes)) = some (some (.int .u8 0), 1, 1) from by kernel_rfl)
  rw [run_equalIn_array w (d + 1) (V8 xs) (V8 ys) ht hi, u8cells, eqItems_u8 d w xs ys (List.range n) (fun j hj => by have := List.mem_range.1 hj; omega)]
  rw [all_eq_list xs ys n hx hy]
theorem eqFields_two (P : Program) (w : World) (d : Nat) (X Y : Array Value) (f1 f2 : Field) (a1 b1 a2 b2 : Value) (r1 r2 : Bool) (n1 : f1.name ≠ "_") (n2 : f2.name ≠ "_")
    (x1 : (part f1.type X f1.offset).run P w = .ok a1 w) (y1 : (part f1.type Y f1.offset).run P w = .ok b1 w)
    (x2 : (part f2.type X f2.offset).run P w = .ok a2 w) (y2 : (part f2.type Y f2.offset).run P w = .ok b2 w)
    (e1 : (Op.equalIn d f1.type a1 b1).run P w = .ok r1 w) (e2 : (Op.equalIn d f2.type a2 b2).run P w = .ok r2 w) :
    (Op.eqFields d X Y [f1, f2]).run P w = .ok (r1 && r2) w := by
  simp only [Op.eqFields, n1, n2, ne_eq, not_false_eq_true, if_true, Sem.run_bind, x1, y1, e1, Result.andThen_ok]
  cases r1
  · simp
  · simp only [Bool.not_true, Bool.false_eq_true, if_false, Sem.run_bind, x2, y2, e2, Result.andThen_ok]
    cases r2 <;> simp
theorem equal_from (w : World) (d : Nat) (X Y : Array Value) (p q : ByteArray) (id jd : List Int) (hp : id.length = 20) (hq : jd.length = 20)
    (x1 : (part 9 X 0).run Tryd.prog w = .ok (.string p) w) (y1 : (part 9 Y 0).run Tryd.prog w = .ok (.string q) w)
    (x2 : (part 26 X 1).run Tryd.prog w = .ok (.agg (V8 id)) w) (y2 : (part 26 Y 1).run Tryd.prog w = .ok (.agg (V8 jd)) w) :
    (Op.equalIn (d + 4) 28 (.agg X) (.agg Y)).run Tryd.prog w = .ok (p.toList == q.toList && id == jd) w := by
  obtain ⟨f1, f2, hf, n1, n2, t1, o1, t2, o2⟩ := fields_from
  rw [run_equalIn_struct w (d + 3) 28 X Y Tryd.underlying28 (by kernel_rfl), hf]
  exact eqFields_two Tryd.prog w (d + 3) X Y f1 f2 _ _ _ _ _ _ n1 n2 (by rw [t1, o1]; exact x1) (by rw [t1, o1]; exact y1) (by rw [t2, o2]; exact x2) (by rw [t2, o2]; exact y2)
    (by rw [t1]; exact run_equalIn_string w (d + 2) 9 p q Tryd.underlying9) (by rw [t2]; exact run_equalIn_arr8 w (d + 1) 26 20 Tryd.underlying26 _ _ hp hq)
theorem eql_from (w : World) (p q : ByteArray) (id jd : List Int) (hp : id.length = 20) (hq : jd.length = 20) : (binOp .eql 28 (.agg (fromA p id)) (.agg (fromA q jd))).run Tryd.prog w = .ok (.bool (p.toList == q.toList && id == jd)) w := by
  rw [run_eql_struct]
  have e := equal_from w 9996 _ _ p q id jd hp hq (part_str w p id) (part_str w q jd) (part_node w p id hp) (part_node w q jd hq)
  rw [show (9996 + 4 : Nat) = 10000 from rfl] at e
  rw [e]
  rfl
/-- Is that no copy? -/
def noFrom (p : ByteArray) (id : List Int) : Bool := p.toList == (⟨#[]⟩ : ByteArray).toList && id == zeros20
end Go.Proofs.YtmkhnlfhbiabcaaDoor
